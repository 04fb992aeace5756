/- Stage 14: the document's Put, where it takes a payload. -/
import Derived.Test.YtnpdjlcekmpmoaaSpF
set_option maxRecDepth 20000
namespace Go.Proofs.Ytnpdjlcekmpmoaa
open Go.RowKit Go.Sort Go.Maps

section
variable {w : World} {D : Nat → Prop} {A A2 : Option Addr} {c c2 : Nat} {m : Sm}
set_option maxHeartbeats 6400000 in
theorem refPut_yes (h : RsAt w D A c A2 c2 m) (hm : m.Ok) (x : Id) (b : List UInt8) {A3 : Option Addr} {n c3 : Nat} (_ : n ≤ 1000) (hbl : b.length = n) (hb : Lies w w.heap.size A3 (bvs b)) (hlen : m.l.length ≤ 1000) (ht : hasL m.l x = false) (hy : m.may x = true) (hlo : ¬ x.s ≤ num m.fl x.f) (hro : ¬ m.room - useL m.l < n) :
    Calls Try.prog 26 #[.agg (rsCells A c A2 c2 m), valId x, .slice A3 n c3] w (GotS w A c A2 c2 m { m with l := m.l ++ [⟨x, b⟩] } (.bool true)) := by
  have mixed := mixedOrders
  have HG : Hid (∀ W, RowKit.Below w.heap.size w W → Calls Try.prog 27 #[.agg #[.int .i64 (m.n : Int), .int .i64 (m.room : Int), .slice A m.l.length c, .slice A2 m.n c2], .agg #[.int .u8 (x.f : Int), .int .u64 (x.s : Int)]] W fun e w' => e = .returned (.tuple #[.string (str (getL m.l x)), .bool (hasL m.l x)]) ∧ RowKit.Below W.heap.size W w') := fun W hW => refGet_any (h.on hW) x
  have HU : Hid (∀ W, RowKit.Below w.heap.size w W → Calls Try.prog 13 #[.agg #[.int .i64 (m.n : Int), .int .i64 (m.room : Int), .slice A m.l.length c, .slice A2 m.n c2]] W fun e w' => e = .returned (.int .i64 (useL m.l : Int)) ∧ RowKit.Below W.heap.size W w') := fun W hW => refUsed_any (h.on hW) (by have := hm.use; have := hm.room; omega)
  have HMay : Hid (∀ W, Calls Try.prog 23 #[.agg #[.int .u8 (x.f : Int), .int .u64 (x.s : Int)], .int .i64 (m.n : Int)] W fun e w' => e = .returned (.bool (m.may x)) ∧ Grew W w') := fun W => by
    have := refMay_any x (m.n : Int) W (by have := hm.n2; omega)
    refine this.mono ?_
    rintro e w' ⟨rfl, hg⟩
    refine ⟨ret_bool ?_, hg⟩
    unfold Sm.may
    congr 1
    exact decide_eq_decide.2 (by omega)
  have HFL : Hid (m.may x = true → ∃ bf of', A2 = some ⟨bf, of', none⟩ ∧ bf < w.heap.size ∧ x.f < m.n ∧ w.cell? ⟨bf, of' + x.f, none⟩ = some (.int .u64 (num m.fl x.f : Int))) := fun hq => by
    unfold Sm.may at hq
    simp only [Bool.and_eq_true, decide_eq_true_eq] at hq
    have hl : x.f < m.fl.length := by rw [hm.fl]; exact hq.1
    obtain ⟨bf, of', e, hb, hc⟩ := h.floors.lies.at_ (uvs_at hl)
    rw [← num_in hl] at hc
    exact ⟨bf, of', e, hb, hq.1, hc⟩
  have hus := hm.use
  have hrm := hm.room
  have hn1 := hm.n1
  have hn2 := hm.n2
  obtain ⟨bf, of', rfl, hbf, hfn, cf⟩ := HFL.out hy
  have HCV : Hid (∀ V, RowKit.Below w.heap.size w V → (convert 34 9 (.slice A3 n c3)).run Try.prog V = .ok (.string (str b)) V) := keepS_of hbl hb
  have HAL0 : Hid (∀ V, RowKit.Below w.heap.size w V → Lies V V.heap.size A (flat encX m.l)) := fun V hV => h.lies.lies.later hV
  obtain ⟨z, hz0⟩ : ∃ z : Hp, z = ⟨x, b⟩ := ⟨_, rfl⟩
  have hz : encX z = [.int .u8 (x.f : Int), .int .u64 (x.s : Int), .string (str b)] := by rw [hz0]; rfl
  have HGS : Hid (∀ w' A4 c4, m.l.length + 1 ≤ c4 → c4 ≤ maxLen → RowKit.Below w.heap.size w w' → w'.ownsRow w.heap.size 64 3 (.slice A4 (m.l.length + 1) c4) (m.l.length + 1) (flat encX (m.l ++ [z])) → GotS w A c (some ⟨bf, of', none⟩) c2 m { m with l := m.l ++ [⟨x, b⟩] } (.bool true) (.returned (.tuple #[.agg #[.int .i64 (m.n : Int), .int .i64 (m.room : Int), .slice A4 (m.l.length + 1) c4, .slice (some ⟨bf, of', none⟩) m.n c2], .bool true])) w') := fun w' A4 c4 h1 h2 h3 h4 => ⟨A4, c4, some ⟨bf, of', none⟩, c2, by unfold rsCells; rw [show ({ m with l := m.l ++ [⟨x, b⟩] } : Sm).l.length = m.l.length + 1 from by simp], h3, fun D hD hR => ⟨by subst hz0; exact LiesX.of_own h4 fun k hk => hD k hk, by simpa using h1, h2, hR.floors.kept (OnlyE.of_below h3), hR.lc2, hR.cm2⟩⟩
  clear hz0
  rw [ht] at HG
  rw [hy] at HMay
  clear ht hy
  have hdl : decide (x.s ≤ num m.fl x.f) = false := decide_eq_false hlo
  have hdr : decide (m.room - useL m.l < n) = false := decide_eq_false hro
  have hd0 : (m.room : Int) - (useL m.l : Int) = ((m.room - useL m.l : Nat) : Int) := by omega
  have hfr : m.room - useL m.l ≤ 9223372036854775807 := by omega
  unfold rsCells valId
  clear h hm HFL hb hbl
  generalize getL m.l x = gb at HG
  generalize num m.fl x.f = fv at *
  generalize m.room - useL m.l = fr at *
  generalize useL m.l = us at *
  obtain ⟨N, hNN⟩ : ∃ N, m.n = N := ⟨_, rfl⟩
  obtain ⟨rm, hRR⟩ : ∃ rm, m.room = rm := ⟨_, rfl⟩
  obtain ⟨L, hLL⟩ : ∃ L, m.l.length = L := ⟨_, rfl⟩
  have HLN : Hid (m.l.length = L) := hLL
  rw [hLL] at HGS HG HU hlen ⊢
  rw [hNN] at HGS HG HU HMay hfn hn1 hn2 ⊢
  rw [hRR] at HGS HG HU hus hrm hd0 ⊢
  clear hNN hRR hLL
  have hxf := x.hf
  have hxs := x.hs
  obtain ⟨f, hff⟩ : ∃ f, x.f = f := ⟨_, rfl⟩
  obtain ⟨s, hss⟩ : ∃ s, x.s = s := ⟨_, rfl⟩
  rw [hff] at HG HMay hfn cf hz hxf ⊢
  rw [hss] at HG HMay hz hdl hlo hxs ⊢
  clear hff hss
  go_enter Try.func26, Try.ntmps26
  go_wp2_with fail
  generalize hw0 : World.alloc (World.alloc (World.alloc w _) _) _ = w0
  have P0 : PBox w #[.int .i64 (N : Int), .int .i64 (rm : Int), .slice A L c, .slice (some ⟨bf, of', none⟩) N c2] #[.int .u8 (f : Int), .int .u64 (s : Int)] zeroS w0 := PBox.start hw0
  have x0 := P0.c (i := 0) rfl
  have x1 := P0.c (i := 1) rfl
  have x2 := P0.c (i := 2) rfl
  have x3 := P0.c (i := 3) rfl
  have i0 := P0.ci (i := 0) rfl
  have i1 := P0.ci (i := 1) rfl
  have H0 := Lib.hid P0
  clear hw0 P0
  go_wp2_with fail
  refine (HG.out w0 H0.out.below).mono ?_
  rintro e w1 ⟨rfl, hb1⟩
  have P1 := H0.out.on hb1
  have H1 := Lib.hid P1
  have hlt1 := P1.lt
  have l0 := P1.c (i := 0) rfl
  clear x0 x1 x2 x3 i0 i1 H0 hb1 l0
  have x0 := later_cell (w0 := w1) (b := w.heap.size) (by omega) (P1.c (i := 0) rfl)
  have x1 := later_cell (w0 := w1) (b := w.heap.size) (by omega) (P1.c (i := 1) rfl)
  have x2 := later_cell (w0 := w1) (b := w.heap.size) (by omega) (P1.c (i := 2) rfl)
  have x3 := later_cell (w0 := w1) (b := w.heap.size) (by omega) (P1.c (i := 3) rfl)
  have i0 := later_cell (w0 := w1) (b := w.heap.size + 1) (by omega) (P1.ci (i := 0) rfl)
  have i1 := later_cell (w0 := w1) (b := w.heap.size + 1) (by omega) (P1.ci (i := 1) rfl)
  have yf := later_cell (w0 := w1) (b := bf) (by omega) ((P1.below.cell (p := ⟨bf, of' + f, none⟩) hbf).trans cf)
  clear P1
  go_wp2_with fail
  refine wp_region_later mixed (by kernel_rfl) ?_
  repeat (go_big_quiet_step (first | (go_at_call 23; exact later_grew (HMay.out _)) | (go_at_call 13; exact later_of (HU.out _ (H1.out.below.trans (Later.hb _ |>.mono H1.out.below.size)))) | fail))
  refine wpQuiet_nil ?_
  intro _ hw'
  obtain ⟨p, rfl⟩ := hw'
  have H2 := Lib.hid (H1.out.on p.hb)
  clear x0 x1 x2 x3 i0 i1
  clear yf
  have H6 := Lib.hid H2.out
  have HBW := Lib.hid H2.out.below
  generalize p.w = W6 at H6 HBW ⊢
  have HAL : Hid (∀ V, RowKit.Below W6.heap.size W6 V → Lies V V.heap.size A (flat encX m.l)) := fun V hV => HAL0.out V (HBW.out.trans (hV.mono HBW.out.size))
  have HCV6 : Hid (∀ V, RowKit.Below W6.heap.size W6 V → (convert 34 9 (.slice A3 n c3)).run Try.prog V = .ok (.string (str b)) V) := fun V hV => HCV.out V (HBW.out.trans (hV.mono HBW.out.size))
  clear H2 HAL0 HCV HG HU HMay
  have HCV := HCV6
  clear HCV6
  go_wp2_with fail
  refine wp_region_Z 11 (fun V => RowKit.Below W6.heap.size W6 V) (by kernel_rfl) ?_
  have hHeld : RowKit.Below W6.heap.size W6 W6.drew := drewB W6
  generalize hW00 : World.drew W6 = W00 at hHeld ⊢
  have hs00 : W6.heap.size ≤ W00.heap.size := hHeld.size
  clear hW00
  refine wpZ_take (i := 1) (d := 47) (v := ?_) rfl rfl (by kernel_rfl) (by kernel_rfl) (by kernel_rfl) (by kernel_rfl) (fun _ _ _ h => h) (Or.inl ⟨by rfl, ?_⟩) hHeld ?_
  rotate_left
  · (intro _ hSw; have x2 := (H6.out.on hSw).c (i := 2) rfl; have i0 := (H6.out.on hSw).ci (i := 0) rfl; have i1 := (H6.out.on hSw).ci (i := 1) rfl; have hcv := HCV.out _ hSw; go_simp; try with_reducible rfl)
  simp only [List.setIfInBounds_toArray, List.set_cons_zero, List.set_cons_succ]
  refine wpZ_take (i := 2) (d := 48) (v := ?_) rfl rfl (by kernel_rfl) (by kernel_rfl) (by kernel_rfl) (by kernel_rfl) (fun _ _ _ h => h) (Or.inl ⟨by rfl, ?_⟩) hHeld ?_
  rotate_left
  · (intro _ hSw; have x2 := (H6.out.on hSw).c (i := 2) rfl; have i0 := (H6.out.on hSw).ci (i := 0) rfl; have i1 := (H6.out.on hSw).ci (i := 1) rfl; have hcv := HCV.out _ hSw; go_simp; try with_reducible rfl)
  simp only [List.setIfInBounds_toArray, List.set_cons_zero, List.set_cons_succ]
  refine wpZ_take (i := 4) (d := 50) (v := ?_) rfl rfl (by kernel_rfl) (by kernel_rfl) (by kernel_rfl) (by kernel_rfl) (fun _ _ _ h => h) (Or.inl ⟨by rfl, ?_⟩) hHeld ?_
  rotate_left
  · (intro _ hSw; have x2 := (H6.out.on hSw).c (i := 2) rfl; have i0 := (H6.out.on hSw).ci (i := 0) rfl; have i1 := (H6.out.on hSw).ci (i := 1) rfl; have hcv := HCV.out _ hSw; go_simp; try with_reducible rfl)
  simp only [List.setIfInBounds_toArray, List.set_cons_zero, List.set_cons_succ]
  refine wpZ_take (i := 5) (d := 51) (v := ?_) rfl rfl (by kernel_rfl) (by kernel_rfl) (by kernel_rfl) (by kernel_rfl) (fun _ _ _ h => h) (Or.inl ⟨by rfl, ?_⟩) hHeld ?_
  rotate_left
  · (intro _ hSw; have x2 := (H6.out.on hSw).c (i := 2) rfl; have i0 := (H6.out.on hSw).ci (i := 0) rfl; have i1 := (H6.out.on hSw).ci (i := 1) rfl; have hcv := HCV.out _ hSw; go_simp; try with_reducible rfl)
  simp only [List.setIfInBounds_toArray, List.set_cons_zero, List.set_cons_succ]
  refine wpZ_take (i := 6) (d := 52) (v := ?_) rfl rfl (by kernel_rfl) (by kernel_rfl) (by kernel_rfl) (by kernel_rfl) (fun _ _ _ h => h) (Or.inl ⟨by rfl, ?_⟩) hHeld ?_
  rotate_left
  · (intro _ hSw; have x2 := (H6.out.on hSw).c (i := 2) rfl; have i0 := (H6.out.on hSw).ci (i := 0) rfl; have i1 := (H6.out.on hSw).ci (i := 1) rfl; have hcv := HCV.out _ hSw; go_simp; try with_reducible rfl)
  simp only [List.setIfInBounds_toArray, List.set_cons_zero, List.set_cons_succ]
  refine wpZ_take (i := 7) (d := 53) (v := ?_) rfl rfl (by kernel_rfl) (by kernel_rfl) (by kernel_rfl) (by kernel_rfl) (fun _ _ _ h => h) (Or.inl ⟨by rfl, ?_⟩) hHeld ?_
  rotate_left
  · (intro _ hSw; have x2 := (H6.out.on hSw).c (i := 2) rfl; have i0 := (H6.out.on hSw).ci (i := 0) rfl; have i1 := (H6.out.on hSw).ci (i := 1) rfl; have hcv := HCV.out _ hSw; go_simp; try with_reducible rfl)
  simp only [List.setIfInBounds_toArray, List.set_cons_zero, List.set_cons_succ]
  refine wpZ_ready (rs := [0, 8]) (by kernel_rfl) (by simp) ?_
  refine AllReadyZ.cons rfl (fun K hK => ?_) (AllReadyZ.cons rfl (fun K hK => ?_) AllReadyZ.nil)
  · skip
    go_simp
    have hba : RowKit.Below W6.heap.size W6 (W00.alloc (.cells #[] 64)) := hHeld.alloc hs00 _
    have hoa : (W00.alloc (.cells #[] 64)).ownsRow W6.heap.size 64 3 (.slice (some ⟨W00.heap.size, 0, none⟩) 0 0) 0 [] := World.ownsRow_lit W00 #[] 0 hs00 (Nat.zero_le _) rfl
    have hHeld2 := hba
    refine hK.out _ _ (fun _ => hHeld2) ?_
    clear hK K hHeld
    have hHeld := hHeld2
    clear hHeld2
    refine wpZ_ready (rs := [3, 8]) (by kernel_rfl) (by simp) ?_
    refine AllReadyZ.cons rfl (fun K hK => ?_) (AllReadyZ.cons rfl (fun K hK => ?_) AllReadyZ.nil)
    · skip
      obtain ⟨A5, c5, W3, hrun3, ho3, hg3, hb3, -, -⟩ := app_x (c := c) hoa HLN.out (HAL.out _ hba) hba.size (by omega)
      rw [Nat.zero_add, List.nil_append] at ho3
      rw [Nat.zero_add] at hrun3
      have hb03 := hba.trans hb3
      refine wp_append_step (s := .tmp 46) (x := .tmp 48) (t := 26) rfl rfl rfl rfl hrun3 ?_
      go_simp
      have hHeld2 := hb03
      refine hK.out _ _ (fun _ => hHeld2) ?_
      clear hK K hHeld
      have hHeld := hHeld2
      clear hHeld2
      refine wpZ_ready (rs := [8]) (by kernel_rfl) (by simp) ?_
      refine AllReadyZ.cons rfl (fun K hK => ?_) AllReadyZ.nil
      go_simp
      have hbl : RowKit.Below W3.heap.size W3 (W3.alloc (.cells #[.int .u8 (f : Int), .int .u64 (s : Int), .string (str b)] 64)) := (RowKit.Below.refl _ _).alloc (Nat.le_refl _) _
      have hbc : RowKit.Below W6.heap.size W6 (W3.alloc (.cells #[.int .u8 (f : Int), .int .u64 (s : Int), .string (str b)] 64)) := hb03.trans (hbl.mono hb03.size)
      have hx1 := own_below ho3 hbl
      have hx2 : Lies (W3.alloc (.cells #[.int .u8 (f : Int), .int .u64 (s : Int), .string (str b)] 64)) (W3.heap.size + 1) (some ⟨W3.heap.size, 0, none⟩) (flat encX [z]) := by rw [flat_singleX, hz]; exact lies_new W3 #[.int .u8 (f : Int), .int .u64 (s : Int), .string (str b)] 64
      clear ho3 hg3 hb3 hbl hoa hrun3 hb03
      have hHeld2 := hbc
      refine hK.out _ _ (fun _ => hHeld2) ?_
      clear hK K hHeld
      have hHeld := hHeld2
      clear hHeld2
      obtain ⟨A4, c4, W4, hrun4, ho4, -, hb4, hq1, hq2⟩ := app_x (ys := [z]) (m := 1) (c := 1) hx1 rfl hx2 hbc.size (by omega)
      rw [← flat_append] at ho4
      have hb04 := hbc.trans hb4
      have HO4 := Lib.hid ho4
      refine wpZ_ready (rs := [9]) (by kernel_rfl) (by simp) ?_
      refine AllReadyZ.cons rfl (fun K hK => ?_) AllReadyZ.nil
      refine wp_append_step (s := .tmp 49) (x := .tmp 54) (t := 26) rfl rfl rfl rfl hrun4 ?_
      go_simp
      have hHeld2 := hb04
      refine hK.out _ _ (fun _ => hHeld2) ?_
      clear hK K hHeld
      have hHeld := hHeld2
      clear hHeld2
      refine wpZ_take (i := 10) (d := 56) (v := ?_) rfl rfl (by kernel_rfl) (by kernel_rfl) (by kernel_rfl) (by kernel_rfl) (fun _ _ _ h => h) (Or.inl ⟨by rfl, ?_⟩) hHeld ?_
      rotate_left
      · (intro _ hSw; have x2 := (H6.out.on hSw).c (i := 2) rfl; have i0 := (H6.out.on hSw).ci (i := 0) rfl; have i1 := (H6.out.on hSw).ci (i := 1) rfl; have hcv := HCV.out _ hSw; go_simp; try with_reducible rfl)
      simp only [List.setIfInBounds_toArray, List.set_cons_zero, List.set_cons_succ]
      have P4 := H6.out.on hHeld
      have y1 := P4.c (i := 2) rfl
      have y2 := P4.f 2
      have hy3 := P4.lt
      have hy4 : w.heap.size < W4.heap.size := by omega
      have H4 := Lib.hid (P4.setBox 2 (.slice A4 (L + 1) c4))
      have HO5 := Lib.hid (own_only HO4.out (onlyE_set (w := W4) (D := fun q => q = w.heap.size) rfl 2 (.slice A4 (L + 1) c4)) fun q hq e => by have := (HO4.out.lt q hq).1; have := H6.out.lt; omega)
      clear hHeld hrun4 P4 ho4
      refine wpZ_ready (rs := [11]) (by kernel_rfl) (by simp) ?_
      refine AllReadyZ.cons rfl (fun K hK => ?_) AllReadyZ.nil
      go_simp
      refine hK.out _ _ (fun h => absurd rfl h) ?_
      clear hK K
      refine wpZ_done (by kernel_rfl) ?_ _
      clear y1 y2
      have x0 := H4.out.c (i := 0) rfl
      have x1 := H4.out.c (i := 1) rfl
      have x2 := H4.out.c (i := 2) rfl
      have x3 := H4.out.c (i := 3) rfl
      have r0 := H4.out.cr (i := 0) rfl
      have r1 := H4.out.cr (i := 1) rfl
      have r2 := H4.out.cr (i := 2) rfl
      have r3 := H4.out.cr (i := 3) rfl
      have g0 := H4.out.fr 0
      have g1 := H4.out.fr 1
      have g2 := H4.out.fr 2
      have g3 := H4.out.fr 3
      have hlt2 := H4.out.lt
      have hl0 : w.heap.size < (W4.setCell ⟨w.heap.size, 2, none⟩ (.slice A4 (L + 1) c4)).heap.size := by omega
      have hl2 : w.heap.size + 2 < (W4.setCell ⟨w.heap.size, 2, none⟩ (.slice A4 (L + 1) c4)).heap.size := by omega
      have HF := ((((H4.out.setRes 0 (.int .i64 (N : Int))).setRes 1 (.int .i64 (rm : Int))).setRes 2 (.slice A4 (L + 1) c4)).setRes 3 (.slice (some ⟨bf, of', none⟩) N c2))
      go_wp2
      refine bodyPost_ret (results_cell_tmp rfl _ _ (w.heap.size + 2) _ rfl (load_rowS HF.res rfl)) rfl ?_
      exact HGS.out _ A4 c4 hq1 hq2 HF.below (own_base (own_only HO5.out (((onlyE_set (D := fun q => q = w.heap.size + 2) rfl 0 _).trans (onlyE_set (D := fun q => q = w.heap.size + 2) rfl 1 _)).trans ((onlyE_set (D := fun q => q = w.heap.size + 2) rfl 2 _).trans (onlyE_set (D := fun q => q = w.heap.size + 2) rfl 3 _))) fun q hq e => by have := (HO5.out.lt q hq).1; have := H6.out.lt; omega) HBW.out.size)
    · skip
      go_simp
      have hbl : RowKit.Below (W00.alloc (.cells #[] 64)).heap.size (W00.alloc (.cells #[] 64)) ((W00.alloc (.cells #[] 64)).alloc (.cells #[.int .u8 (f : Int), .int .u64 (s : Int), .string (str b)] 64)) := (RowKit.Below.refl _ _).alloc (Nat.le_refl _) _
      have hb02 : RowKit.Below W6.heap.size W6 ((W00.alloc (.cells #[] 64)).alloc (.cells #[.int .u8 (f : Int), .int .u64 (s : Int), .string (str b)] 64)) := hba.trans (hbl.mono hba.size)
      have hol := own_below hoa hbl
      have hlx : Lies ((W00.alloc (.cells #[] 64)).alloc (.cells #[.int .u8 (f : Int), .int .u64 (s : Int), .string (str b)] 64)) ((W00.alloc (.cells #[] 64)).alloc (.cells #[.int .u8 (f : Int), .int .u64 (s : Int), .string (str b)] 64)).heap.size (some ⟨W00.heap.size + 1, 0, none⟩) (flat encX [z]) := by
        have h1 := lies_new (W00.alloc (.cells #[] 64)) #[.int .u8 (f : Int), .int .u64 (s : Int), .string (str b)] 64
        rw [show (W00.alloc (.cells #[] 64)).heap.size = W00.heap.size + 1 from by simp] at h1
        rw [flat_singleX, hz]
        exact h1.more (by simp)
      clear hbl hoa
      have hHeld2 := hb02
      refine hK.out _ _ (fun _ => hHeld2) ?_
      clear hK K hHeld
      have hHeld := hHeld2
      clear hHeld2
      refine wpZ_ready (rs := [3]) (by kernel_rfl) (by simp) ?_
      refine AllReadyZ.cons rfl (fun K hK => ?_) AllReadyZ.nil
      obtain ⟨A5, c5, W3, hrun3, ho3, hg3, hb3, -, -⟩ := app_x (c := c) hol HLN.out (HAL.out _ hb02) hb02.size (by omega)
      rw [Nat.zero_add, List.nil_append] at ho3
      rw [Nat.zero_add] at hrun3
      have hb03 := hb02.trans hb3
      refine wp_append_step (s := .tmp 46) (x := .tmp 48) (t := 26) rfl rfl rfl rfl hrun3 ?_
      go_simp
      have hx2 : Lies W3 ((W00.alloc (.cells #[] 64)).alloc (.cells #[.int .u8 (f : Int), .int .u64 (s : Int), .string (str b)] 64)).heap.size (some ⟨W00.heap.size + 1, 0, none⟩) (flat encX [z]) := hlx.kept hg3 (Nat.le_refl _) (fun q hq => by
        injection hq with hq
        subst hq
        intro e
        simp only [Value.ownBlock, Option.some.injEq] at e
        omega)
      have hHeld2 := hb03
      refine hK.out _ _ (fun _ => hHeld2) ?_
      clear hK K hHeld
      have hHeld := hHeld2
      clear hHeld2
      obtain ⟨A4, c4, W4, hrun4, ho4, -, hb4, hq1, hq2⟩ := app_x (ys := [z]) (m := 1) (c := 1) ho3 rfl hx2 hb03.size (by omega)
      rw [← flat_append] at ho4
      have hb04 := hb03.trans hb4
      have HO4 := Lib.hid ho4
      refine wpZ_ready (rs := [9]) (by kernel_rfl) (by simp) ?_
      refine AllReadyZ.cons rfl (fun K hK => ?_) AllReadyZ.nil
      refine wp_append_step (s := .tmp 49) (x := .tmp 54) (t := 26) rfl rfl rfl rfl hrun4 ?_
      go_simp
      have hHeld2 := hb04
      refine hK.out _ _ (fun _ => hHeld2) ?_
      clear hK K hHeld
      have hHeld := hHeld2
      clear hHeld2
      refine wpZ_take (i := 10) (d := 56) (v := ?_) rfl rfl (by kernel_rfl) (by kernel_rfl) (by kernel_rfl) (by kernel_rfl) (fun _ _ _ h => h) (Or.inl ⟨by rfl, ?_⟩) hHeld ?_
      rotate_left
      · (intro _ hSw; have x2 := (H6.out.on hSw).c (i := 2) rfl; have i0 := (H6.out.on hSw).ci (i := 0) rfl; have i1 := (H6.out.on hSw).ci (i := 1) rfl; have hcv := HCV.out _ hSw; go_simp; try with_reducible rfl)
      simp only [List.setIfInBounds_toArray, List.set_cons_zero, List.set_cons_succ]
      have P4 := H6.out.on hHeld
      have y1 := P4.c (i := 2) rfl
      have y2 := P4.f 2
      have hy3 := P4.lt
      have hy4 : w.heap.size < W4.heap.size := by omega
      have H4 := Lib.hid (P4.setBox 2 (.slice A4 (L + 1) c4))
      have HO5 := Lib.hid (own_only HO4.out (onlyE_set (w := W4) (D := fun q => q = w.heap.size) rfl 2 (.slice A4 (L + 1) c4)) fun q hq e => by have := (HO4.out.lt q hq).1; have := H6.out.lt; omega)
      clear hHeld hrun4 P4 ho4
      refine wpZ_ready (rs := [11]) (by kernel_rfl) (by simp) ?_
      refine AllReadyZ.cons rfl (fun K hK => ?_) AllReadyZ.nil
      go_simp
      refine hK.out _ _ (fun h => absurd rfl h) ?_
      clear hK K
      refine wpZ_done (by kernel_rfl) ?_ _
      clear y1 y2
      have x0 := H4.out.c (i := 0) rfl
      have x1 := H4.out.c (i := 1) rfl
      have x2 := H4.out.c (i := 2) rfl
      have x3 := H4.out.c (i := 3) rfl
      have r0 := H4.out.cr (i := 0) rfl
      have r1 := H4.out.cr (i := 1) rfl
      have r2 := H4.out.cr (i := 2) rfl
      have r3 := H4.out.cr (i := 3) rfl
      have g0 := H4.out.fr 0
      have g1 := H4.out.fr 1
      have g2 := H4.out.fr 2
      have g3 := H4.out.fr 3
      have hlt2 := H4.out.lt
      have hl0 : w.heap.size < (W4.setCell ⟨w.heap.size, 2, none⟩ (.slice A4 (L + 1) c4)).heap.size := by omega
      have hl2 : w.heap.size + 2 < (W4.setCell ⟨w.heap.size, 2, none⟩ (.slice A4 (L + 1) c4)).heap.size := by omega
      have HF := ((((H4.out.setRes 0 (.int .i64 (N : Int))).setRes 1 (.int .i64 (rm : Int))).setRes 2 (.slice A4 (L + 1) c4)).setRes 3 (.slice (some ⟨bf, of', none⟩) N c2))
      go_wp2
      refine bodyPost_ret (results_cell_tmp rfl _ _ (w.heap.size + 2) _ rfl (load_rowS HF.res rfl)) rfl ?_
      exact HGS.out _ A4 c4 hq1 hq2 HF.below (own_base (own_only HO5.out (((onlyE_set (D := fun q => q = w.heap.size + 2) rfl 0 _).trans (onlyE_set (D := fun q => q = w.heap.size + 2) rfl 1 _)).trans ((onlyE_set (D := fun q => q = w.heap.size + 2) rfl 2 _).trans (onlyE_set (D := fun q => q = w.heap.size + 2) rfl 3 _))) fun q hq e => by have := (HO5.out.lt q hq).1; have := H6.out.lt; omega) HBW.out.size)
  · skip
    go_simp
    have hbl : RowKit.Below W6.heap.size W6 (W00.alloc (.cells #[.int .u8 (f : Int), .int .u64 (s : Int), .string (str b)] 64)) := hHeld.alloc hs00 _
    have hlx : Lies (W00.alloc (.cells #[.int .u8 (f : Int), .int .u64 (s : Int), .string (str b)] 64)) (W00.alloc (.cells #[.int .u8 (f : Int), .int .u64 (s : Int), .string (str b)] 64)).heap.size (some ⟨W00.heap.size, 0, none⟩) (flat encX [z]) := by
      rw [flat_singleX, hz]
      exact (lies_new W00 #[.int .u8 (f : Int), .int .u64 (s : Int), .string (str b)] 64).more (by simp)
    have hHeld2 := hbl
    refine hK.out _ _ (fun _ => hHeld2) ?_
    clear hK K hHeld
    have hHeld := hHeld2
    clear hHeld2
    refine wpZ_ready (rs := [0]) (by kernel_rfl) (by simp) ?_
    refine AllReadyZ.cons rfl (fun K hK => ?_) AllReadyZ.nil
    go_simp
    have hba : RowKit.Below (W00.alloc (.cells #[.int .u8 (f : Int), .int .u64 (s : Int), .string (str b)] 64)).heap.size (W00.alloc (.cells #[.int .u8 (f : Int), .int .u64 (s : Int), .string (str b)] 64)) ((W00.alloc (.cells #[.int .u8 (f : Int), .int .u64 (s : Int), .string (str b)] 64)).alloc (.cells #[] 64)) := (RowKit.Below.refl _ _).alloc (Nat.le_refl _) _
    have hb02 : RowKit.Below W6.heap.size W6 ((W00.alloc (.cells #[.int .u8 (f : Int), .int .u64 (s : Int), .string (str b)] 64)).alloc (.cells #[] 64)) := hbl.trans (hba.mono hbl.size)
    have hoa : ((W00.alloc (.cells #[.int .u8 (f : Int), .int .u64 (s : Int), .string (str b)] 64)).alloc (.cells #[] 64)).ownsRow W6.heap.size 64 3 (.slice (some ⟨W00.heap.size + 1, 0, none⟩) 0 0) 0 [] := by
      have h1 := World.ownsRow_lit (base := W6.heap.size) (size := 3) (e := 64) (W00.alloc (.cells #[.int .u8 (f : Int), .int .u64 (s : Int), .string (str b)] 64)) #[] 0 (by simp; omega) (Nat.zero_le _) rfl
      rw [show (W00.alloc (.cells #[.int .u8 (f : Int), .int .u64 (s : Int), .string (str b)] 64)).heap.size = W00.heap.size + 1 from by simp] at h1
      exact h1
    have hlx2 := hlx.later hba
    clear hba hlx
    have hHeld2 := hb02
    refine hK.out _ _ (fun _ => hHeld2) ?_
    clear hK K hHeld
    have hHeld := hHeld2
    clear hHeld2
    refine wpZ_ready (rs := [3]) (by kernel_rfl) (by simp) ?_
    refine AllReadyZ.cons rfl (fun K hK => ?_) AllReadyZ.nil
    obtain ⟨A5, c5, W3, hrun3, ho3, hg3, hb3, -, -⟩ := app_x (c := c) hoa HLN.out (HAL.out _ hb02) hb02.size (by omega)
    rw [Nat.zero_add, List.nil_append] at ho3
    rw [Nat.zero_add] at hrun3
    have hb03 := hb02.trans hb3
    refine wp_append_step (s := .tmp 46) (x := .tmp 48) (t := 26) rfl rfl rfl rfl hrun3 ?_
    go_simp
    have hx2 : Lies W3 ((W00.alloc (.cells #[.int .u8 (f : Int), .int .u64 (s : Int), .string (str b)] 64)).alloc (.cells #[] 64)).heap.size (some ⟨W00.heap.size, 0, none⟩) (flat encX [z]) := hlx2.kept hg3 (Nat.le_refl _) (fun q hq => by
      injection hq with hq
      subst hq
      intro e
      simp only [Value.ownBlock, Option.some.injEq] at e
      omega)
    have hHeld2 := hb03
    refine hK.out _ _ (fun _ => hHeld2) ?_
    clear hK K hHeld
    have hHeld := hHeld2
    clear hHeld2
    obtain ⟨A4, c4, W4, hrun4, ho4, -, hb4, hq1, hq2⟩ := app_x (ys := [z]) (m := 1) (c := 1) ho3 rfl hx2 hb03.size (by omega)
    rw [← flat_append] at ho4
    have hb04 := hb03.trans hb4
    have HO4 := Lib.hid ho4
    refine wpZ_ready (rs := [9]) (by kernel_rfl) (by simp) ?_
    refine AllReadyZ.cons rfl (fun K hK => ?_) AllReadyZ.nil
    refine wp_append_step (s := .tmp 49) (x := .tmp 54) (t := 26) rfl rfl rfl rfl hrun4 ?_
    go_simp
    have hHeld2 := hb04
    refine hK.out _ _ (fun _ => hHeld2) ?_
    clear hK K hHeld
    have hHeld := hHeld2
    clear hHeld2
    refine wpZ_take (i := 10) (d := 56) (v := ?_) rfl rfl (by kernel_rfl) (by kernel_rfl) (by kernel_rfl) (by kernel_rfl) (fun _ _ _ h => h) (Or.inl ⟨by rfl, ?_⟩) hHeld ?_
    rotate_left
    · (intro _ hSw; have x2 := (H6.out.on hSw).c (i := 2) rfl; have i0 := (H6.out.on hSw).ci (i := 0) rfl; have i1 := (H6.out.on hSw).ci (i := 1) rfl; have hcv := HCV.out _ hSw; go_simp; try with_reducible rfl)
    simp only [List.setIfInBounds_toArray, List.set_cons_zero, List.set_cons_succ]
    have P4 := H6.out.on hHeld
    have y1 := P4.c (i := 2) rfl
    have y2 := P4.f 2
    have hy3 := P4.lt
    have hy4 : w.heap.size < W4.heap.size := by omega
    have H4 := Lib.hid (P4.setBox 2 (.slice A4 (L + 1) c4))
    have HO5 := Lib.hid (own_only HO4.out (onlyE_set (w := W4) (D := fun q => q = w.heap.size) rfl 2 (.slice A4 (L + 1) c4)) fun q hq e => by have := (HO4.out.lt q hq).1; have := H6.out.lt; omega)
    clear hHeld hrun4 P4 ho4
    refine wpZ_ready (rs := [11]) (by kernel_rfl) (by simp) ?_
    refine AllReadyZ.cons rfl (fun K hK => ?_) AllReadyZ.nil
    go_simp
    refine hK.out _ _ (fun h => absurd rfl h) ?_
    clear hK K
    refine wpZ_done (by kernel_rfl) ?_ _
    clear y1 y2
    have x0 := H4.out.c (i := 0) rfl
    have x1 := H4.out.c (i := 1) rfl
    have x2 := H4.out.c (i := 2) rfl
    have x3 := H4.out.c (i := 3) rfl
    have r0 := H4.out.cr (i := 0) rfl
    have r1 := H4.out.cr (i := 1) rfl
    have r2 := H4.out.cr (i := 2) rfl
    have r3 := H4.out.cr (i := 3) rfl
    have g0 := H4.out.fr 0
    have g1 := H4.out.fr 1
    have g2 := H4.out.fr 2
    have g3 := H4.out.fr 3
    have hlt2 := H4.out.lt
    have hl0 : w.heap.size < (W4.setCell ⟨w.heap.size, 2, none⟩ (.slice A4 (L + 1) c4)).heap.size := by omega
    have hl2 : w.heap.size + 2 < (W4.setCell ⟨w.heap.size, 2, none⟩ (.slice A4 (L + 1) c4)).heap.size := by omega
    have HF := ((((H4.out.setRes 0 (.int .i64 (N : Int))).setRes 1 (.int .i64 (rm : Int))).setRes 2 (.slice A4 (L + 1) c4)).setRes 3 (.slice (some ⟨bf, of', none⟩) N c2))
    go_wp2
    refine bodyPost_ret (results_cell_tmp rfl _ _ (w.heap.size + 2) _ rfl (load_rowS HF.res rfl)) rfl ?_
    exact HGS.out _ A4 c4 hq1 hq2 HF.below (own_base (own_only HO5.out (((onlyE_set (D := fun q => q = w.heap.size + 2) rfl 0 _).trans (onlyE_set (D := fun q => q = w.heap.size + 2) rfl 1 _)).trans ((onlyE_set (D := fun q => q = w.heap.size + 2) rfl 2 _).trans (onlyE_set (D := fun q => q = w.heap.size + 2) rfl 3 _))) fun q hq e => by have := (HO5.out.lt q hq).1; have := H6.out.lt; omega) HBW.out.size)

/-- The document's Put. -/
theorem refPut_any (h : RsAt w D A c A2 c2 m) (hm : m.Ok) (x : Id) (b : List UInt8) {A3 : Option Addr} {n c3 : Nat} (hn : n ≤ 1000) (hbl : b.length = n) (hb : Lies w w.heap.size A3 (bvs b)) (hlen : m.l.length ≤ 1000) :
    Calls Try.prog 26 #[.agg (rsCells A c A2 c2 m), valId x, .slice A3 n c3] w (GotS w A c A2 c2 m (m.put x b) (.bool (m.takes x b))) := by
  by_cases ht : m.takes x b = true
  · have e : m.put x b = { m with l := m.l ++ [⟨x, b⟩] } := by unfold Sm.put; rw [if_pos ht]
    obtain ⟨h1, h2, h3, h4⟩ := Sm.takes_iff.1 ht
    rw [ht, e]
    exact refPut_yes h hm x b hn hbl hb hlen h3 h1 (by omega) (by omega)
  · have e : m.put x b = m := by unfold Sm.put; rw [if_neg ht]
    rw [e, Bool.eq_false_iff.2 ht]
    cases h3 : hasL m.l x with
    | true => exact refPut_there h hm x hn h3
    | false =>
      cases h1 : m.may x with
      | false => exact refPut_may h hm x hn h3 h1
      | true =>
        by_cases h2 : x.s ≤ num m.fl x.f
        · exact refPut_low h hm x hn h3 h1 h2
        · refine refPut_full h hm x hn h3 h1 h2 ?_
          have := hm.use
          rw [Sm.takes_iff] at ht
          have h4 : ¬ useL m.l + b.length ≤ m.room := fun h4 => ht ⟨h1, by omega, h3, h4⟩
          omega
end

end Go.Proofs.Ytnpdjlcekmpmoaa
