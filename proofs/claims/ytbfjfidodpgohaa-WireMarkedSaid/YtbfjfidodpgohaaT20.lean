/- The frame of some bytes: Get, walked. -/
import Derived.Test.YtbfjfidodpgohaaT19
import Derived.Deep.DeepCutAuto

namespace Go.Proofs.Ytbfjfidodpgohaa
open Go.RowKit Go.Sort

theorem headRd_lt (l : List UInt8) : (headRd l).1.1 < 256 ∧ (headRd l).1.2.1 < 256 ∧ (headRd l).1.2.2 < 256 := by
  unfold headRd
  split
  · simp [hNone]
  · unfold headRd2
    repeat (split; · simp [hNone])
    exact ⟨UInt8.toNat_lt _, UInt8.toNat_lt _, UInt8.toNat_lt _⟩

theorem headRd_len (l : List UInt8) : (headRd l).2.1.length ≤ l.length := by
  unfold headRd
  split
  · simp [hNone]
  · have h := (rN_le top (l, 0)).2
    unfold headRd2
    repeat (split; · simp [hNone])
    simp only [List.length_drop]
    unfold rN at h
    simp only at h
    omega

/-- What stands when the fields are read. -/
theorem get_visit {W V : World} {h : Nat × Nat × Nat} {rest : List UInt8} {gF gB : Nat} (hM : GetMid W h rest gF gB V) (hh : h.1 < 256 ∧ h.2.1 < 256 ∧ h.2.2 < 256) (hr : rest.length ≤ 4000) :
    ∃ gr, V.cell? ⟨gB, 0, none⟩ = some (.pointer (some ⟨gr, 0, none⟩)) ∧ Calls Try.prog 20 #[.iface 52 (.agg #[.pointer (some ⟨gr, 0, none⟩)]), .pointer (some ⟨gF, 0, none⟩)] V fun e V' => e = .returned (.bool (isKind h.1)) ∧ RowKit.Below W.heap.size W V' ∧
      V'.cell? ⟨gB, 0, none⟩ = some (.pointer (some ⟨gr, 0, none⟩)) ∧ (fieldsOf h rest).1.Ok ∧ (∃ cs, V'.heap[gF]? = some (.cells cs 33 (0, 0)) ∧ FrV V' (fun k => k < W.heap.size) (fieldsOf h rest).1 cs) ∧
      Calls Try.prog 21 #[.pointer (some ⟨gr, 0, none⟩)] V' fun e w' => e = .returned (.int .i64 (endOf (fieldsOf h rest).2.2 (fieldsOf h rest).2.1.length : Int)) ∧ V' = w' := by
  obtain ⟨hb, hgF, hgB, ⟨cs, hcs, hfv⟩, gr, base, hi, hbox, h1, h2, h3, h4, h5, hRd⟩ := hM
  have hV := rd_vis base hi gr gF h1 h5 (fun k => k < W.heap.size) (fun V => RowKit.Below W.heap.size W V) (fun a b ha ho => ha.trans (ho.below (by rintro k rfl; exact h4) ha.size)) (fun a i u ha => ha.setCell (p := ⟨gF, i, none⟩) hgF u) (fun a ha => ha.drew) (fun a k ha hk => by have := ha.size; have hk : k < W.heap.size := hk; omega)
  refine ⟨gr, cell_of_row V gB 0 _ _ _ hbox, ?_⟩
  have hlt := (Array.getElem?_eq_some_iff.1 hcs).1
  have hltB := (Array.getElem?_eq_some_iff.1 hbox).1
  refine (visit_any (p := (bareFr h, (rest, 0))) hV V ⟨FrIn.of hcs (hfv.widen (fun _ _ => .inr trivial)), bare_ok hh.1 hh.2.1 hh.2.2, ⟨⟨hRd, hr⟩, hlt, hb⟩, OnlyE.refl _ _⟩).mono ?_
  rintro e V' ⟨rfl, k, hS⟩
  obtain ⟨cs', hcs', hfv'⟩ := hS.fr.to
  obtain ⟨A, n, c, hAt⟩ := hS.inv.1.1
  refine ⟨rfl, hS.inv.2.2, ?_, hS.ok, ⟨cs', hcs', hfv'.widen (fun _ h => .inr (.inr (.inr h)))⟩, ?_⟩
  · exact (cell_of_row V' gB 0 _ _ _ ((hS.only.2 gB hltB (by rintro (h | h | h) <;> omega)).trans hbox))
  · have := end_any hAt
    rw [← hAt.2.2.1.out] at this
    exact this

theorem bare_frv (w : World) (D : Nat → Prop) (h : Nat × Nat × Nat) : FrV w D (bareFr h) #[.int .u8 (h.1 : Int), .int .u8 (h.2.1 : Int), .int .u8 (h.2.2 : Int), .int .u8 0, .int .u64 0, .int .u64 0, .int .u32 0, .int .u32 0, .int .u32 0, .int .u64 0, .int .u64 0, .slice none 0 0, .slice none 0 0, .slice none 0 0, .slice none 0 0, .slice none 0 0] := ⟨_, _, _, _, _, rfl, Sl.nil, Sl.nil, Sl.nil, Sl.nil, Sl.nil⟩

theorem Below.heap_alloc_row {W : World} {o o' : Obj} {g : Nat} (h : W.heap[g]? = some o) : (W.alloc o').heap[g]? = some o := (Below.heap_alloc _ _ _ (Array.getElem?_eq_some_iff.1 h).1).trans h

def FitG (w : World) (ft : List UInt8 × Nat) (e : Ending) (w' : World) : Prop :=
  ∃ A n c, e = .returned (.tuple #[.slice A n c, .int .i64 (ft.2 : Int)]) ∧ Hid (ft.1.length = n) ∧ n ≤ c ∧ c ≤ maxLen ∧ w'.ownsRow w.heap.size 5 1 (.slice A n c) n (bvs ft.1) ∧ RowKit.Below w.heap.size w w'

set_option maxRecDepth 100000 in
set_option maxHeartbeats 6400000 in
theorem wireGet_any (A : Option Addr) (n c : Nat) (l : List UInt8) (w : World) (hl : l.length = n) (hn : n ≤ 4000) (hc : n ≤ c) (hcm : c ≤ maxLen) (hL : Lies w w.heap.size A (bvs l)) :
    Calls Try.prog 8 #[.slice A n c] w (GetGot w (getOf l)) := by
  have hB : RowKit.Below w.heap.size w (w.alloc (.cells zeroCells 33)) := (RowKit.Below.refl _ _).alloc (Nat.le_refl _) _
  have HFit : Hid (Calls Try.prog 17 #[.slice A n c] (w.alloc (.cells #[.int .u8 0, .int .u8 0, .int .u8 0, .int .u8 0, .int .u64 0, .int .u64 0, .int .u32 0, .int .u32 0, .int .u32 0, .int .u64 0, .int .u64 0, .slice none 0 0, .slice none 0 0, .slice none 0 0, .slice none 0 0, .slice none 0 0] 33)) (FitG (w.alloc (.cells zeroCells 33)) (fitsOf l))) := fits_any A n c l _ hl (by omega) hc hcm (hL.later hB)
  have HR0 : Hid ((w.alloc (.cells zeroCells 33)).heap[w.heap.size]? = some (.cells zeroCells 33 (0, 0))) := heap_alloc_new _ _
  have HB := Lib.hid hB
  have HSZ : Hid ((w.alloc (.cells zeroCells 33)).heap.size = w.heap.size + 1) := by show _ = _; simp
  have hfl : (fitsOf l).1.length ≤ 4000 := by
    unfold fitsOf
    split
    · simp
    split
    · simp only [List.length_take]; omega
    · simp
  unfold getOf
  generalize fitsOf l = ft at hfl HFit ⊢
  clear hl hn hc hcm hL hB
  obtain ⟨fa, fe⟩ := ft
  dsimp only at hfl HFit ⊢
  by_cases h1 : fe = 0
  · subst h1
    rw [if_neg (by simp)]
    have HHd : Hid (∀ W A n c, n ≤ c → c ≤ maxLen → fa.length = n → Lies W W.heap.size A (bvs fa) → Calls Try.prog 18 #[.slice A n c] W (HeadGot W (headRd fa))) := fun W A n c k1 k2 k3 k4 => readHead_any A n c fa W k3 (by omega) k1 k2 k4
    have hlt := headRd_lt fa
    have hln := headRd_len fa
    generalize headRd fa = hd at HHd hlt hln ⊢
    obtain ⟨h, rest, he⟩ := hd
    dsimp only at HHd hlt hln ⊢
    by_cases h2 : he = 0
    · subst h2
      rw [if_neg (by simp)]
      have HLT := Lib.hid hlt
      have hrl : rest.length ≤ 4000 := by omega
      generalize hbody : bodyOf h rest = r
      have HBody := Lib.hid hbody
      clear hbody hlt hln hfl
      go_enter Try.func8, Try.ntmps8
      go_wp2_with fail
      refine HFit.out.mono ?_
      rintro e w1 ⟨A1, n1, c1, rfl, hn1, hc1, hcm1, ho1, hb1⟩
      have HB1 : Hid (RowKit.Below w.heap.size w w1) := HB.out.trans (hb1.mono HB.out.size)
      have HR1 : Hid (w1.heap[w.heap.size]? = some (.cells zeroCells 33 (0, 0))) := (hb1.block _ (by rw [HSZ.out]; omega)).trans HR0.out
      have HHc := Lib.hid (HHd.out w1 A1 n1 c1 hc1 hcm1 hn1.out (Lies.of_own ho1))
      clear ho1 hb1 hn1 HFit HHd
      go_wp2_with fail
      refine HHc.out.mono ?_
      rintro e w2 ⟨A7, n7, c7, rfl, HL7, hc7, hcm7, hL7, hb7⟩
      have HB2 : Hid (RowKit.Below w.heap.size w w2) := HB1.out.trans (hb7.mono HB1.out.size)
      have hR2 : w2.heap[w.heap.size]? = some (.cells zeroCells 33 (0, 0)) := (hb7.block _ (Array.getElem?_eq_some_iff.1 HR1.out).1).trans HR1.out
      have hn7 : n7 ≤ 4000 := by have := HL7.out; dsimp only at this; omega
      have H70 : Hid (Lies w2 w2.heap.size A7 (bvs rest)) := hL7.more hb7.size
      have HR2 := Lib.hid hR2
      clear hL7 hb7 hR2 HHc
      go_upto_region 7 with fail
      generalize hWe : World.alloc w2 _ = W
      obtain ⟨hsW, hGW, hcW⟩ := box1 w2 W _ _ hWe
      have c0 := hcW 0 _ rfl
      have c1' := hcW 1 _ rfl
      have c2 := hcW 2 _ rfl
      have hq : w2.heap.size < W.heap.size := by omega
      have H7 : Hid (Lies W W.heap.size A7 (bvs rest)) := H70.out.later hGW.below
      have HBW : Hid (RowKit.Below w.heap.size w W) := HB2.out.trans (hGW.below.mono HB2.out.size)
      have HRW : Hid (W.heap[w.heap.size]? = some (.cells zeroCells 33 (0, 0))) := (hGW.below.block _ (Array.getElem?_eq_some_iff.1 HR2.out).1).trans HR2.out
      clear hcW hWe hGW H70
      go_cut [8, 9] (fun s8 s9 wx => ∃ gF gB, s8 = .pointer (some ⟨gF, 0, none⟩) ∧ s9 = .pointer (some ⟨gB, 0, none⟩) ∧ GetMid W h rest gF gB wx)
      case first =>
        have hbd : RowKit.Below W.heap.size W W.drew := (RowKit.Below.refl _ _).drew
        refine wp_region_held_drew (S := fun V => RowKit.Below W.heap.size W V) (by kernel_rfl) hbd (fun hHeld => ?_)
        generalize W.drew = X0 at hbd hHeld ⊢
        have hb0 := hHeld
        refine wpAnyH_takeAt (i := 0) (d := 30) (v := ?_) rfl rfl (by kernel_rfl) (by kernel_rfl) (by kernel_rfl) (fun _ _ _ h => h) (Or.inl ⟨by rfl, ?_⟩) hHeld ?_
        rotate_left
        · (intro V hSw; have k0 := (RowKit.Below.cell hSw (p := ⟨w2.heap.size, 0, none⟩) hq).trans c0; have k1 := (RowKit.Below.cell hSw (p := ⟨w2.heap.size, 1, none⟩) hq).trans c1'; have k2 := (RowKit.Below.cell hSw (p := ⟨w2.heap.size, 2, none⟩) hq).trans c2; clear hSw; go_simp; try with_reducible rfl)
        simp only [List.setIfInBounds_toArray, List.set_cons_zero, List.set_cons_succ]
        refine wpAnyH_takeAt (i := 1) (d := 31) (v := ?_) rfl rfl (by kernel_rfl) (by kernel_rfl) (by kernel_rfl) (fun _ _ _ h => h) (Or.inl ⟨by rfl, ?_⟩) hHeld ?_
        rotate_left
        · (intro _ hSw; go_simp; try with_reducible rfl)
        simp only [List.setIfInBounds_toArray, List.set_cons_zero, List.set_cons_succ]
        refine wpAnyH_takeAt (i := 2) (d := 32) (v := ?_) rfl rfl (by kernel_rfl) (by kernel_rfl) (by kernel_rfl) (fun _ _ _ h => h) (Or.inl ⟨by rfl, ?_⟩) hHeld ?_
        rotate_left
        · (intro _ hSw; go_simp; try with_reducible rfl)
        simp only [List.setIfInBounds_toArray, List.set_cons_zero, List.set_cons_succ]
        refine wpAnyH_ready (rs := [3, 5, 6]) (by kernel_rfl) (by simp) ?_
        refine (AllReadyH.cons rfl (fun K hK => ?_) (AllReadyH.cons rfl (fun K hK => ?_) (AllReadyH.cons rfl (fun K hK => ?_) AllReadyH.nil)))
        · go_simp
          refine (new_any A7 n7 c7 rest X0 HL7.out (by omega) (H7.out.later hb0)).mono ?_
          rintro e X1 ⟨gr, rfl, hRd, hbs⟩
          have hb1 : RowKit.Below W.heap.size W X1 := hb0.trans (hbs.mono hb0.size)
          have hPR1 : PR W rest gr X0.heap.size X1.heap.size X1 := ⟨hb0.size, hRd⟩
          refine hK.out _ _ hb1 (fun hHeld => ?_)
          clear hK K hRd
          clear hbs
          refine wpAnyH_takeAt (i := 4) (d := 34) (v := ?_) rfl rfl (by kernel_rfl) (by kernel_rfl) (by kernel_rfl) (fun _ _ _ h => h) (Or.inl ⟨by rfl, ?_⟩) hHeld ?_
          rotate_left
          · (intro _ hSw; go_simp; try with_reducible rfl)
          simp only [List.setIfInBounds_toArray, List.set_cons_zero, List.set_cons_succ]
          refine wpAnyH_ready (rs := [5, 6]) (by kernel_rfl) (by simp) ?_
          refine (AllReadyH.cons rfl (fun K hK => ?_) (AllReadyH.cons rfl (fun K hK => ?_) AllReadyH.nil))
          · have HX := Lib.hid hPR1.2.lt.2.2
            go_simp
            have hbs : RowKit.Below X1.heap.size X1 (X1.alloc (.cells #[.int .u8 0, .int .u8 0, .int .u8 0, .int .u8 0, .int .u64 0, .int .u64 0, .int .u32 0, .int .u32 0, .int .u32 0, .int .u64 0, .int .u64 0, .slice none 0 0, .slice none 0 0, .slice none 0 0, .slice none 0 0, .slice none 0 0] 33)) := (RowKit.Below.refl _ _).alloc (Nat.le_refl _) _
            have hb2 : RowKit.Below W.heap.size W (X1.alloc (.cells #[.int .u8 0, .int .u8 0, .int .u8 0, .int .u8 0, .int .u64 0, .int .u64 0, .int .u32 0, .int .u32 0, .int .u32 0, .int .u64 0, .int .u64 0, .slice none 0 0, .slice none 0 0, .slice none 0 0, .slice none 0 0, .slice none 0 0] 33)) := hb1.trans (hbs.mono hb1.size)
            have hPF2 : PF W X1.heap.size (X1.alloc (.cells #[.int .u8 0, .int .u8 0, .int .u8 0, .int .u8 0, .int .u64 0, .int .u64 0, .int .u32 0, .int .u32 0, .int .u32 0, .int .u64 0, .int .u64 0, .slice none 0 0, .slice none 0 0, .slice none 0 0, .slice none 0 0, .slice none 0 0] 33)) := ⟨hb1.size, heap_alloc_new _ _⟩
            refine hK.out _ _ hb2 (fun hHeld => ?_)
            clear hK K
            generalize hXe : X1.alloc (.cells #[.int .u8 0, .int .u8 0, .int .u8 0, .int .u8 0, .int .u64 0, .int .u64 0, .int .u32 0, .int .u32 0, .int .u32 0, .int .u64 0, .int .u64 0, .slice none 0 0, .slice none 0 0, .slice none 0 0, .slice none 0 0, .slice none 0 0] 33) = X2 at hbs hb2 hPF2 hHeld ⊢
            clear hXe
            have hPR2 := hPR1.on hbs
            clear hbs hPR1
            refine wpAnyH_ready (rs := [6]) (by kernel_rfl) (by simp) ?_
            refine (AllReadyH.cons rfl (fun K hK => ?_) AllReadyH.nil)
            · go_simp
              have hbs : RowKit.Below X2.heap.size X2 (X2.alloc (.cells #[.pointer none] 52)) := (RowKit.Below.refl _ _).alloc (Nat.le_refl _) _
              have hb3 : RowKit.Below W.heap.size W (X2.alloc (.cells #[.pointer none] 52)) := hb2.trans (hbs.mono hb2.size)
              have hPB3 : PB W X2.heap.size (X2.alloc (.cells #[.pointer none] 52)) := ⟨hb2.size, heap_alloc_new _ _⟩
              refine hK.out _ _ hb3 (fun hHeld => ?_)
              clear hK K
              generalize hXe : X2.alloc (.cells #[.pointer none] 52) = X3 at hbs hb3 hPB3 hHeld ⊢
              clear hXe
              have hPR3 := hPR2.on hbs
              have hPF3 := hPF2.on hbs
              clear hbs hPR2 hPF2
              have hx : X1.heap.size < X0.heap.size ∨ X1.heap.size ≤ X1.heap.size := Or.inr HX.out
              obtain ⟨hgB, hMid⟩ := parts_done (h := h) hb3 hPF3 hPB3 hPR3 hx #[.int .u8 (h.1 : Int), .int .u8 (h.2.1 : Int), .int .u8 (h.2.2 : Int), .int .u8 0, .int .u64 0, .int .u64 0, .int .u32 0, .int .u32 0, .int .u32 0, .int .u64 0, .int .u64 0, .slice none 0 0, .slice none 0 0, .slice none 0 0, .slice none 0 0, .slice none 0 0] rfl
              have HMid := Lib.hid hMid
              have cB := cell_of_row _ _ 0 _ _ _ hgB
              have fB := row_frozen hgB
              simp only [List.getElem?_toArray, List.getElem?_cons_zero] at cB
              have hbR : RowKit.Below W.heap.size W (X3.setRow X1.heap.size #[.int .u8 (h.1 : Int), .int .u8 (h.2.1 : Int), .int .u8 (h.2.2 : Int), .int .u8 0, .int .u64 0, .int .u64 0, .int .u32 0, .int .u32 0, .int .u32 0, .int .u64 0, .int .u64 0, .slice none 0 0, .slice none 0 0, .slice none 0 0, .slice none 0 0, .slice none 0 0]) := Below.setRow hb3 hPF3.1 _
              have HF3 := Lib.hid hPF3.2
              have hbE : RowKit.Below W.heap.size W ((X3.setRow X1.heap.size #[.int .u8 (h.1 : Int), .int .u8 (h.2.1 : Int), .int .u8 (h.2.2 : Int), .int .u8 0, .int .u64 0, .int .u64 0, .int .u32 0, .int .u32 0, .int .u32 0, .int .u64 0, .int .u64 0, .slice none 0 0, .slice none 0 0, .slice none 0 0, .slice none 0 0, .slice none 0 0]).setCell ⟨X2.heap.size, 0, none⟩ (.pointer (some ⟨gr, 0, none⟩))) := hbR.setCell (p := ⟨X2.heap.size, 0, none⟩) hPB3.1 _
              clear hMid hgB hPF3 hPB3 hPR3 hx
              refine wpAnyH_ready (rs := [7]) (by kernel_rfl) (by simp) ?_
              refine (AllReadyH.cons rfl (fun K hK => ?_) AllReadyH.nil)
              refine wp_store_step (x := .tmp 8) (y := .tmp 31) rfl rfl rfl rfl HF3.out rfl rfl (bare_frv W (fun _ => False) h).one ?_
              go_simp
              refine hK.out _ _ hbR (fun hHeld => ?_)
              clear hK K
              refine wpAnyH_ready (rs := [8]) (by kernel_rfl) (by simp) ?_
              refine (AllReadyH.cons rfl (fun K hK => ?_) AllReadyH.nil)
              go_simp
              refine hK.out _ _ hbE (fun hHeld => ?_)
              clear hK K
              refine wpAnyH_done (by kernel_rfl) ?_ _
              go_wp2_with fail
              go_meet
              exact ⟨X1.heap.size, X2.heap.size, rfl, rfl, HMid.out⟩
          · go_simp
            have hbs : RowKit.Below X1.heap.size X1 (X1.alloc (.cells #[.pointer none] 52)) := (RowKit.Below.refl _ _).alloc (Nat.le_refl _) _
            have hb2 : RowKit.Below W.heap.size W (X1.alloc (.cells #[.pointer none] 52)) := hb1.trans (hbs.mono hb1.size)
            have hPB2 : PB W X1.heap.size (X1.alloc (.cells #[.pointer none] 52)) := ⟨hb1.size, heap_alloc_new _ _⟩
            refine hK.out _ _ hb2 (fun hHeld => ?_)
            clear hK K
            generalize hXe : X1.alloc (.cells #[.pointer none] 52) = X2 at hbs hb2 hPB2 hHeld ⊢
            clear hXe
            have hPR2 := hPR1.on hbs
            clear hbs hPR1
            refine wpAnyH_ready (rs := [5]) (by kernel_rfl) (by simp) ?_
            refine (AllReadyH.cons rfl (fun K hK => ?_) AllReadyH.nil)
            · have HX := Lib.hid hPR2.2.lt.2.2
              go_simp
              have hbs : RowKit.Below X2.heap.size X2 (X2.alloc (.cells #[.int .u8 0, .int .u8 0, .int .u8 0, .int .u8 0, .int .u64 0, .int .u64 0, .int .u32 0, .int .u32 0, .int .u32 0, .int .u64 0, .int .u64 0, .slice none 0 0, .slice none 0 0, .slice none 0 0, .slice none 0 0, .slice none 0 0] 33)) := (RowKit.Below.refl _ _).alloc (Nat.le_refl _) _
              have hb3 : RowKit.Below W.heap.size W (X2.alloc (.cells #[.int .u8 0, .int .u8 0, .int .u8 0, .int .u8 0, .int .u64 0, .int .u64 0, .int .u32 0, .int .u32 0, .int .u32 0, .int .u64 0, .int .u64 0, .slice none 0 0, .slice none 0 0, .slice none 0 0, .slice none 0 0, .slice none 0 0] 33)) := hb2.trans (hbs.mono hb2.size)
              have hPF3 : PF W X2.heap.size (X2.alloc (.cells #[.int .u8 0, .int .u8 0, .int .u8 0, .int .u8 0, .int .u64 0, .int .u64 0, .int .u32 0, .int .u32 0, .int .u32 0, .int .u64 0, .int .u64 0, .slice none 0 0, .slice none 0 0, .slice none 0 0, .slice none 0 0, .slice none 0 0] 33)) := ⟨hb2.size, heap_alloc_new _ _⟩
              refine hK.out _ _ hb3 (fun hHeld => ?_)
              clear hK K
              generalize hXe : X2.alloc (.cells #[.int .u8 0, .int .u8 0, .int .u8 0, .int .u8 0, .int .u64 0, .int .u64 0, .int .u32 0, .int .u32 0, .int .u32 0, .int .u64 0, .int .u64 0, .slice none 0 0, .slice none 0 0, .slice none 0 0, .slice none 0 0, .slice none 0 0] 33) = X3 at hbs hb3 hPF3 hHeld ⊢
              clear hXe
              have hPR3 := hPR2.on hbs
              have hPB3 := hPB2.on hbs
              clear hbs hPR2 hPB2
              have hx : X2.heap.size < X0.heap.size ∨ X1.heap.size ≤ X2.heap.size := Or.inr HX.out
              obtain ⟨hgB, hMid⟩ := parts_done (h := h) hb3 hPF3 hPB3 hPR3 hx #[.int .u8 (h.1 : Int), .int .u8 (h.2.1 : Int), .int .u8 (h.2.2 : Int), .int .u8 0, .int .u64 0, .int .u64 0, .int .u32 0, .int .u32 0, .int .u32 0, .int .u64 0, .int .u64 0, .slice none 0 0, .slice none 0 0, .slice none 0 0, .slice none 0 0, .slice none 0 0] rfl
              have HMid := Lib.hid hMid
              have cB := cell_of_row _ _ 0 _ _ _ hgB
              have fB := row_frozen hgB
              simp only [List.getElem?_toArray, List.getElem?_cons_zero] at cB
              have hbR : RowKit.Below W.heap.size W (X3.setRow X2.heap.size #[.int .u8 (h.1 : Int), .int .u8 (h.2.1 : Int), .int .u8 (h.2.2 : Int), .int .u8 0, .int .u64 0, .int .u64 0, .int .u32 0, .int .u32 0, .int .u32 0, .int .u64 0, .int .u64 0, .slice none 0 0, .slice none 0 0, .slice none 0 0, .slice none 0 0, .slice none 0 0]) := Below.setRow hb3 hPF3.1 _
              have HF3 := Lib.hid hPF3.2
              have hbE : RowKit.Below W.heap.size W ((X3.setRow X2.heap.size #[.int .u8 (h.1 : Int), .int .u8 (h.2.1 : Int), .int .u8 (h.2.2 : Int), .int .u8 0, .int .u64 0, .int .u64 0, .int .u32 0, .int .u32 0, .int .u32 0, .int .u64 0, .int .u64 0, .slice none 0 0, .slice none 0 0, .slice none 0 0, .slice none 0 0, .slice none 0 0]).setCell ⟨X1.heap.size, 0, none⟩ (.pointer (some ⟨gr, 0, none⟩))) := hbR.setCell (p := ⟨X1.heap.size, 0, none⟩) hPB3.1 _
              clear hMid hgB hPF3 hPB3 hPR3 hx
              refine wpAnyH_ready (rs := [7]) (by kernel_rfl) (by simp) ?_
              refine (AllReadyH.cons rfl (fun K hK => ?_) AllReadyH.nil)
              refine wp_store_step (x := .tmp 8) (y := .tmp 31) rfl rfl rfl rfl HF3.out rfl rfl (bare_frv W (fun _ => False) h).one ?_
              go_simp
              refine hK.out _ _ hbR (fun hHeld => ?_)
              clear hK K
              refine wpAnyH_ready (rs := [8]) (by kernel_rfl) (by simp) ?_
              refine (AllReadyH.cons rfl (fun K hK => ?_) AllReadyH.nil)
              go_simp
              refine hK.out _ _ hbE (fun hHeld => ?_)
              clear hK K
              refine wpAnyH_done (by kernel_rfl) ?_ _
              go_wp2_with fail
              go_meet
              exact ⟨X2.heap.size, X1.heap.size, rfl, rfl, HMid.out⟩
        · go_simp
          have hbs : RowKit.Below X0.heap.size X0 (X0.alloc (.cells #[.int .u8 0, .int .u8 0, .int .u8 0, .int .u8 0, .int .u64 0, .int .u64 0, .int .u32 0, .int .u32 0, .int .u32 0, .int .u64 0, .int .u64 0, .slice none 0 0, .slice none 0 0, .slice none 0 0, .slice none 0 0, .slice none 0 0] 33)) := (RowKit.Below.refl _ _).alloc (Nat.le_refl _) _
          have hb1 : RowKit.Below W.heap.size W (X0.alloc (.cells #[.int .u8 0, .int .u8 0, .int .u8 0, .int .u8 0, .int .u64 0, .int .u64 0, .int .u32 0, .int .u32 0, .int .u32 0, .int .u64 0, .int .u64 0, .slice none 0 0, .slice none 0 0, .slice none 0 0, .slice none 0 0, .slice none 0 0] 33)) := hb0.trans (hbs.mono hb0.size)
          have hPF1 : PF W X0.heap.size (X0.alloc (.cells #[.int .u8 0, .int .u8 0, .int .u8 0, .int .u8 0, .int .u64 0, .int .u64 0, .int .u32 0, .int .u32 0, .int .u32 0, .int .u64 0, .int .u64 0, .slice none 0 0, .slice none 0 0, .slice none 0 0, .slice none 0 0, .slice none 0 0] 33)) := ⟨hb0.size, heap_alloc_new _ _⟩
          refine hK.out _ _ hb1 (fun hHeld => ?_)
          clear hK K
          generalize hXe : X0.alloc (.cells #[.int .u8 0, .int .u8 0, .int .u8 0, .int .u8 0, .int .u64 0, .int .u64 0, .int .u32 0, .int .u32 0, .int .u32 0, .int .u64 0, .int .u64 0, .slice none 0 0, .slice none 0 0, .slice none 0 0, .slice none 0 0, .slice none 0 0] 33) = X1 at hbs hb1 hPF1 hHeld ⊢
          clear hXe
          clear hbs
          refine wpAnyH_ready (rs := [3, 6]) (by kernel_rfl) (by simp) ?_
          refine (AllReadyH.cons rfl (fun K hK => ?_) (AllReadyH.cons rfl (fun K hK => ?_) AllReadyH.nil))
          · have HX := Lib.hid hPF1.lt
            go_simp
            refine (new_any A7 n7 c7 rest X1 HL7.out (by omega) (H7.out.later hb1)).mono ?_
            rintro e X2 ⟨gr, rfl, hRd, hbs⟩
            have hb2 : RowKit.Below W.heap.size W X2 := hb1.trans (hbs.mono hb1.size)
            have hPR2 : PR W rest gr X1.heap.size X2.heap.size X2 := ⟨hb1.size, hRd⟩
            refine hK.out _ _ hb2 (fun hHeld => ?_)
            clear hK K hRd
            have hPF2 := hPF1.on hbs
            clear hbs hPF1
            refine wpAnyH_takeAt (i := 4) (d := 34) (v := ?_) rfl rfl (by kernel_rfl) (by kernel_rfl) (by kernel_rfl) (fun _ _ _ h => h) (Or.inl ⟨by rfl, ?_⟩) hHeld ?_
            rotate_left
            · (intro _ hSw; go_simp; try with_reducible rfl)
            simp only [List.setIfInBounds_toArray, List.set_cons_zero, List.set_cons_succ]
            refine wpAnyH_ready (rs := [6]) (by kernel_rfl) (by simp) ?_
            refine (AllReadyH.cons rfl (fun K hK => ?_) AllReadyH.nil)
            · go_simp
              have hbs : RowKit.Below X2.heap.size X2 (X2.alloc (.cells #[.pointer none] 52)) := (RowKit.Below.refl _ _).alloc (Nat.le_refl _) _
              have hb3 : RowKit.Below W.heap.size W (X2.alloc (.cells #[.pointer none] 52)) := hb2.trans (hbs.mono hb2.size)
              have hPB3 : PB W X2.heap.size (X2.alloc (.cells #[.pointer none] 52)) := ⟨hb2.size, heap_alloc_new _ _⟩
              refine hK.out _ _ hb3 (fun hHeld => ?_)
              clear hK K
              generalize hXe : X2.alloc (.cells #[.pointer none] 52) = X3 at hbs hb3 hPB3 hHeld ⊢
              clear hXe
              have hPF3 := hPF2.on hbs
              have hPR3 := hPR2.on hbs
              clear hbs hPF2 hPR2
              have hx : X0.heap.size < X1.heap.size ∨ X2.heap.size ≤ X0.heap.size := Or.inl HX.out
              obtain ⟨hgB, hMid⟩ := parts_done (h := h) hb3 hPF3 hPB3 hPR3 hx #[.int .u8 (h.1 : Int), .int .u8 (h.2.1 : Int), .int .u8 (h.2.2 : Int), .int .u8 0, .int .u64 0, .int .u64 0, .int .u32 0, .int .u32 0, .int .u32 0, .int .u64 0, .int .u64 0, .slice none 0 0, .slice none 0 0, .slice none 0 0, .slice none 0 0, .slice none 0 0] rfl
              have HMid := Lib.hid hMid
              have cB := cell_of_row _ _ 0 _ _ _ hgB
              have fB := row_frozen hgB
              simp only [List.getElem?_toArray, List.getElem?_cons_zero] at cB
              have hbR : RowKit.Below W.heap.size W (X3.setRow X0.heap.size #[.int .u8 (h.1 : Int), .int .u8 (h.2.1 : Int), .int .u8 (h.2.2 : Int), .int .u8 0, .int .u64 0, .int .u64 0, .int .u32 0, .int .u32 0, .int .u32 0, .int .u64 0, .int .u64 0, .slice none 0 0, .slice none 0 0, .slice none 0 0, .slice none 0 0, .slice none 0 0]) := Below.setRow hb3 hPF3.1 _
              have HF3 := Lib.hid hPF3.2
              have hbE : RowKit.Below W.heap.size W ((X3.setRow X0.heap.size #[.int .u8 (h.1 : Int), .int .u8 (h.2.1 : Int), .int .u8 (h.2.2 : Int), .int .u8 0, .int .u64 0, .int .u64 0, .int .u32 0, .int .u32 0, .int .u32 0, .int .u64 0, .int .u64 0, .slice none 0 0, .slice none 0 0, .slice none 0 0, .slice none 0 0, .slice none 0 0]).setCell ⟨X2.heap.size, 0, none⟩ (.pointer (some ⟨gr, 0, none⟩))) := hbR.setCell (p := ⟨X2.heap.size, 0, none⟩) hPB3.1 _
              clear hMid hgB hPF3 hPB3 hPR3 hx
              refine wpAnyH_ready (rs := [7]) (by kernel_rfl) (by simp) ?_
              refine (AllReadyH.cons rfl (fun K hK => ?_) AllReadyH.nil)
              refine wp_store_step (x := .tmp 8) (y := .tmp 31) rfl rfl rfl rfl HF3.out rfl rfl (bare_frv W (fun _ => False) h).one ?_
              go_simp
              refine hK.out _ _ hbR (fun hHeld => ?_)
              clear hK K
              refine wpAnyH_ready (rs := [8]) (by kernel_rfl) (by simp) ?_
              refine (AllReadyH.cons rfl (fun K hK => ?_) AllReadyH.nil)
              go_simp
              refine hK.out _ _ hbE (fun hHeld => ?_)
              clear hK K
              refine wpAnyH_done (by kernel_rfl) ?_ _
              go_wp2_with fail
              go_meet
              exact ⟨X0.heap.size, X2.heap.size, rfl, rfl, HMid.out⟩
          · go_simp
            have hbs : RowKit.Below X1.heap.size X1 (X1.alloc (.cells #[.pointer none] 52)) := (RowKit.Below.refl _ _).alloc (Nat.le_refl _) _
            have hb2 : RowKit.Below W.heap.size W (X1.alloc (.cells #[.pointer none] 52)) := hb1.trans (hbs.mono hb1.size)
            have hPB2 : PB W X1.heap.size (X1.alloc (.cells #[.pointer none] 52)) := ⟨hb1.size, heap_alloc_new _ _⟩
            refine hK.out _ _ hb2 (fun hHeld => ?_)
            clear hK K
            generalize hXe : X1.alloc (.cells #[.pointer none] 52) = X2 at hbs hb2 hPB2 hHeld ⊢
            clear hXe
            have hPF2 := hPF1.on hbs
            clear hbs hPF1
            refine wpAnyH_ready (rs := [3]) (by kernel_rfl) (by simp) ?_
            refine (AllReadyH.cons rfl (fun K hK => ?_) AllReadyH.nil)
            · have HX := Lib.hid hPF2.lt
              go_simp
              refine (new_any A7 n7 c7 rest X2 HL7.out (by omega) (H7.out.later hb2)).mono ?_
              rintro e X3 ⟨gr, rfl, hRd, hbs⟩
              have hb3 : RowKit.Below W.heap.size W X3 := hb2.trans (hbs.mono hb2.size)
              have hPR3 : PR W rest gr X2.heap.size X3.heap.size X3 := ⟨hb2.size, hRd⟩
              refine hK.out _ _ hb3 (fun hHeld => ?_)
              clear hK K hRd
              have hPF3 := hPF2.on hbs
              have hPB3 := hPB2.on hbs
              clear hbs hPF2 hPB2
              refine wpAnyH_takeAt (i := 4) (d := 34) (v := ?_) rfl rfl (by kernel_rfl) (by kernel_rfl) (by kernel_rfl) (fun _ _ _ h => h) (Or.inl ⟨by rfl, ?_⟩) hHeld ?_
              rotate_left
              · (intro _ hSw; go_simp; try with_reducible rfl)
              simp only [List.setIfInBounds_toArray, List.set_cons_zero, List.set_cons_succ]
              have hx : X0.heap.size < X2.heap.size ∨ X3.heap.size ≤ X0.heap.size := Or.inl HX.out
              obtain ⟨hgB, hMid⟩ := parts_done (h := h) hb3 hPF3 hPB3 hPR3 hx #[.int .u8 (h.1 : Int), .int .u8 (h.2.1 : Int), .int .u8 (h.2.2 : Int), .int .u8 0, .int .u64 0, .int .u64 0, .int .u32 0, .int .u32 0, .int .u32 0, .int .u64 0, .int .u64 0, .slice none 0 0, .slice none 0 0, .slice none 0 0, .slice none 0 0, .slice none 0 0] rfl
              have HMid := Lib.hid hMid
              have cB := cell_of_row _ _ 0 _ _ _ hgB
              have fB := row_frozen hgB
              simp only [List.getElem?_toArray, List.getElem?_cons_zero] at cB
              have hbR : RowKit.Below W.heap.size W (X3.setRow X0.heap.size #[.int .u8 (h.1 : Int), .int .u8 (h.2.1 : Int), .int .u8 (h.2.2 : Int), .int .u8 0, .int .u64 0, .int .u64 0, .int .u32 0, .int .u32 0, .int .u32 0, .int .u64 0, .int .u64 0, .slice none 0 0, .slice none 0 0, .slice none 0 0, .slice none 0 0, .slice none 0 0]) := Below.setRow hb3 hPF3.1 _
              have HF3 := Lib.hid hPF3.2
              have hbE : RowKit.Below W.heap.size W ((X3.setRow X0.heap.size #[.int .u8 (h.1 : Int), .int .u8 (h.2.1 : Int), .int .u8 (h.2.2 : Int), .int .u8 0, .int .u64 0, .int .u64 0, .int .u32 0, .int .u32 0, .int .u32 0, .int .u64 0, .int .u64 0, .slice none 0 0, .slice none 0 0, .slice none 0 0, .slice none 0 0, .slice none 0 0]).setCell ⟨X1.heap.size, 0, none⟩ (.pointer (some ⟨gr, 0, none⟩))) := hbR.setCell (p := ⟨X1.heap.size, 0, none⟩) hPB3.1 _
              clear hMid hgB hPF3 hPB3 hPR3 hx
              refine wpAnyH_ready (rs := [7]) (by kernel_rfl) (by simp) ?_
              refine (AllReadyH.cons rfl (fun K hK => ?_) AllReadyH.nil)
              refine wp_store_step (x := .tmp 8) (y := .tmp 31) rfl rfl rfl rfl HF3.out rfl rfl (bare_frv W (fun _ => False) h).one ?_
              go_simp
              refine hK.out _ _ hbR (fun hHeld => ?_)
              clear hK K
              refine wpAnyH_ready (rs := [8]) (by kernel_rfl) (by simp) ?_
              refine (AllReadyH.cons rfl (fun K hK => ?_) AllReadyH.nil)
              go_simp
              refine hK.out _ _ hbE (fun hHeld => ?_)
              clear hK K
              refine wpAnyH_done (by kernel_rfl) ?_ _
              go_wp2_with fail
              go_meet
              exact ⟨X0.heap.size, X1.heap.size, rfl, rfl, HMid.out⟩
        · go_simp
          have hbs : RowKit.Below X0.heap.size X0 (X0.alloc (.cells #[.pointer none] 52)) := (RowKit.Below.refl _ _).alloc (Nat.le_refl _) _
          have hb1 : RowKit.Below W.heap.size W (X0.alloc (.cells #[.pointer none] 52)) := hb0.trans (hbs.mono hb0.size)
          have hPB1 : PB W X0.heap.size (X0.alloc (.cells #[.pointer none] 52)) := ⟨hb0.size, heap_alloc_new _ _⟩
          refine hK.out _ _ hb1 (fun hHeld => ?_)
          clear hK K
          generalize hXe : X0.alloc (.cells #[.pointer none] 52) = X1 at hbs hb1 hPB1 hHeld ⊢
          clear hXe
          clear hbs
          refine wpAnyH_ready (rs := [3, 5]) (by kernel_rfl) (by simp) ?_
          refine (AllReadyH.cons rfl (fun K hK => ?_) (AllReadyH.cons rfl (fun K hK => ?_) AllReadyH.nil))
          · go_simp
            refine (new_any A7 n7 c7 rest X1 HL7.out (by omega) (H7.out.later hb1)).mono ?_
            rintro e X2 ⟨gr, rfl, hRd, hbs⟩
            have hb2 : RowKit.Below W.heap.size W X2 := hb1.trans (hbs.mono hb1.size)
            have hPR2 : PR W rest gr X1.heap.size X2.heap.size X2 := ⟨hb1.size, hRd⟩
            refine hK.out _ _ hb2 (fun hHeld => ?_)
            clear hK K hRd
            have hPB2 := hPB1.on hbs
            clear hbs hPB1
            refine wpAnyH_takeAt (i := 4) (d := 34) (v := ?_) rfl rfl (by kernel_rfl) (by kernel_rfl) (by kernel_rfl) (fun _ _ _ h => h) (Or.inl ⟨by rfl, ?_⟩) hHeld ?_
            rotate_left
            · (intro _ hSw; go_simp; try with_reducible rfl)
            simp only [List.setIfInBounds_toArray, List.set_cons_zero, List.set_cons_succ]
            refine wpAnyH_ready (rs := [5]) (by kernel_rfl) (by simp) ?_
            refine (AllReadyH.cons rfl (fun K hK => ?_) AllReadyH.nil)
            · have HX := Lib.hid hPR2.2.lt.2.2
              go_simp
              have hbs : RowKit.Below X2.heap.size X2 (X2.alloc (.cells #[.int .u8 0, .int .u8 0, .int .u8 0, .int .u8 0, .int .u64 0, .int .u64 0, .int .u32 0, .int .u32 0, .int .u32 0, .int .u64 0, .int .u64 0, .slice none 0 0, .slice none 0 0, .slice none 0 0, .slice none 0 0, .slice none 0 0] 33)) := (RowKit.Below.refl _ _).alloc (Nat.le_refl _) _
              have hb3 : RowKit.Below W.heap.size W (X2.alloc (.cells #[.int .u8 0, .int .u8 0, .int .u8 0, .int .u8 0, .int .u64 0, .int .u64 0, .int .u32 0, .int .u32 0, .int .u32 0, .int .u64 0, .int .u64 0, .slice none 0 0, .slice none 0 0, .slice none 0 0, .slice none 0 0, .slice none 0 0] 33)) := hb2.trans (hbs.mono hb2.size)
              have hPF3 : PF W X2.heap.size (X2.alloc (.cells #[.int .u8 0, .int .u8 0, .int .u8 0, .int .u8 0, .int .u64 0, .int .u64 0, .int .u32 0, .int .u32 0, .int .u32 0, .int .u64 0, .int .u64 0, .slice none 0 0, .slice none 0 0, .slice none 0 0, .slice none 0 0, .slice none 0 0] 33)) := ⟨hb2.size, heap_alloc_new _ _⟩
              refine hK.out _ _ hb3 (fun hHeld => ?_)
              clear hK K
              generalize hXe : X2.alloc (.cells #[.int .u8 0, .int .u8 0, .int .u8 0, .int .u8 0, .int .u64 0, .int .u64 0, .int .u32 0, .int .u32 0, .int .u32 0, .int .u64 0, .int .u64 0, .slice none 0 0, .slice none 0 0, .slice none 0 0, .slice none 0 0, .slice none 0 0] 33) = X3 at hbs hb3 hPF3 hHeld ⊢
              clear hXe
              have hPB3 := hPB2.on hbs
              have hPR3 := hPR2.on hbs
              clear hbs hPB2 hPR2
              have hx : X2.heap.size < X1.heap.size ∨ X2.heap.size ≤ X2.heap.size := Or.inr HX.out
              obtain ⟨hgB, hMid⟩ := parts_done (h := h) hb3 hPF3 hPB3 hPR3 hx #[.int .u8 (h.1 : Int), .int .u8 (h.2.1 : Int), .int .u8 (h.2.2 : Int), .int .u8 0, .int .u64 0, .int .u64 0, .int .u32 0, .int .u32 0, .int .u32 0, .int .u64 0, .int .u64 0, .slice none 0 0, .slice none 0 0, .slice none 0 0, .slice none 0 0, .slice none 0 0] rfl
              have HMid := Lib.hid hMid
              have cB := cell_of_row _ _ 0 _ _ _ hgB
              have fB := row_frozen hgB
              simp only [List.getElem?_toArray, List.getElem?_cons_zero] at cB
              have hbR : RowKit.Below W.heap.size W (X3.setRow X2.heap.size #[.int .u8 (h.1 : Int), .int .u8 (h.2.1 : Int), .int .u8 (h.2.2 : Int), .int .u8 0, .int .u64 0, .int .u64 0, .int .u32 0, .int .u32 0, .int .u32 0, .int .u64 0, .int .u64 0, .slice none 0 0, .slice none 0 0, .slice none 0 0, .slice none 0 0, .slice none 0 0]) := Below.setRow hb3 hPF3.1 _
              have HF3 := Lib.hid hPF3.2
              have hbE : RowKit.Below W.heap.size W ((X3.setRow X2.heap.size #[.int .u8 (h.1 : Int), .int .u8 (h.2.1 : Int), .int .u8 (h.2.2 : Int), .int .u8 0, .int .u64 0, .int .u64 0, .int .u32 0, .int .u32 0, .int .u32 0, .int .u64 0, .int .u64 0, .slice none 0 0, .slice none 0 0, .slice none 0 0, .slice none 0 0, .slice none 0 0]).setCell ⟨X0.heap.size, 0, none⟩ (.pointer (some ⟨gr, 0, none⟩))) := hbR.setCell (p := ⟨X0.heap.size, 0, none⟩) hPB3.1 _
              clear hMid hgB hPF3 hPB3 hPR3 hx
              refine wpAnyH_ready (rs := [7]) (by kernel_rfl) (by simp) ?_
              refine (AllReadyH.cons rfl (fun K hK => ?_) AllReadyH.nil)
              refine wp_store_step (x := .tmp 8) (y := .tmp 31) rfl rfl rfl rfl HF3.out rfl rfl (bare_frv W (fun _ => False) h).one ?_
              go_simp
              refine hK.out _ _ hbR (fun hHeld => ?_)
              clear hK K
              refine wpAnyH_ready (rs := [8]) (by kernel_rfl) (by simp) ?_
              refine (AllReadyH.cons rfl (fun K hK => ?_) AllReadyH.nil)
              go_simp
              refine hK.out _ _ hbE (fun hHeld => ?_)
              clear hK K
              refine wpAnyH_done (by kernel_rfl) ?_ _
              go_wp2_with fail
              go_meet
              exact ⟨X2.heap.size, X0.heap.size, rfl, rfl, HMid.out⟩
          · go_simp
            have hbs : RowKit.Below X1.heap.size X1 (X1.alloc (.cells #[.int .u8 0, .int .u8 0, .int .u8 0, .int .u8 0, .int .u64 0, .int .u64 0, .int .u32 0, .int .u32 0, .int .u32 0, .int .u64 0, .int .u64 0, .slice none 0 0, .slice none 0 0, .slice none 0 0, .slice none 0 0, .slice none 0 0] 33)) := (RowKit.Below.refl _ _).alloc (Nat.le_refl _) _
            have hb2 : RowKit.Below W.heap.size W (X1.alloc (.cells #[.int .u8 0, .int .u8 0, .int .u8 0, .int .u8 0, .int .u64 0, .int .u64 0, .int .u32 0, .int .u32 0, .int .u32 0, .int .u64 0, .int .u64 0, .slice none 0 0, .slice none 0 0, .slice none 0 0, .slice none 0 0, .slice none 0 0] 33)) := hb1.trans (hbs.mono hb1.size)
            have hPF2 : PF W X1.heap.size (X1.alloc (.cells #[.int .u8 0, .int .u8 0, .int .u8 0, .int .u8 0, .int .u64 0, .int .u64 0, .int .u32 0, .int .u32 0, .int .u32 0, .int .u64 0, .int .u64 0, .slice none 0 0, .slice none 0 0, .slice none 0 0, .slice none 0 0, .slice none 0 0] 33)) := ⟨hb1.size, heap_alloc_new _ _⟩
            refine hK.out _ _ hb2 (fun hHeld => ?_)
            clear hK K
            generalize hXe : X1.alloc (.cells #[.int .u8 0, .int .u8 0, .int .u8 0, .int .u8 0, .int .u64 0, .int .u64 0, .int .u32 0, .int .u32 0, .int .u32 0, .int .u64 0, .int .u64 0, .slice none 0 0, .slice none 0 0, .slice none 0 0, .slice none 0 0, .slice none 0 0] 33) = X2 at hbs hb2 hPF2 hHeld ⊢
            clear hXe
            have hPB2 := hPB1.on hbs
            clear hbs hPB1
            refine wpAnyH_ready (rs := [3]) (by kernel_rfl) (by simp) ?_
            refine (AllReadyH.cons rfl (fun K hK => ?_) AllReadyH.nil)
            · have HX := Lib.hid hPF2.lt
              go_simp
              refine (new_any A7 n7 c7 rest X2 HL7.out (by omega) (H7.out.later hb2)).mono ?_
              rintro e X3 ⟨gr, rfl, hRd, hbs⟩
              have hb3 : RowKit.Below W.heap.size W X3 := hb2.trans (hbs.mono hb2.size)
              have hPR3 : PR W rest gr X2.heap.size X3.heap.size X3 := ⟨hb2.size, hRd⟩
              refine hK.out _ _ hb3 (fun hHeld => ?_)
              clear hK K hRd
              have hPB3 := hPB2.on hbs
              have hPF3 := hPF2.on hbs
              clear hbs hPB2 hPF2
              refine wpAnyH_takeAt (i := 4) (d := 34) (v := ?_) rfl rfl (by kernel_rfl) (by kernel_rfl) (by kernel_rfl) (fun _ _ _ h => h) (Or.inl ⟨by rfl, ?_⟩) hHeld ?_
              rotate_left
              · (intro _ hSw; go_simp; try with_reducible rfl)
              simp only [List.setIfInBounds_toArray, List.set_cons_zero, List.set_cons_succ]
              have hx : X1.heap.size < X2.heap.size ∨ X3.heap.size ≤ X1.heap.size := Or.inl HX.out
              obtain ⟨hgB, hMid⟩ := parts_done (h := h) hb3 hPF3 hPB3 hPR3 hx #[.int .u8 (h.1 : Int), .int .u8 (h.2.1 : Int), .int .u8 (h.2.2 : Int), .int .u8 0, .int .u64 0, .int .u64 0, .int .u32 0, .int .u32 0, .int .u32 0, .int .u64 0, .int .u64 0, .slice none 0 0, .slice none 0 0, .slice none 0 0, .slice none 0 0, .slice none 0 0] rfl
              have HMid := Lib.hid hMid
              have cB := cell_of_row _ _ 0 _ _ _ hgB
              have fB := row_frozen hgB
              simp only [List.getElem?_toArray, List.getElem?_cons_zero] at cB
              have hbR : RowKit.Below W.heap.size W (X3.setRow X1.heap.size #[.int .u8 (h.1 : Int), .int .u8 (h.2.1 : Int), .int .u8 (h.2.2 : Int), .int .u8 0, .int .u64 0, .int .u64 0, .int .u32 0, .int .u32 0, .int .u32 0, .int .u64 0, .int .u64 0, .slice none 0 0, .slice none 0 0, .slice none 0 0, .slice none 0 0, .slice none 0 0]) := Below.setRow hb3 hPF3.1 _
              have HF3 := Lib.hid hPF3.2
              have hbE : RowKit.Below W.heap.size W ((X3.setRow X1.heap.size #[.int .u8 (h.1 : Int), .int .u8 (h.2.1 : Int), .int .u8 (h.2.2 : Int), .int .u8 0, .int .u64 0, .int .u64 0, .int .u32 0, .int .u32 0, .int .u32 0, .int .u64 0, .int .u64 0, .slice none 0 0, .slice none 0 0, .slice none 0 0, .slice none 0 0, .slice none 0 0]).setCell ⟨X0.heap.size, 0, none⟩ (.pointer (some ⟨gr, 0, none⟩))) := hbR.setCell (p := ⟨X0.heap.size, 0, none⟩) hPB3.1 _
              clear hMid hgB hPF3 hPB3 hPR3 hx
              refine wpAnyH_ready (rs := [7]) (by kernel_rfl) (by simp) ?_
              refine (AllReadyH.cons rfl (fun K hK => ?_) AllReadyH.nil)
              refine wp_store_step (x := .tmp 8) (y := .tmp 31) rfl rfl rfl rfl HF3.out rfl rfl (bare_frv W (fun _ => False) h).one ?_
              go_simp
              refine hK.out _ _ hbR (fun hHeld => ?_)
              clear hK K
              refine wpAnyH_ready (rs := [8]) (by kernel_rfl) (by simp) ?_
              refine (AllReadyH.cons rfl (fun K hK => ?_) AllReadyH.nil)
              go_simp
              refine hK.out _ _ hbE (fun hHeld => ?_)
              clear hK K
              refine wpAnyH_done (by kernel_rfl) ?_ _
              go_wp2_with fail
              go_meet
              exact ⟨X1.heap.size, X0.heap.size, rfl, rfl, HMid.out⟩
      case rest =>
        obtain ⟨gF, gB, rfl, rfl, hM⟩ := hcut
        obtain ⟨gr, cB, hvis⟩ := get_visit hM HLT.out hrl
        have HV := Lib.hid hvis
        clear hM hvis c0 c1' c2
        go_wp2_with fail
        refine HV.out.mono ?_
        rintro e V ⟨rfl, hbV, cB', hok, ⟨cs, hcs, hfv⟩, hEnd⟩
        have HBV : Hid (RowKit.Below w.heap.size w V) := HBW.out.trans (hbV.mono HBW.out.size)
        have HRV : Hid (V.heap[w.heap.size]? = some (.cells zeroCells 33 (0, 0))) := (hbV.block _ (Array.getElem?_eq_some_iff.1 HRW.out).1).trans HRW.out
        have HCS := Lib.hid hcs
        have HFV := Lib.hid hfv
        have HE := Lib.hid hEnd
        have HOK := Lib.hid hok
        clear hbV hcs hfv hEnd hok cB HV
        generalize hq1 : isKind h.1 = q1
        have HQ1 := Lib.hid hq1
        clear hq1
        cases q1
        · go_wp2_with (first | (refine store_frame (.tmp 2) (.tmp 39) rfl rfl HRV.out rfl rfl (zero_frv w (fun _ => False)).one ?_) | fail)
          refine bodyPost_ret (results_cell2 rfl _ _ w.heap.size zeroCells rfl (load_row33 (setRow_heap _ _ _ _ _ _ HRV.out) rfl)) rfl ?_
          have er : r = (Fr.zero, 10) := by rw [← HBody.out, bodyOf, if_pos HQ1.out]
          rw [er]
          exact GetGot.err 10 (Below.setRow HBV.out (Nat.le_refl _) _)
        have HQ1' : Hid (¬ isKind h.1 = false) := by show ¬ _; rw [HQ1.out]; simp
        generalize hee : endOf (fieldsOf h rest).2.2 (fieldsOf h rest).2.1.length = er at HE
        have HEE := Lib.hid hee
        clear hee
        go_wp2_with fail
        refine HE.out.mono ?_
        rintro e _ ⟨rfl, rfl⟩
        by_cases he0 : er = 0
        · subst he0
          generalize hmm : mayF (fieldsOf h rest).1 = qm
          have HM := Lib.hid (wireMay_any (fieldsOf h rest).1 cs V HOK.out (HFV.out.widen (fun _ h => h.elim)))
          rw [hmm] at HM
          have HMM := Lib.hid hmm
          have HSZ2 := Lib.hid HFV.out.size
          have HON := Lib.hid HFV.out.one
          clear hmm HE
          go_wp2_with (first | (refine load_frame (.tmp 8) rfl HCS.out HSZ2.out ?_) | fail)
          refine HM.out.mono ?_
          rintro e V5 ⟨rfl, hb5⟩
          have HB5 : Hid (RowKit.Below w.heap.size w V5) := HBV.out.trans (hb5.mono HBV.out.size)
          have HR5 : Hid (V5.heap[w.heap.size]? = some (.cells zeroCells 33 (0, 0))) := (hb5.block _ (Array.getElem?_eq_some_iff.1 HRV.out).1).trans HRV.out
          have HC5 : Hid (V5.heap[gF]? = some (.cells cs 33 (0, 0))) := (hb5.block _ (Array.getElem?_eq_some_iff.1 HCS.out).1).trans HCS.out
          have HF5 : Hid (FrV V5 (fun k => k < W.heap.size) (fieldsOf h rest).1 cs) := HFV.out.on hb5
          clear hb5 HM
          cases qm
          · go_wp2_with (first | (refine store_frame (.tmp 2) (.tmp 50) rfl rfl HR5.out rfl rfl (zero_frv w (fun _ => False)).one ?_) | fail)
            refine bodyPost_ret (results_cell2 rfl _ _ w.heap.size zeroCells rfl (load_row33 (setRow_heap _ _ _ _ _ _ HR5.out) rfl)) rfl ?_
            have er : r = (Fr.zero, 3) := by rw [← HBody.out, bodyOf, if_neg HQ1'.out, if_neg (by rw [HEE.out]; simp), if_pos HMM.out]
            rw [er]
            exact GetGot.err 3 (Below.setRow HB5.out (Nat.le_refl _) _)
          go_wp2_with (first | (refine load_frame (.tmp 8) rfl HC5.out HSZ2.out ?_) | (refine store_frame (.tmp 2) (.tmp 51) rfl rfl HR5.out rfl HSZ2.out HON.out ?_) | fail)
          refine bodyPost_ret (results_cell2 rfl _ _ w.heap.size cs rfl (load_row33 (setRow_heap _ _ _ _ _ _ HR5.out) HSZ2.out)) rfl ?_
          have er : r = ((fieldsOf h rest).1, 0) := by rw [← HBody.out, bodyOf, if_neg HQ1'.out, if_neg (by rw [HEE.out]; simp), if_neg (by rw [HMM.out]; simp)]
          rw [er]
          refine ⟨cs, rfl, ?_, HOK.out, Below.setRow HB5.out (Nat.le_refl _) _⟩
          have hlt : w.heap.size < W.heap.size := (Array.getElem?_eq_some_iff.1 HRW.out).1
          refine (HF5.out.kept ⟨by simp, fun k hk hd => setRow_other V5 _ k cs (fun e => hd (by show k < W.heap.size; omega)), Below.setRow (RowKit.Below.refl 0 V5) (Nat.zero_le _) cs⟩).widen (fun _ h => h.elim)
        · have q0 : ((er : Int) != 0) = true := by simp; omega
          go_wp2_with (first | (refine store_frame (.tmp 2) (.tmp 45) rfl rfl HRV.out rfl rfl (zero_frv w (fun _ => False)).one ?_) | fail)
          refine bodyPost_ret (results_cell2 rfl _ _ w.heap.size zeroCells rfl (load_row33 (setRow_heap _ _ _ _ _ _ HRV.out) rfl)) rfl ?_
          have er' : r = (Fr.zero, er) := by rw [← HBody.out, bodyOf, if_neg HQ1'.out, if_pos (by rw [HEE.out]; exact he0), HEE.out]
          rw [er']
          exact GetGot.err er (Below.setRow HBV.out (Nat.le_refl _) _)
    · rw [if_pos h2]
      have q0 : ((he : Int) != 0) = true := by simp; omega
      go_enter Try.func8, Try.ntmps8
      go_wp2_with fail
      refine HFit.out.mono ?_
      rintro e w1 ⟨A1, n1, c1, rfl, hn1, hc1, hcm1, ho1, hb1⟩
      have HB1 : Hid (RowKit.Below w.heap.size w w1) := HB.out.trans (hb1.mono HB.out.size)
      have HR1 : Hid (w1.heap[w.heap.size]? = some (.cells zeroCells 33 (0, 0))) := (hb1.block _ (by rw [HSZ.out]; omega)).trans HR0.out
      have HHc := Lib.hid (HHd.out w1 A1 n1 c1 hc1 hcm1 hn1.out (Lies.of_own ho1))
      clear ho1 hb1 hn1 HFit HHd hlt hln
      go_wp2_with fail
      refine HHc.out.mono ?_
      rintro e w2 ⟨A7, n7, c7, rfl, HL7, hc7, hcm7, hL7, hb7⟩
      have HB2 : Hid (RowKit.Below w.heap.size w w2) := HB1.out.trans (hb7.mono HB1.out.size)
      have HR2 : Hid (w2.heap[w.heap.size]? = some (.cells zeroCells 33 (0, 0))) := (hb7.block _ (Array.getElem?_eq_some_iff.1 HR1.out).1).trans HR1.out
      clear hL7 hb7 HHc
      go_wp2_with (first | (refine store_frame (.tmp 2) (.tmp 28) rfl rfl (Below.heap_alloc_row HR2.out) rfl rfl (zero_frv w (fun _ => False)).one ?_) | fail)
      refine bodyPost_ret (results_cell2 rfl _ _ w.heap.size zeroCells rfl (load_row33 (setRow_heap _ _ _ _ _ _ (Below.heap_alloc_row HR2.out)) rfl)) rfl ?_
      exact GetGot.err he (Below.setRow (HB2.out.alloc HB2.out.size _) (Nat.le_refl _) _)
  · rw [if_pos h1]
    have q0 : ((fe : Int) != 0) = true := by simp; omega
    go_enter Try.func8, Try.ntmps8
    go_wp2_with fail
    refine HFit.out.mono ?_
    rintro e w1 ⟨A1, n1, c1, rfl, hn1, hc1, hcm1, ho1, hb1⟩
    have HB1 : Hid (RowKit.Below w.heap.size w w1) := HB.out.trans (hb1.mono HB.out.size)
    have HR1 : Hid (w1.heap[w.heap.size]? = some (.cells zeroCells 33 (0, 0))) := (hb1.block _ (by rw [HSZ.out]; omega)).trans HR0.out
    clear ho1 hb1 hn1 HFit
    go_wp2_with (first | (refine store_frame (.tmp 2) (.tmp 18) rfl rfl HR1.out rfl rfl (zero_frv w (fun _ => False)).one ?_) | fail)
    refine bodyPost_ret (results_cell2 rfl _ _ w.heap.size zeroCells rfl (load_row33 (setRow_heap _ _ _ _ _ _ HR1.out) rfl)) rfl ?_
    exact GetGot.err fe (Below.setRow HB1.out (Nat.le_refl _) _)

end Go.Proofs.Ytbfjfidodpgohaa
