/- Stage 14: an act of kind 2; does. -/
import Derived.Test.YtnpdjlcekmpmoaaSpJ
import Derived.Test.YtnpdjlcekmpmoaaSpK
set_option maxRecDepth 20000
namespace Go.Proofs.Ytnpdjlcekmpmoaa
open Go.RowKit Go.Sort Go.Maps Go.ChangeShapes Go.WideShapes Go.ChangeAt

section
variable {w : World} {base g mb fb : Nat} {D : Nat → Prop} {A A2 : Option Addr} {c c2 : Nat} {m : Sm}
set_option maxHeartbeats 12800000 in
theorem does_drop (h : StAt w base g mb fb m D) (hr : RsAt w D A c A2 c2 m) (kd : Int) (hk0 : kd ≠ 0) (hk1 : kd ≠ 1) (x : Id) (Ab : Option Addr) (cb bn : Nat) (u : List Nat) (Au : Option Addr) (cu : Nat) (hun : u.length ≤ 100) (hucu : u.length ≤ cu) (hcum : cu ≤ maxLen) (hL : Lies w w.heap.size Au (uvs u)) (hlen : m.l.length ≤ 1000) :
    Calls Try.prog 11 #[sptr g, .agg (rsCells A c A2 c2 m), .agg #[.int .i64 kd, .int .u8 (x.f : Int), .int .u64 (x.s : Int), .slice Ab bn cb, .slice Au u.length cu]] w (DidS w base g mb fb D (m.drop u)) := by
  have mixed := mixedOrders
  have HST := Lib.hid h
  have HRS := Lib.hid hr
  have HL := Lib.hid hL
  have HEX : Hid (∃ N rm L un, m.n = N ∧ m.room = rm ∧ m.l.length = L ∧ u.length = un) := ⟨_, _, _, _, rfl, rfl, rfl, rfl⟩
  have HDB : Hid (∀ k, D k → k < w.heap.size) := fun k hk => (h.din k hk).2
  have hke0 : (kd == 0) = false := beq_eq_false_iff_ne.2 hk0
  have hke1 : (kd == 1) = false := beq_eq_false_iff_ne.2 hk1
  have HG : Hid (∀ W, RowKit.Below w.heap.size w W → Calls Try.prog 28 #[.agg #[.int .i64 (m.n : Int), .int .i64 (m.room : Int), .slice A m.l.length c, .slice A2 m.n c2], .slice Au u.length cu] W (GotS W A c A2 c2 m (m.drop u) (.int .i64 ((m.l.length - (m.drop u).l.length : Nat) : Int)))) := fun W hW => refDrop_any (hr.on hW) h.ok u rfl (hL.later hW) hlen
  have HSG : Hid (∀ W D1, StAt W base g mb fb m D1 → RowKit.Below w.heap.size w W → Calls Try.prog 20 #[.pointer (some ⟨g, 0, none⟩), .slice (some ⟨W.heap.size, 0, none⟩) 1 1] (W.alloc (.cells #[.slice Au u.length cu] 27)) fun e w' => e = .returned (.int .i64 ((m.l.length - (m.drop u).l.length : Nat) : Int)) ∧ StAt w' base g mb fb (m.drop u) D1 ∧ OnlyE (W.alloc (.cells #[.slice Au u.length cu] 27)) w' (own3 g mb fb)) := fun W D1 hW hb =>
    drop_any (hW.on (alloc_below W (.cells #[.slice Au u.length cu] 27))) u (some ⟨W.heap.size, 0, none⟩) 1 (.slice Au u.length cu) (by omega) (by omega) (by unfold maxLen; omega) ((lies_new W #[.slice Au u.length cu] 27).more (by simp)) ⟨Au, _, cu, rfl, rfl, hucu, hcum, (hL.later hb).later (alloc_below W (.cells #[.slice Au u.length cu] 27))⟩ hlen
  clear h hr hL hk0 hk1 hucu hcum
  have hgs : rsCells A c A2 c2 m = #[.int .i64 (m.n : Int), .int .i64 (m.room : Int), .slice A m.l.length c, .slice A2 m.n c2] := rfl
  rw [hgs]
  clear hgs
  obtain ⟨N, rm, L, un, e1, e2, e3, e4⟩ := HEX.out
  rw [e1, e2, e3, e4] at HG ⊢
  rw [e3, e4] at HSG
  rw [e4] at hun
  clear e1 e2 e3 e4 HEX HL
  obtain ⟨cnt, hcnt⟩ : ∃ cnt, L - (m.drop u).l.length = cnt := ⟨_, rfl⟩
  rw [hcnt] at HG HSG
  clear hcnt
  unfold sptr
  go_enter Try.func11, Try.ntmps11
  go_upto_region 20 with fail
  generalize hw0 : World.alloc (World.alloc (World.alloc w _) _) _ = w0
  have BB0 := Lib.hid (show DBx w #[.int .i64 (N : Int), .int .i64 (rm : Int), .slice A L c, .slice A2 N c2] #[.int .i64 kd, .int .u8 (x.f : Int), .int .u64 (x.s : Int), .slice Ab bn cb, .slice Au un cu] zeroS w0 ∧ RowKit.Below w.heap.size w w0 from DBx.start hw0)
  have B0 := Lib.hid BB0.out.1
  clear hw0
  have hs0 := B0.out.lt
  have x0 := B0.out.c (i := 0) rfl
  have x1 := B0.out.c (i := 1) rfl
  have x2 := B0.out.c (i := 2) rfl
  have x3 := B0.out.c (i := 3) rfl
  have y4 := B0.out.ca (i := 4) rfl
  go_wp2_with fail
  obtain ⟨D1, hD1⟩ : ∃ D1 : Nat → Prop, D1 = fun k => D k ∨ k = w.heap.size + 2 := ⟨_, rfl⟩
  have RS0 : Hid (RsAt w0 D1 A c A2 c2 m) := by
    subst hD1
    refine (HRS.out.widen fun k hk => ?_).on BB0.out.2
    rcases hk with hk | hk
    · exact .inr hk
    · exact .inl (by omega)
  have ST0 : Hid (StAt w0 base g mb fb m D1) := by
    subst hD1
    refine HST.out.grow BB0.out.2 (fun k hk => .inl hk) fun k hk => ?_
    have hlo := HST.out.lo
    rcases hk with hk | hk
    · exact ⟨(HST.out.din k hk).1, Nat.lt_of_lt_of_le (HST.out.din k hk).2 BB0.out.2.size, .inl hk⟩
    · subst hk
      exact ⟨by omega, by omega, .inr (by omega)⟩
  have HD1 : Hid ((∀ k, D1 k → k < w0.heap.size) ∧ (∀ k, D k → D1 k) ∧ D1 (w.heap.size + 2)) := by
    subst hD1
    refine ⟨fun k hk => ?_, fun k hk => .inl hk, .inr rfl⟩
    rcases hk with hk | hk
    · exact Nat.lt_of_lt_of_le (HDB.out k hk) BB0.out.2.size
    · omega
  have hgd : Hid (g < w.heap.size ∧ mb < w.heap.size ∧ fb < w.heap.size) := ⟨HDB.out _ HST.out.dg, HDB.out _ HST.out.dm, HDB.out _ HST.out.df⟩
  have hdi : Hid (∀ k, own3 g mb fb k → k < w.heap.size ∧ D k) := fun k hk => ⟨HDB.out k (HST.out.own hk), HST.out.own hk⟩
  clear hD1 HRS HST HDB
  refine (HG.out w0 BB0.out.2).mono ?_
  rintro e w2 ⟨A4, c4, A5, c5, rfl, hb2, hk2⟩
  have RS2 := Lib.hid (hk2 D1 HD1.out.1 RS0.out)
  have ST2 := Lib.hid (ST0.out.on hb2)
  have B2 := Lib.hid (B0.out.on hb2)
  have HB2 := Lib.hid (BB0.out.2.trans (hb2.mono BB0.out.2.size))
  have hs02 : w0.heap.size ≤ w2.heap.size := hb2.size
  clear hb2 hk2 x0 x1 x2 x3 y4 HG RS0 ST0 B0 BB0
  have hgs2 : rsCells A4 c4 A5 c5 (m.drop u) = #[.int .i64 ((m.drop u).n : Int), .int .i64 ((m.drop u).room : Int), .slice A4 (m.drop u).l.length c4, .slice A5 (m.drop u).n c5] := rfl
  obtain ⟨N', e5⟩ : ∃ N', (m.drop u).n = N' := ⟨_, rfl⟩
  obtain ⟨rm', e6⟩ : ∃ rm', (m.drop u).room = rm' := ⟨_, rfl⟩
  obtain ⟨L', e7⟩ : ∃ L', (m.drop u).l.length = L' := ⟨_, rfl⟩
  rw [e5, e6, e7] at hgs2
  have HGS2 := Lib.hid hgs2
  rw [hgs2]
  clear hgs2 e5 e6 e7
  go_upto_region 21 with fail
  generalize hw3 : World.alloc w2 _ = w3
  have hb3 : RowKit.Below w2.heap.size w2 w3 := hw3 ▸ alloc_below w2 _
  have NX3 : Hid (w3.heap[w2.heap.size]? = some (.cells #[.int .i64 (N' : Int), .int .i64 (rm' : Int), .slice A4 L' c4, .slice A5 N' c5] 29 (0, 0))) := by
    show _ = _
    subst hw3
    exact heap_alloc_new w2 _
  have RS3 := Lib.hid (RS2.out.on hb3)
  have ST3 := Lib.hid (ST2.out.on hb3)
  have B3 := Lib.hid (B2.out.on hb3)
  have HB3 := Lib.hid (HB2.out.trans (hb3.mono HB2.out.size))
  have hs23 : w2.heap.size < w3.heap.size := (Array.getElem?_eq_some_iff.1 NX3.out).1
  clear hw3 hb3 RS2 ST2 B2 HB2
  refine wp_region_Z 9 (fun V => OnlyE w3 V (own3 g mb fb)) (by kernel_rfl) ?_
  have hHeld : OnlyE w3 w3.drew (own3 g mb fb) := OnlyE.of_below (drewB w3)
  have hW3 : RowKit.Below w3.heap.size w3 w3.drew := drewB w3
  generalize hW00 : World.drew w3 = W00 at hHeld hW3 ⊢
  clear hW00
  have HC : Hid (∀ V, OnlyE w3 V (own3 g mb fb) → DBx w #[.int .i64 (N : Int), .int .i64 (rm : Int), .slice A L c, .slice A2 N c2] #[.int .i64 kd, .int .u8 (x.f : Int), .int .u64 (x.s : Int), .slice Ab bn cb, .slice Au un cu] zeroS V ∧ V.heap[w2.heap.size]? = some (.cells #[.int .i64 (N' : Int), .int .i64 (rm' : Int), .slice A4 L' c4, .slice A5 N' c5] 29 (0, 0))) := fun V hV => ⟨B3.out.only hV fun k hk => .inl (hdi.out k hk).1, (hV.same _ hs23 fun hx => by have := (hdi.out _ hx).1; omega).trans NX3.out⟩
  refine wpZ_take (i := 0) (d := 113) (v := ?_) rfl rfl (by kernel_rfl) (by kernel_rfl) (by kernel_rfl) (by kernel_rfl) (fun _ _ _ h => h) (Or.inl ⟨by rfl, ?_⟩) hHeld ?_
  rotate_left
  · (intro _ hSw; have hsw := HC.out _ hSw; have y4 := hsw.1.ca (i := 4) rfl; have n0 := cell_of_row _ w2.heap.size 0 _ _ _ hsw.2; have n1 := cell_of_row _ w2.heap.size 1 _ _ _ hsw.2; have n2 := cell_of_row _ w2.heap.size 2 _ _ _ hsw.2; have n3 := cell_of_row _ w2.heap.size 3 _ _ _ hsw.2; simp only [List.getElem?_toArray, List.getElem?_cons_succ, List.getElem?_cons_zero] at n0 n1 n2 n3; go_simp; try with_reducible rfl)
  simp only [List.setIfInBounds_toArray, List.set_cons_zero, List.set_cons_succ]
  refine wpZ_take (i := 1) (d := 114) (v := ?_) rfl rfl (by kernel_rfl) (by kernel_rfl) (by kernel_rfl) (by kernel_rfl) (fun _ _ _ h => h) (Or.inl ⟨by rfl, ?_⟩) hHeld ?_
  rotate_left
  · (intro _ hSw; have hsw := HC.out _ hSw; have y4 := hsw.1.ca (i := 4) rfl; have n0 := cell_of_row _ w2.heap.size 0 _ _ _ hsw.2; have n1 := cell_of_row _ w2.heap.size 1 _ _ _ hsw.2; have n2 := cell_of_row _ w2.heap.size 2 _ _ _ hsw.2; have n3 := cell_of_row _ w2.heap.size 3 _ _ _ hsw.2; simp only [List.getElem?_toArray, List.getElem?_cons_succ, List.getElem?_cons_zero] at n0 n1 n2 n3; go_simp; try with_reducible rfl)
  simp only [List.setIfInBounds_toArray, List.set_cons_zero, List.set_cons_succ]
  refine wpZ_take (i := 2) (d := 115) (v := ?_) rfl rfl (by kernel_rfl) (by kernel_rfl) (by kernel_rfl) (by kernel_rfl) (fun _ _ _ h => h) (Or.inl ⟨by rfl, ?_⟩) hHeld ?_
  rotate_left
  · (intro _ hSw; have hsw := HC.out _ hSw; have y4 := hsw.1.ca (i := 4) rfl; have n0 := cell_of_row _ w2.heap.size 0 _ _ _ hsw.2; have n1 := cell_of_row _ w2.heap.size 1 _ _ _ hsw.2; have n2 := cell_of_row _ w2.heap.size 2 _ _ _ hsw.2; have n3 := cell_of_row _ w2.heap.size 3 _ _ _ hsw.2; simp only [List.getElem?_toArray, List.getElem?_cons_succ, List.getElem?_cons_zero] at n0 n1 n2 n3; go_simp; try with_reducible rfl)
  simp only [List.setIfInBounds_toArray, List.set_cons_zero, List.set_cons_succ]
  refine wpZ_take (i := 5) (d := 118) (v := ?_) rfl rfl (by kernel_rfl) (by kernel_rfl) (by kernel_rfl) (by kernel_rfl) (fun _ _ _ h => h) (Or.inl ⟨by rfl, ?_⟩) hHeld ?_
  rotate_left
  · (intro _ hSw; have hsw := HC.out _ hSw; have y4 := hsw.1.ca (i := 4) rfl; have n0 := cell_of_row _ w2.heap.size 0 _ _ _ hsw.2; have n1 := cell_of_row _ w2.heap.size 1 _ _ _ hsw.2; have n2 := cell_of_row _ w2.heap.size 2 _ _ _ hsw.2; have n3 := cell_of_row _ w2.heap.size 3 _ _ _ hsw.2; simp only [List.getElem?_toArray, List.getElem?_cons_succ, List.getElem?_cons_zero] at n0 n1 n2 n3; go_simp; try with_reducible rfl)
  simp only [List.setIfInBounds_toArray, List.set_cons_zero, List.set_cons_succ]
  refine wpZ_take (i := 7) (d := 120) (v := ?_) rfl rfl (by kernel_rfl) (by kernel_rfl) (by kernel_rfl) (by kernel_rfl) (fun _ _ _ h => h) (Or.inl ⟨by rfl, ?_⟩) hHeld ?_
  rotate_left
  · (intro _ hSw; have hsw := HC.out _ hSw; have y4 := hsw.1.ca (i := 4) rfl; have n0 := cell_of_row _ w2.heap.size 0 _ _ _ hsw.2; have n1 := cell_of_row _ w2.heap.size 1 _ _ _ hsw.2; have n2 := cell_of_row _ w2.heap.size 2 _ _ _ hsw.2; have n3 := cell_of_row _ w2.heap.size 3 _ _ _ hsw.2; simp only [List.getElem?_toArray, List.getElem?_cons_succ, List.getElem?_cons_zero] at n0 n1 n2 n3; go_simp; try with_reducible rfl)
  simp only [List.setIfInBounds_toArray, List.set_cons_zero, List.set_cons_succ]
  refine wpZ_ready (rs := [3]) (by kernel_rfl) (by simp) ?_
  refine AllReadyZ.cons rfl (fun K hK => ?_) AllReadyZ.nil
  go_simp
  have hal : OnlyE w3 (W00.alloc (.cells #[.slice Au un cu] 27)) (own3 g mb fb) := hHeld.trans (OnlyE.of_below (alloc_below W00 _))
  have P3 := HSG.out W00 D1 (ST3.out.on hW3) (HB3.out.trans (hW3.mono HB3.out.size))
  have hHeld2 := hal
  refine hK.out _ _ (fun _ => hHeld2) ?_
  clear hK K hHeld
  have hHeld := hHeld2
  clear hHeld2
  refine wpZ_ready (rs := [4]) (by kernel_rfl) (by simp) ?_
  refine AllReadyZ.cons rfl (fun K hK => ?_) AllReadyZ.nil
  go_simp
  refine P3.mono ?_
  rintro e W5 ⟨rfl, hs5, ho5⟩
  have ST5 := Lib.hid hs5
  have hHeld2 := hal.trans ho5
  refine hK.out _ _ (fun _ => hHeld2) ?_
  clear hK K hHeld
  have hHeld := hHeld2
  clear hHeld2
  clear P3 hal hs5
  refine wpZ_take (i := 6) (d := 119) (v := ?_) rfl rfl (by kernel_rfl) (by kernel_rfl) (by kernel_rfl) (by kernel_rfl) (fun _ _ _ h => h) (Or.inl ⟨by rfl, ?_⟩) hHeld ?_
  rotate_left
  · (intro _ hSw; have hcc : ((cnt : Int) == (cnt : Int)) = true := beq_iff_eq.2 rfl; go_simp; try with_reducible rfl)
  simp only [List.setIfInBounds_toArray, List.set_cons_zero, List.set_cons_succ]
  refine wpZ_take (i := 8) (d := 6) (v := ?_) rfl rfl (by kernel_rfl) (by kernel_rfl) (by kernel_rfl) (by kernel_rfl) (fun _ _ _ h => h) (Or.inl ⟨by rfl, ?_⟩) hHeld ?_
  rotate_left
  · (intro _ hSw; have hsw := HC.out _ hSw; have y4 := hsw.1.ca (i := 4) rfl; have n0 := cell_of_row _ w2.heap.size 0 _ _ _ hsw.2; have n1 := cell_of_row _ w2.heap.size 1 _ _ _ hsw.2; have n2 := cell_of_row _ w2.heap.size 2 _ _ _ hsw.2; have n3 := cell_of_row _ w2.heap.size 3 _ _ _ hsw.2; simp only [List.getElem?_toArray, List.getElem?_cons_succ, List.getElem?_cons_zero] at n0 n1 n2 n3; go_simp; try with_reducible rfl)
  simp only [List.setIfInBounds_toArray, List.set_cons_zero, List.set_cons_succ]
  have hB5 := HC.out _ hHeld
  have B5 := Lib.hid hB5.1
  have RS5 := Lib.hid (RS3.out.kept (hHeld.mono fun k hk => HD1.out.2.1 k (hdi.out k hk).2))
  have OE5 : Hid (OnlyE w W5 (own3 g mb fb)) := (OnlyE.of_below HB3.out).trans hHeld
  have hl6 := B5.out.lt
  have hl7 : w.heap.size + 2 < W5.heap.size := by omega
  have r0 := B5.out.cr (i := 0) rfl
  have r1 := B5.out.cr (i := 1) rfl
  have r2 := B5.out.cr (i := 2) rfl
  have r3 := B5.out.cr (i := 3) rfl
  have g0 := B5.out.fr 0
  have g1 := B5.out.fr 1
  have g2 := B5.out.fr 2
  have g3 := B5.out.fr 3
  clear hHeld ho5 hB5 hW3 RS3 ST3 B3 NX3 HC
  refine wpZ_ready (rs := [9]) (by kernel_rfl) (by simp) ?_
  refine AllReadyZ.cons rfl (fun K hK => ?_) AllReadyZ.nil
  go_simp
  refine hK.out _ _ (fun h => absurd rfl h) ?_
  clear hK K
  refine wpZ_done (by kernel_rfl) ?_ _
  have HF := (((B5.out.setRes 0 (.int .i64 (N' : Int))).setRes 1 (.int .i64 (rm' : Int))).setRes 2 (.slice A4 L' c4)).setRes 3 (.slice A5 N' c5)
  have hset := set4_only W5 (w.heap.size + 2) (.int .i64 (N' : Int)) (.int .i64 (rm' : Int)) (.slice A4 L' c4) (.slice A5 N' c5)
  have S7 := Lib.hid (ST5.out.kept hset fun k hk => .inr (by have := hgd.out; subst hk; exact ⟨HD1.out.2.2, by omega, by omega, by omega⟩))
  have R7 := Lib.hid (RS5.out.kept (hset.mono fun k hk => by subst hk; exact HD1.out.2.2))
  have O7 := Lib.hid (OE5.out.andNew hset fun k hk => .inl (by omega))
  have HRES := Lib.hid HF.res
  clear hset HF
  go_wp2
  refine bodyPost_ret (results_tmp_cell rfl _ _ (w.heap.size + 2) _ rfl (load_rowS HRES.out rfl)) rfl ?_
  exact ⟨A4, c4, A5, c5, D1, by rw [HGS2.out]; rfl, S7.out, R7.out, O7.out, HD1.out.2.1⟩

/-- An act is answered as the document says; both stores behind it. -/
theorem does_any (h : StAt w base g mb fb m D) (hr : RsAt w D A c A2 c2 m) (y : Sa) (hy : SaOk w w.heap.size y) (hb : y.b.length ≤ 200) (hu : y.u.length ≤ 100) (hlen : m.l.length ≤ 1000) :
    Calls Try.prog 11 #[sptr g, .agg (rsCells A c A2 c2 m), .agg #[.int .i64 y.k, .int .u8 (y.x.f : Int), .int .u64 (y.x.s : Int), .slice y.A y.b.length y.c, .slice y.A2 y.u.length y.c2]] w (DidS w base g mb fb D (m.act y)) := by
  unfold Sm.act
  by_cases h0 : y.k = 0
  · rw [if_pos h0, h0]
    exact does_put h hr y.x y.A y.c y.b y.A2 y.c2 y.u.length hb hy.l hlen
  · rw [if_neg h0]
    by_cases h1 : y.k = 1
    · rw [if_pos h1, h1]
      exact does_get h hr y.x y.A y.c y.b.length y.A2 y.c2 y.u.length
    · rw [if_neg h1]
      exact does_drop h hr y.k h0 h1 y.x y.A y.c y.b.length y.u y.A2 y.c2 hu hy.n2 hy.c2 hy.l2 hlen
end

end Go.Proofs.Ytnpdjlcekmpmoaa
