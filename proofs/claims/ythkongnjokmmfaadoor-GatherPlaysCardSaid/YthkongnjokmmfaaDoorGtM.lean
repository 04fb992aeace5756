/- Stage 13: piece, the frame of a chunk. -/
import Derived.Test.YthkongnjokmmfaaDoorGtK
set_option maxRecDepth 20000
namespace Go.Proofs.YthkongnjokmmfaaDoor
open Go.RowKit Go.Sort

theorem wp_store_Fw {o : Oper} {a : Act} {w : World} {ys : Nat → Option Bool} {K : Act → World → Prop} {Q : Exit → Act → World → Prop} {x y : Operand} {g : Nat} {cs old : Array Value} (hgd : o.guard = none) (ho : o.op = .store 41 x y)
    (hx : a.eval x = .pointer (some ⟨g, 0, none⟩)) (hy : a.eval y = .agg cs) (hg : w.heap[g]? = some (.cells old 41 (0, 0))) (hold : old.size = 16) (hs : cs.size = 16) (h1 : cs.all (·.oneCell') = true)
    (hk : K (a.put o.dst undef) (w.setRow g cs)) : if Region.wanted o ys = true then Oper.wp Tryd.prog o a w K Q else K (a.put o.dst undef) w := by
  rw [if_pos (by simp [Region.wanted, hgd])]
  exact wp_store_row _ x y ho g cs hx hy _ old hg (info33 hs) (by omega) h1 hk
def zeroFc : Array Value := #[.int .u8 0, .int .u8 0, .int .u8 0, .int .u8 0, .int .u64 0, .int .u64 0, .int .u32 0, .int .u32 0, .int .u32 0, .int .u64 0, .int .u64 0, .slice none 0 0, .slice none 0 0, .slice none 0 0, .slice none 0 0, .slice none 0 0]

/-- append([]byte{}, l...). -/
theorem app_bytes {W : World} {B m c : Nat} {A : Option Addr} {l : List UInt8} {X : World} (hX : X = W.alloc (.cells #[] 5)) (hl : l.length = m) (hL : Lies X B A (bvs l)) (hn : m ≤ 100000) :
    ∃ A' c' W', (Builtin.append_ #[39, 39] 39 #[.slice (some ⟨W.heap.size, 0, none⟩) 0 0, .slice A m c]).run Tryd.prog X = .ok (.slice A' m c') W' ∧ W'.ownsRow W.heap.size 5 1 (.slice A' m c') m (bvs l) ∧ RowKit.Below W.heap.size W W' := by
  subst hX
  obtain ⟨i0, hi, hz0, hz1, hz2⟩ := info_parts Tryd.info5
  have hown : (W.alloc (.cells #[] 5)).ownsRow W.heap.size 5 1 (.slice (some ⟨W.heap.size, 0, none⟩) 0 0) 0 [] := World.ownsRow_lit W #[] 0 (Nat.le_refl _) (Nat.zero_le _) rfl
  obtain ⟨v', W', hrun, ho, hg, hk⟩ := run_append_lst (P := Tryd.prog) W.heap.size 39 39 5 i0 (.int .u8 0) 1 Tryd.underlying39 hi hz0 hz1 hz2 rfl _ 0 _ hown B A m c (bvs l) (by rw [bvs_length]; exact hl) hL (bvs_one l) (by unfold maxLen; omega) (by omega) (by simp)
  obtain ⟨A', c', rfl, h1, h2⟩ := own_slice ho
  rw [Nat.zero_add] at hrun ho
  refine ⟨A', c', W', hrun, ho, ?_⟩
  exact ((RowKit.Below.refl _ _).alloc (Nat.le_refl _) _).grown hg (by simp) fun q hq => by simp [Value.ownBlock] at hq; omega

/-- A frame that has data alone. -/
def pcP (F : Fr) (A : Option Addr) (c : Nat) : Pf := ⟨F, fun i => match i with | 4 => (A, c) | _ => (none, 0)⟩

set_option maxHeartbeats 3200000 in
theorem piece_any (id : Id) (A : Option Addr) (c : Nat) (l : List UInt8) (k a : Nat) (w : World) (hn : l.length ≤ 2000) (hc : l.length ≤ c) (hm : c ≤ maxLen) (h : Lies w w.heap.size A (bvs l)) (hk : 1 ≤ k) (hk2 : k ≤ 65536) (ha : a < cntN l.length k) :
    Calls Tryd.prog 22 #[valId id, .slice A l.length c, .int .i64 (k : Int), .int .i64 (a : Int)] w fun e w' => ∃ x : Pf, e = .returned (.agg x.cs) ∧ x.F = frAt id l k (cntN l.length k) a ∧ x.Own w' w.heap.size ∧ RowKit.Below w.heap.size w w' := by
  have HC : Hid (∀ W, RowKit.Below w.heap.size w W → Calls Tryd.prog 36 #[.slice A l.length c, .int .i64 (k : Int)] W (RowsEnd W (chs l k (cntN l.length k)))) := fun W hW => refCuts_yes A c l k W hn hc hm (h.later hW) hk hk2
  have hN := cntN_le l.length k
  have hcl := chL_len l k a
  have hat : (chs l k (cntN l.length k))[a]'(by rw [chs_len]; exact ha) = chL l k a := by simp [chs]
  have hF : ∀ A' c', (pcP (frAt id l k (cntN l.length k) a) A' c').cs = #[.int .u8 0, .int .u8 0, .int .u8 0, .int .u8 (id.f : Int), .int .u64 (id.s : Int), .int .u64 0, .int .u32 (a : Int), .int .u32 (cntN l.length k : Int), .int .u32 (l.length : Int), .int .u64 0, .int .u64 0, .slice none 0 0, .slice none 0 0, .slice none 0 0, .slice none 0 0, .slice A' (chL l k a).length c'] := fun A' c' => rfl
  have HF := Lib.hid hF
  have ew1 : IntKind.u32.wrap (a : Int) = (a : Int) := by rw [IntKind.wrap_u32'] <;> omega
  have ew2 : IntKind.u32.wrap (cntN l.length k : Int) = (cntN l.length k : Int) := by rw [IntKind.wrap_u32'] <;> omega
  have ew3 : IntKind.u32.wrap (l.length : Int) = (l.length : Int) := by rw [IntKind.wrap_u32'] <;> omega
  have HAT := Lib.hid hat
  have hdl : (chL l k a).length ≤ 2000 := by rw [hcl]; omega
  clear h hF hat hcl
  generalize hN1 : cntN l.length k = N at *
  unfold valId
  go_enter Tryd.func22, Tryd.ntmps22
  go_wp2_with fail
  generalize hw0 : World.alloc (World.alloc w _) _ = w0
  obtain ⟨hs0, hG, hcc, hrr⟩ := box2 w w0 _ _ _ _ hw0
  have hrow : w0.heap[w.heap.size + 1]? = some (.cells zeroFc 41 (0, 0)) := by rw [← hw0]; exact alloc2_new w _ _
  have hb0 : RowKit.Below w.heap.size w w0 := hG.below
  have x0 := hcc 0 _ rfl
  have x1 := hcc 1 _ rfl
  clear hcc hrr hw0 hG
  refine (HC.out w0 hb0).mono ?_
  rintro e w1 ⟨A1, n1, c1, rfl, hn1, vs, hown, hrows, hb1⟩
  have hn1' : n1 = N := by rw [← hn1.out, chs_len]
  subst hn1'
  have hvl : vs.length = n1 := by rw [hrows.1, chs_len]
  have hav : a < vs.length := by omega
  obtain ⟨Av, nv, cv, hv, h1, h2, h3, h4⟩ := hrows.2 a hav (by rw [chs_len]; exact ha)
  rw [HAT.out] at h1 h4
  obtain ⟨gB, cc1, hv1, hgB, hgl⟩ := hown.form (by rw [chs_len]; omega)
  rw [chs_len] at hv1 hown
  obtain ⟨rfl, rfl⟩ : A1 = some ⟨gB, 0, none⟩ ∧ c1 = cc1 := by injection hv1 with e1 _ e3; exact ⟨e1, e3⟩
  have hcell : w1.cell? ⟨gB, a, none⟩ = some (.slice Av nv cv) := by
    rw [hown.cellAt _ (by omega), List.getElem?_eq_getElem hav, hv]
  subst h1
  have hgr : gB ≠ w.heap.size + 1 := by have := hs0; omega
  have HL : Hid (∀ V, OnlyE w1 V (fun k => k = w.heap.size + 1) → V.cell? ⟨w.heap.size, 0, none⟩ = some (.int .u8 (id.f : Int)) ∧ V.cell? ⟨w.heap.size, 1, none⟩ = some (.int .u64 (id.s : Int)) ∧ V.cell? ⟨gB, a, none⟩ = some (.slice Av (chL l k a).length cv)) := fun V hV =>
    have hs1 := hb1.size
    ⟨((hV.cell (i := 0) (b := w.heap.size) (by omega) (by omega)).trans (hb1.cell (p := ⟨w.heap.size, 0, none⟩) (by show w.heap.size < w0.heap.size; omega))).trans x0, ((hV.cell (i := 1) (b := w.heap.size) (by omega) (by omega)).trans (hb1.cell (p := ⟨w.heap.size, 1, none⟩) (by show w.heap.size < w0.heap.size; omega))).trans x1, (hV.cell (i := a) (b := gB) hgl hgr).trans hcell⟩
  have HLI : Hid (∀ V, RowKit.Below w1.heap.size w1 V → Lies V V.heap.size Av (bvs (chL l k a)) ∧ V.heap[w.heap.size + 1]? = some (.cells zeroFc 41 (0, 0))) := fun V hV =>
    have hs1 := hb1.size
    ⟨(h4.later hb1).later hV, ((hV.block _ (by omega)).trans (hb1.block _ (by omega))).trans hrow⟩
  have hgsz : w.heap.size + 1 < w1.heap.size := by have := hb1.size; omega
  have HB1 := Lib.hid (hb0.trans (hb1.mono hb0.size))
  clear hb0 hb1 hrow hown hrows hv h4 hcell hv1 hgB hgl hgr hav hvl HC hn1 x0 x1 HAT hs0 w0
  go_wp2_with fail
  refine wp_region_held_drew (S := fun V => OnlyE w1 V (fun k => k = w.heap.size + 1)) (by kernel_rfl) (onlyE_drew _ _) (fun hHeld => ?_)
  have hHeld : OnlyE w1 w1.drew (fun k => k = w.heap.size + 1) := onlyE_drew _ _
  have hB0 : RowKit.Below w1.heap.size w1 w1.drew := (RowKit.Below.refl _ _).drew
  generalize w1.drew = X0 at hHeld hB0 ⊢
  refine wpAnyH_takeAt (i := 0) (d := 13) (v := ?_) rfl rfl (by kernel_rfl) (by kernel_rfl) (by kernel_rfl) (fun _ _ _ h => h) (Or.inl ⟨by rfl, ?_⟩) hHeld ?_
  rotate_left
  · (intro _ hSw; have hc := (HL.out _ hSw).1; have hd := (HL.out _ hSw).2.1; go_simp; try with_reducible rfl)
  simp only [List.setIfInBounds_toArray, List.set_cons_zero, List.set_cons_succ]
  refine wpAnyH_takeAt (i := 1) (d := 14) (v := ?_) rfl rfl (by kernel_rfl) (by kernel_rfl) (by kernel_rfl) (fun _ _ _ h => h) (Or.inl ⟨by rfl, ?_⟩) hHeld ?_
  rotate_left
  · (intro _ hSw; go_simp; try with_reducible rfl)
  simp only [List.setIfInBounds_toArray, List.set_cons_zero, List.set_cons_succ]
  refine wpAnyH_takeAt (i := 2) (d := 15) (v := ?_) rfl rfl (by kernel_rfl) (by kernel_rfl) (by kernel_rfl) (fun _ _ _ h => h) (Or.inl ⟨by rfl, ?_⟩) hHeld ?_
  rotate_left
  · (intro _ hSw; go_simp; try with_reducible rfl)
  simp only [List.setIfInBounds_toArray, List.set_cons_zero, List.set_cons_succ]
  refine wpAnyH_takeAt (i := 3) (d := 16) (v := ?_) rfl rfl (by kernel_rfl) (by kernel_rfl) (by kernel_rfl) (fun _ _ _ h => h) (Or.inl ⟨by rfl, ?_⟩) hHeld ?_
  rotate_left
  · (intro _ hSw; go_simp; try with_reducible rfl)
  simp only [List.setIfInBounds_toArray, List.set_cons_zero, List.set_cons_succ]
  refine wpAnyH_takeAt (i := 4) (d := 17) (v := ?_) rfl rfl (by kernel_rfl) (by kernel_rfl) (by kernel_rfl) (fun _ _ _ h => h) (Or.inl ⟨by rfl, ?_⟩) hHeld ?_
  rotate_left
  · (intro _ hSw; go_simp; try with_reducible rfl)
  simp only [List.setIfInBounds_toArray, List.set_cons_zero, List.set_cons_succ]
  refine wpAnyH_takeAt (i := 5) (d := 18) (v := ?_) rfl rfl (by kernel_rfl) (by kernel_rfl) (by kernel_rfl) (fun _ _ _ h => h) (Or.inl ⟨by rfl, ?_⟩) hHeld ?_
  rotate_left
  · (intro _ hSw; go_simp; try with_reducible rfl)
  simp only [List.setIfInBounds_toArray, List.set_cons_zero, List.set_cons_succ]
  refine wpAnyH_takeAt (i := 6) (d := 19) (v := ?_) rfl rfl (by kernel_rfl) (by kernel_rfl) (by kernel_rfl) (fun _ _ _ h => h) (Or.inl ⟨by rfl, ?_⟩) hHeld ?_
  rotate_left
  · (intro _ hSw; go_simp; try with_reducible rfl)
  simp only [List.setIfInBounds_toArray, List.set_cons_zero, List.set_cons_succ]
  refine wpAnyH_takeAt (i := 7) (d := 20) (v := ?_) rfl rfl (by kernel_rfl) (by kernel_rfl) (by kernel_rfl) (fun _ _ _ h => h) (Or.inl ⟨by rfl, ?_⟩) hHeld ?_
  rotate_left
  · (intro _ hSw; go_simp; try with_reducible rfl)
  simp only [List.setIfInBounds_toArray, List.set_cons_zero, List.set_cons_succ]
  refine wpAnyH_takeAt (i := 8) (d := 21) (v := ?_) rfl rfl (by kernel_rfl) (by kernel_rfl) (by kernel_rfl) (fun _ _ _ h => h) (Or.inl ⟨by rfl, ?_⟩) hHeld ?_
  rotate_left
  · (intro _ hSw; go_simp; try with_reducible rfl)
  simp only [List.setIfInBounds_toArray, List.set_cons_zero, List.set_cons_succ]
  refine wpAnyH_takeAt (i := 10) (d := 23) (v := ?_) rfl rfl (by kernel_rfl) (by kernel_rfl) (by kernel_rfl) (fun _ _ _ h => h) (Or.inl ⟨by rfl, ?_⟩) hHeld ?_
  rotate_left
  · (intro _ hSw; go_simp; try with_reducible rfl)
  simp only [List.setIfInBounds_toArray, List.set_cons_zero, List.set_cons_succ]
  refine wpAnyH_takeAt (i := 11) (d := 24) (v := ?_) rfl rfl (by kernel_rfl) (by kernel_rfl) (by kernel_rfl) (fun _ _ _ h => h) (Or.inl ⟨by rfl, ?_⟩) hHeld ?_
  rotate_left
  · (intro _ hSw; go_simp; try with_reducible rfl)
  simp only [List.setIfInBounds_toArray, List.set_cons_zero, List.set_cons_succ]
  refine wpAnyH_takeAt (i := 12) (d := 25) (v := ?_) rfl rfl (by kernel_rfl) (by kernel_rfl) (by kernel_rfl) (fun _ _ _ h => h) (Or.inl ⟨by rfl, ?_⟩) hHeld ?_
  rotate_left
  · (intro _ hSw; go_simp; try with_reducible rfl)
  simp only [List.setIfInBounds_toArray, List.set_cons_zero, List.set_cons_succ]
  refine wpAnyH_takeAt (i := 13) (d := 26) (v := ?_) rfl rfl (by kernel_rfl) (by kernel_rfl) (by kernel_rfl) (fun _ _ _ h => h) (Or.inl ⟨by rfl, ?_⟩) hHeld ?_
  rotate_left
  · (intro _ hSw; have hc := (HL.out _ hSw).2.2; go_simp; try with_reducible rfl)
  simp only [List.setIfInBounds_toArray, List.set_cons_zero, List.set_cons_succ]
  refine wpAnyH_ready (rs := [9]) (by kernel_rfl) (by simp) ?_
  refine AllReadyH.cons rfl (fun K hK => ?_) AllReadyH.nil
  go_simp
  have hbA : RowKit.Below X0.heap.size X0 (X0.alloc (.cells #[] 5)) := (RowKit.Below.refl _ _).alloc (Nat.le_refl _) _
  have hB1 := hB0.trans (hbA.mono hB0.size)
  have hHeldA : OnlyE w1 (X0.alloc (.cells #[] 5)) (fun k => k = w.heap.size + 1) := OnlyE.of_below hB1
  refine hK.out _ _ hHeldA (fun _ => ?_)
  clear hK K
  obtain ⟨A', c', W', hrun, hown, hbW⟩ := app_bytes (W := X0) (c := cv) rfl rfl (HLI.out _ hB1).1 (by omega)
  have hB2 : RowKit.Below w1.heap.size w1 W' := hB0.trans (hbW.mono hB0.size)
  have hHeldB : OnlyE w1 W' (fun k => k = w.heap.size + 1) := OnlyE.of_below hB2
  refine wpAnyH_ready (rs := [14]) (by kernel_rfl) (by simp) ?_
  refine AllReadyH.cons rfl (fun K hK => ?_) AllReadyH.nil
  refine wp_append_step (s := .tmp 22) (x := .tmp 26) (t := 39) rfl rfl rfl rfl hrun ?_
  go_simp
  refine hK.out _ _ hHeldB (fun _ => ?_)
  clear hK K
  have hXs := hHeld.size
  clear hHeld hHeldA hrun hbA hB1
  have hHeld := hHeldB
  generalize X0.heap.size = xs at hown hbW hXs ⊢
  refine wpAnyH_takeAt (i := 15) (d := 28) (v := ?_) rfl rfl (by kernel_rfl) (by kernel_rfl) (by kernel_rfl) (fun _ _ _ h => h) (Or.inl ⟨by rfl, ?_⟩) hHeld ?_
  rotate_left
  · (intro _ hSw; go_simp; try with_reducible rfl)
  simp only [List.setIfInBounds_toArray, List.set_cons_zero, List.set_cons_succ]
  obtain ⟨hrow, hsz⟩ : W'.heap[w.heap.size + 1]? = some (.cells zeroFc 41 (0, 0)) ∧ w.heap.size + 1 < W'.heap.size := ⟨(HLI.out _ hB2).2, Nat.lt_of_lt_of_le hgsz hHeldB.size⟩
  refine wpAnyH_ready (rs := [16]) (by kernel_rfl) (by simp) ?_
  refine AllReadyH.cons rfl (fun K hK => ?_) AllReadyH.nil
  obtain ⟨cs, hcs⟩ : ∃ cs, (pcP (frAt id l k n1 a) A' c').cs = cs := ⟨_, rfl⟩
  have hcs2 := (HF.out A' c').symm.trans hcs
  rw [hcs2]
  have hcz : cs.size = 16 := by rw [← hcs]; exact Pf.size _
  have hc1 : cs.all (·.oneCell') = true := by rw [← hcs]; exact Pf.one _
  refine wp_store_Fw (x := .tmp 8) (y := .tmp 28) (cs := cs) rfl rfl rfl rfl hrow rfl hcz hc1 ?_
  have hbS : RowKit.Below (w.heap.size + 1) W' (W'.setRow (w.heap.size + 1) cs) := ⟨rfl, rfl, rfl, by simp [World.setRow], fun k hk => setRow_other _ _ k _ (by omega)⟩
  have hown2 : (W'.setRow (w.heap.size + 1) cs).ownsRow w.heap.size 5 1 (.slice A' (chL l k a).length c') (chL l k a).length (bvs (chL l k a)) := own_base (own_only hown (OnlyE.of_grown (D := fun k => k = w.heap.size + 1) (grown_setRow W' _ _) rfl) fun b hb e => by
    have := (hown.lt b hb).1
    omega) (by omega)
  have HOWN : Hid ((pcP (frAt id l k n1 a) A' c').Own (W'.setRow (w.heap.size + 1) cs) w.heap.size) := ⟨ownsRow_nil _ _ _ _, ownsRow_nil _ _ _ _, ownsRow_nil _ _ _ _, ownsRow_nil _ _ _ _, hown2⟩
  have HEND : Hid (RowKit.Below w.heap.size w (W'.setRow (w.heap.size + 1) cs)) := HB1.out.trans ((hB2.mono HB1.out.size).trans (hbS.mono (Nat.le_succ _)))
  have HROW : Hid ((W'.setRow (w.heap.size + 1) cs).heap[w.heap.size + 1]? = some (.cells cs 41 (0, 0))) := setRow_heap W' (w.heap.size + 1) _ _ 41 (0, 0) hrow
  have hHeldC : OnlyE w1 (W'.setRow (w.heap.size + 1) cs) (fun k => k = w.heap.size + 1) := hHeldB.trans (OnlyE.of_grown (grown_setRow W' _ _) rfl)
  refine hK.out _ _ hHeldC (fun _ => ?_)
  have HCS := Lib.hid hcs
  clear hK K hHeldB hHeldC hbS hown2 hown hrow hHeld hB2 hB0 hbW HL HLI hcs hcs2 hc1 HF
  refine wpAnyH_done (by kernel_rfl) ?_ _
  simp only [Act.put]
  generalize W'.setRow (w.heap.size + 1) cs = W9 at HOWN HEND HROW ⊢
  go_wp2
  exact bodyPost_ret (results_cell_row rfl _ _ _ _ _ _ _ rfl HROW.out Tryd.underlying41 rfl (info33 hcz)) rfl ⟨pcP (frAt id l k n1 a) A' c', by rw [HCS.out], rfl, HOWN.out, HEND.out⟩

end Go.Proofs.YthkongnjokmmfaaDoor

