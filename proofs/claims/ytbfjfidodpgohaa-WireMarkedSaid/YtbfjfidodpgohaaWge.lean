/- The document's take: numbers. -/
import Derived.Test.YtbfjfidodpgohaaWgd

namespace Go.Proofs.Ytbfjfidodpgohaa
open Go.RowKit Go.Sort

set_option maxRecDepth 100000 in
set_option maxHeartbeats 3200000 in
theorem take_q (F : Fr) (s : Rs) (cs rs : Array Value) (w : World) (B : Nat) (D : Nat → Prop)
    (hF : FrW w D F s.2 cs) (hr : RAt w B s (.agg rs)) (hB : B ≤ w.heap.size) (hD : ∀ k, D k → B ≤ k ∧ k < w.heap.size) (hl : s.1.length ≤ 4000) :
    Calls Try.prog 25 #[.agg cs, .int .u8 113, .agg rs] w (TakeGot w B D (vSeq rdV (F, s))) := by
  have hST : Hid (∀ W0, World.alloc (World.alloc (World.alloc (World.alloc w (.cells cs 33)) (.cells rs 59)) (.cells zeroCells 33)) (.cells #[.slice none 0 0, .int .i64 0] 59) = W0 → TkS w B D F s cs rs W0) := fun W0 h => TkS.start hF hr hB h
  have HD := Lib.hid hD
  have HC : Hid (∀ W, RAt W B s (.agg rs) → B ≤ W.heap.size → Calls Try.prog 23 #[.agg rs, .int .u64 18446744073709551615] W (NumDone B (rN top s).1 (rN top s).2 W)) := fun W h1 h2 => numDone top h1 h2 hl
  have he : (rN top s).2.2 = 0 → s.2 = 0 := rN_err
  rw [qSeq]
  generalize rN top s = r at HC he ⊢
  obtain ⟨n, s1⟩ := r
  dsimp only at HC he ⊢
  clear hF hr hD
  go_enter Try.func25, Try.ntmps25
  go_upto_region 5 with fail
  generalize hw0 : World.alloc (World.alloc (World.alloc (World.alloc w _) _) _) _ = W0
  have hT0 := hST.out W0 hw0
  have HRD0 := Lib.hid hT0.rd
  have HRS0 := Lib.hid hT0.rat.size
  have HT0 := Lib.hid hT0
  clear hT0 hw0 hST
  go_wp2_with (first | (refine load_R (.tmp 5) rfl HRD0.out HRS0.out ?_) | fail)
  refine (HC.out W0 HT0.out.rat (Nat.le_trans hB HT0.out.below.size)).mono ?_
  rintro e V1 ⟨rs1, rfl, hr1, HSA, HOA, hb1⟩
  have h1 := HT0.out.on hB hb1
  obtain ⟨u, hu⟩ := h1.cell 5 (by decide)
  have hfz := row_frozen h1.fr
  have HT := Lib.hid (h1.both hB hr1 he 5 (.int .u64 (n : Int)) rfl (F' := { F with seq := n }) (fun _ hX => hX.put 5 _ (fun _ _ _ _ _ => rfl) rfl rfl rfl rfl rfl))
  have HRDx : Hid ((V1.setCell ⟨w.heap.size, 5, none⟩ (.int .u64 (n : Int))).heap[w.heap.size + 1]? = some (.cells rs 59 (0, 0))) := row_setOther h1.rd (by omega) 5 _
  clear h1 hr1 hb1 HT0 HC he
  go_wp2_with (first | (refine store_R (.tmp 5) (.tmp 22) rfl rfl HRDx.out HRS0.out HSA.out HOA.out ?_) | fail)
  clear HRDx HSA HOA hu hfz HRD0 HRS0
  go_upto_region 31 with fail
  try simp only [Act.put]
  generalize (V1.setCell ⟨w.heap.size, 5, none⟩ (.int .u64 (n : Int))).setRow (w.heap.size + 1) rs1 = V at HT
  have hlt := HT.out.lt
  have HE := Lib.hid (HT.out.end_ hB)
  have HZF : Hid (V.drew.heap[w.heap.size + 2]? = some (.cells zeroCells 33 (0, 0))) := HT.out.zf
  have HZR : Hid (V.drew.heap[w.heap.size + 3]? = some (.cells #[.slice none 0 0, .int .i64 0] 59 (0, 0))) := HT.out.zr
  have HSF := Lib.hid HT.out.good.1
  have HOF := Lib.hid HT.out.good.2.1
  have HSR := Lib.hid HT.out.rat.size
  have HOR := Lib.hid HT.out.rat.one
  have hfr : V.drew.heap[w.heap.size]? = some (.cells (cs.setIfInBounds 5 (.int .u64 (n : Int))) 33 (0, 0)) := HT.out.fr
  have hrd : V.drew.heap[w.heap.size + 1]? = some (.cells rs1 59 (0, 0)) := HT.out.rd
  generalize cs.setIfInBounds 5 (.int .u64 (n : Int)) = csN at HE HSF HOF hfr
  have HS0 : Hid (V.drew.heap[w.heap.size]? = some (.cells csN 33 (0, 0)) ∧ V.drew.heap[w.heap.size + 1]? = some (.cells rs1 59 (0, 0))) := ⟨hfr, hrd⟩
  have HS1 : Hid (∀ i c', 2 ≤ i → ∀ U : World, U.heap[w.heap.size]? = some (.cells csN 33 (0, 0)) ∧ U.heap[w.heap.size + 1]? = some (.cells rs1 59 (0, 0)) → (U.setRow (w.heap.size + i) c').heap[w.heap.size]? = some (.cells csN 33 (0, 0)) ∧ (U.setRow (w.heap.size + i) c').heap[w.heap.size + 1]? = some (.cells rs1 59 (0, 0))) :=
    fun i c' hi U h => ⟨(setRow_other _ _ _ _ (by omega)).trans h.1, (setRow_other _ _ _ _ (by omega)).trans h.2⟩
  have HO1 : Hid (∀ c', (V.drew.setRow (w.heap.size + 2) c').heap[w.heap.size + 3]? = some (.cells #[.slice none 0 0, .int .i64 0] 59 (0, 0))) := fun c' => (setRow_other _ _ _ _ (by omega)).trans HZR.out
  clear hfr hrd HT
  refine wp_region_held_drew (S := fun X => X.heap[w.heap.size]? = some (.cells csN 33 (0, 0)) ∧ X.heap[w.heap.size + 1]? = some (.cells rs1 59 (0, 0))) (by kernel_rfl) HS0.out (fun hHeld => ?_)
  refine wpAnyH_takeAt (i := 0) (d := 120) (v := .agg csN) rfl rfl (by kernel_rfl) (by kernel_rfl) (by kernel_rfl) (fun _ _ _ h => h) (yields_frame (x := .tmp 3) (g := w.heap.size) (by rfl) rfl rfl HSF.out (fun _ h => h.1)) hHeld ?_
  simp only [List.setIfInBounds_toArray, List.set_cons_zero, List.set_cons_succ]
  refine wpAnyH_takeAt (i := 1) (d := 121) (v := .agg rs1) rfl rfl (by kernel_rfl) (by kernel_rfl) (by kernel_rfl) (fun _ _ _ h => h) (yields_R (x := .tmp 5) (g := w.heap.size + 1) (by rfl) rfl rfl HSR.out (fun _ h => h.2)) hHeld ?_
  simp only [List.setIfInBounds_toArray, List.set_cons_zero, List.set_cons_succ]
  refine wpAnyH_ready (rs := [2]) (by kernel_rfl) (by simp) ?_
  refine AllReadyH.cons rfl (fun K hK => ?_) AllReadyH.nil
  refine wp_store_step (x := .tmp 6) (y := .tmp 120) rfl rfl rfl rfl HZF.out rfl HSF.out HOF.out ?_
  go_simp
  refine hK.out _ _ (HS1.out 2 csN (by omega) _ hHeld) (fun hHeld => ?_)
  clear hK K
  refine wpAnyH_ready (rs := [3]) (by kernel_rfl) (by simp) ?_
  refine AllReadyH.cons rfl (fun K hK => ?_) AllReadyH.nil
  refine wp_store_R (x := .tmp 7) (y := .tmp 121) rfl rfl rfl rfl (HO1.out csN) rfl HSR.out HOR.out ?_
  go_simp
  refine hK.out _ _ (HS1.out 3 rs1 (by omega) _ hHeld) (fun hHeld => ?_)
  clear hK K
  refine wpAnyH_done (by kernel_rfl) ?_ _
  go_wp2
  refine bodyPost_ret (results_cell_cell rfl _ _ (w.heap.size + 2) (w.heap.size + 3) _ _ rfl (load_row33 HE.out.1.1 HSF.out) rfl (load_rowR HE.out.1.2.1 HSR.out)) rfl ?_
  exact HE.out.1.2.2

set_option maxRecDepth 100000 in
set_option maxHeartbeats 3200000 in
theorem take_i (F : Fr) (s : Rs) (cs rs : Array Value) (w : World) (B : Nat) (D : Nat → Prop)
    (hF : FrW w D F s.2 cs) (hr : RAt w B s (.agg rs)) (hB : B ≤ w.heap.size) (hD : ∀ k, D k → B ≤ k ∧ k < w.heap.size) (hl : s.1.length ≤ 4000) :
    Calls Try.prog 25 #[.agg cs, .int .u8 105, .agg rs] w (TakeGot w B D (vInst rdV (F, s))) := by
  have hST : Hid (∀ W0, World.alloc (World.alloc (World.alloc (World.alloc w (.cells cs 33)) (.cells rs 59)) (.cells zeroCells 33)) (.cells #[.slice none 0 0, .int .i64 0] 59) = W0 → TkS w B D F s cs rs W0) := fun W0 h => TkS.start hF hr hB h
  have HD := Lib.hid hD
  have HC : Hid (∀ W, RAt W B s (.agg rs) → B ≤ W.heap.size → Calls Try.prog 23 #[.agg rs, .int .u64 18446744073709551615] W (NumDone B (rN top s).1 (rN top s).2 W)) := fun W h1 h2 => numDone top h1 h2 hl
  have he : (rN top s).2.2 = 0 → s.2 = 0 := rN_err
  rw [qInst]
  generalize rN top s = r at HC he ⊢
  obtain ⟨n, s1⟩ := r
  dsimp only at HC he ⊢
  clear hF hr hD
  go_enter Try.func25, Try.ntmps25
  go_upto_region 20 with fail
  generalize hw0 : World.alloc (World.alloc (World.alloc (World.alloc w _) _) _) _ = W0
  have hT0 := hST.out W0 hw0
  have HRD0 := Lib.hid hT0.rd
  have HRS0 := Lib.hid hT0.rat.size
  have HT0 := Lib.hid hT0
  clear hT0 hw0 hST
  go_wp2_with (first | (refine load_R (.tmp 5) rfl HRD0.out HRS0.out ?_) | fail)
  refine (HC.out W0 HT0.out.rat (Nat.le_trans hB HT0.out.below.size)).mono ?_
  rintro e V1 ⟨rs1, rfl, hr1, HSA, HOA, hb1⟩
  have h1 := HT0.out.on hB hb1
  obtain ⟨u, hu⟩ := h1.cell 9 (by decide)
  have hfz := row_frozen h1.fr
  have HT := Lib.hid (h1.both hB hr1 he 9 (.int .u64 (n : Int)) rfl (F' := { F with inst := n }) (fun _ hX => hX.put 9 _ (fun _ _ _ _ _ => rfl) rfl rfl rfl rfl rfl))
  have HRDx : Hid ((V1.setCell ⟨w.heap.size, 9, none⟩ (.int .u64 (n : Int))).heap[w.heap.size + 1]? = some (.cells rs 59 (0, 0))) := row_setOther h1.rd (by omega) 9 _
  clear h1 hr1 hb1 HT0 HC he
  go_wp2_with (first | (refine store_R (.tmp 5) (.tmp 78) rfl rfl HRDx.out HRS0.out HSA.out HOA.out ?_) | fail)
  clear HRDx HSA HOA hu hfz HRD0 HRS0
  go_upto_region 31 with fail
  try simp only [Act.put]
  generalize (V1.setCell ⟨w.heap.size, 9, none⟩ (.int .u64 (n : Int))).setRow (w.heap.size + 1) rs1 = V at HT
  have hlt := HT.out.lt
  have HE := Lib.hid (HT.out.end_ hB)
  have HZF : Hid (V.drew.heap[w.heap.size + 2]? = some (.cells zeroCells 33 (0, 0))) := HT.out.zf
  have HZR : Hid (V.drew.heap[w.heap.size + 3]? = some (.cells #[.slice none 0 0, .int .i64 0] 59 (0, 0))) := HT.out.zr
  have HSF := Lib.hid HT.out.good.1
  have HOF := Lib.hid HT.out.good.2.1
  have HSR := Lib.hid HT.out.rat.size
  have HOR := Lib.hid HT.out.rat.one
  have hfr : V.drew.heap[w.heap.size]? = some (.cells (cs.setIfInBounds 9 (.int .u64 (n : Int))) 33 (0, 0)) := HT.out.fr
  have hrd : V.drew.heap[w.heap.size + 1]? = some (.cells rs1 59 (0, 0)) := HT.out.rd
  generalize cs.setIfInBounds 9 (.int .u64 (n : Int)) = csN at HE HSF HOF hfr
  have HS0 : Hid (V.drew.heap[w.heap.size]? = some (.cells csN 33 (0, 0)) ∧ V.drew.heap[w.heap.size + 1]? = some (.cells rs1 59 (0, 0))) := ⟨hfr, hrd⟩
  have HS1 : Hid (∀ i c', 2 ≤ i → ∀ U : World, U.heap[w.heap.size]? = some (.cells csN 33 (0, 0)) ∧ U.heap[w.heap.size + 1]? = some (.cells rs1 59 (0, 0)) → (U.setRow (w.heap.size + i) c').heap[w.heap.size]? = some (.cells csN 33 (0, 0)) ∧ (U.setRow (w.heap.size + i) c').heap[w.heap.size + 1]? = some (.cells rs1 59 (0, 0))) :=
    fun i c' hi U h => ⟨(setRow_other _ _ _ _ (by omega)).trans h.1, (setRow_other _ _ _ _ (by omega)).trans h.2⟩
  have HO1 : Hid (∀ c', (V.drew.setRow (w.heap.size + 2) c').heap[w.heap.size + 3]? = some (.cells #[.slice none 0 0, .int .i64 0] 59 (0, 0))) := fun c' => (setRow_other _ _ _ _ (by omega)).trans HZR.out
  clear hfr hrd HT
  refine wp_region_held_drew (S := fun X => X.heap[w.heap.size]? = some (.cells csN 33 (0, 0)) ∧ X.heap[w.heap.size + 1]? = some (.cells rs1 59 (0, 0))) (by kernel_rfl) HS0.out (fun hHeld => ?_)
  refine wpAnyH_takeAt (i := 0) (d := 120) (v := .agg csN) rfl rfl (by kernel_rfl) (by kernel_rfl) (by kernel_rfl) (fun _ _ _ h => h) (yields_frame (x := .tmp 3) (g := w.heap.size) (by rfl) rfl rfl HSF.out (fun _ h => h.1)) hHeld ?_
  simp only [List.setIfInBounds_toArray, List.set_cons_zero, List.set_cons_succ]
  refine wpAnyH_takeAt (i := 1) (d := 121) (v := .agg rs1) rfl rfl (by kernel_rfl) (by kernel_rfl) (by kernel_rfl) (fun _ _ _ h => h) (yields_R (x := .tmp 5) (g := w.heap.size + 1) (by rfl) rfl rfl HSR.out (fun _ h => h.2)) hHeld ?_
  simp only [List.setIfInBounds_toArray, List.set_cons_zero, List.set_cons_succ]
  refine wpAnyH_ready (rs := [2]) (by kernel_rfl) (by simp) ?_
  refine AllReadyH.cons rfl (fun K hK => ?_) AllReadyH.nil
  refine wp_store_step (x := .tmp 6) (y := .tmp 120) rfl rfl rfl rfl HZF.out rfl HSF.out HOF.out ?_
  go_simp
  refine hK.out _ _ (HS1.out 2 csN (by omega) _ hHeld) (fun hHeld => ?_)
  clear hK K
  refine wpAnyH_ready (rs := [3]) (by kernel_rfl) (by simp) ?_
  refine AllReadyH.cons rfl (fun K hK => ?_) AllReadyH.nil
  refine wp_store_R (x := .tmp 7) (y := .tmp 121) rfl rfl rfl rfl (HO1.out csN) rfl HSR.out HOR.out ?_
  go_simp
  refine hK.out _ _ (HS1.out 3 rs1 (by omega) _ hHeld) (fun hHeld => ?_)
  clear hK K
  refine wpAnyH_done (by kernel_rfl) ?_ _
  go_wp2
  refine bodyPost_ret (results_cell_cell rfl _ _ (w.heap.size + 2) (w.heap.size + 3) _ _ rfl (load_row33 HE.out.1.1 HSF.out) rfl (load_rowR HE.out.1.2.1 HSR.out)) rfl ?_
  exact HE.out.1.2.2

set_option maxRecDepth 100000 in
set_option maxHeartbeats 3200000 in
theorem take_r (F : Fr) (s : Rs) (cs rs : Array Value) (w : World) (B : Nat) (D : Nat → Prop)
    (hF : FrW w D F s.2 cs) (hr : RAt w B s (.agg rs)) (hB : B ≤ w.heap.size) (hD : ∀ k, D k → B ≤ k ∧ k < w.heap.size) (hl : s.1.length ≤ 4000) :
    Calls Try.prog 25 #[.agg cs, .int .u8 114, .agg rs] w (TakeGot w B D (vRnd rdV (F, s))) := by
  have hST : Hid (∀ W0, World.alloc (World.alloc (World.alloc (World.alloc w (.cells cs 33)) (.cells rs 59)) (.cells zeroCells 33)) (.cells #[.slice none 0 0, .int .i64 0] 59) = W0 → TkS w B D F s cs rs W0) := fun W0 h => TkS.start hF hr hB h
  have HD := Lib.hid hD
  have HC : Hid (∀ W, RAt W B s (.agg rs) → B ≤ W.heap.size → Calls Try.prog 23 #[.agg rs, .int .u64 18446744073709551615] W (NumDone B (rN top s).1 (rN top s).2 W)) := fun W h1 h2 => numDone top h1 h2 hl
  have he : (rN top s).2.2 = 0 → s.2 = 0 := rN_err
  rw [qRnd]
  generalize rN top s = r at HC he ⊢
  obtain ⟨n, s1⟩ := r
  dsimp only at HC he ⊢
  clear hF hr hD
  go_enter Try.func25, Try.ntmps25
  go_upto_region 22 with fail
  generalize hw0 : World.alloc (World.alloc (World.alloc (World.alloc w _) _) _) _ = W0
  have hT0 := hST.out W0 hw0
  have HRD0 := Lib.hid hT0.rd
  have HRS0 := Lib.hid hT0.rat.size
  have HT0 := Lib.hid hT0
  clear hT0 hw0 hST
  go_wp2_with (first | (refine load_R (.tmp 5) rfl HRD0.out HRS0.out ?_) | fail)
  refine (HC.out W0 HT0.out.rat (Nat.le_trans hB HT0.out.below.size)).mono ?_
  rintro e V1 ⟨rs1, rfl, hr1, HSA, HOA, hb1⟩
  have h1 := HT0.out.on hB hb1
  obtain ⟨u, hu⟩ := h1.cell 10 (by decide)
  have hfz := row_frozen h1.fr
  have HT := Lib.hid (h1.both hB hr1 he 10 (.int .u64 (n : Int)) rfl (F' := { F with rnd := n }) (fun _ hX => hX.put 10 _ (fun _ _ _ _ _ => rfl) rfl rfl rfl rfl rfl))
  have HRDx : Hid ((V1.setCell ⟨w.heap.size, 10, none⟩ (.int .u64 (n : Int))).heap[w.heap.size + 1]? = some (.cells rs 59 (0, 0))) := row_setOther h1.rd (by omega) 10 _
  clear h1 hr1 hb1 HT0 HC he
  go_wp2_with (first | (refine store_R (.tmp 5) (.tmp 86) rfl rfl HRDx.out HRS0.out HSA.out HOA.out ?_) | fail)
  clear HRDx HSA HOA hu hfz HRD0 HRS0
  go_upto_region 31 with fail
  try simp only [Act.put]
  generalize (V1.setCell ⟨w.heap.size, 10, none⟩ (.int .u64 (n : Int))).setRow (w.heap.size + 1) rs1 = V at HT
  have hlt := HT.out.lt
  have HE := Lib.hid (HT.out.end_ hB)
  have HZF : Hid (V.drew.heap[w.heap.size + 2]? = some (.cells zeroCells 33 (0, 0))) := HT.out.zf
  have HZR : Hid (V.drew.heap[w.heap.size + 3]? = some (.cells #[.slice none 0 0, .int .i64 0] 59 (0, 0))) := HT.out.zr
  have HSF := Lib.hid HT.out.good.1
  have HOF := Lib.hid HT.out.good.2.1
  have HSR := Lib.hid HT.out.rat.size
  have HOR := Lib.hid HT.out.rat.one
  have hfr : V.drew.heap[w.heap.size]? = some (.cells (cs.setIfInBounds 10 (.int .u64 (n : Int))) 33 (0, 0)) := HT.out.fr
  have hrd : V.drew.heap[w.heap.size + 1]? = some (.cells rs1 59 (0, 0)) := HT.out.rd
  generalize cs.setIfInBounds 10 (.int .u64 (n : Int)) = csN at HE HSF HOF hfr
  have HS0 : Hid (V.drew.heap[w.heap.size]? = some (.cells csN 33 (0, 0)) ∧ V.drew.heap[w.heap.size + 1]? = some (.cells rs1 59 (0, 0))) := ⟨hfr, hrd⟩
  have HS1 : Hid (∀ i c', 2 ≤ i → ∀ U : World, U.heap[w.heap.size]? = some (.cells csN 33 (0, 0)) ∧ U.heap[w.heap.size + 1]? = some (.cells rs1 59 (0, 0)) → (U.setRow (w.heap.size + i) c').heap[w.heap.size]? = some (.cells csN 33 (0, 0)) ∧ (U.setRow (w.heap.size + i) c').heap[w.heap.size + 1]? = some (.cells rs1 59 (0, 0))) :=
    fun i c' hi U h => ⟨(setRow_other _ _ _ _ (by omega)).trans h.1, (setRow_other _ _ _ _ (by omega)).trans h.2⟩
  have HO1 : Hid (∀ c', (V.drew.setRow (w.heap.size + 2) c').heap[w.heap.size + 3]? = some (.cells #[.slice none 0 0, .int .i64 0] 59 (0, 0))) := fun c' => (setRow_other _ _ _ _ (by omega)).trans HZR.out
  clear hfr hrd HT
  refine wp_region_held_drew (S := fun X => X.heap[w.heap.size]? = some (.cells csN 33 (0, 0)) ∧ X.heap[w.heap.size + 1]? = some (.cells rs1 59 (0, 0))) (by kernel_rfl) HS0.out (fun hHeld => ?_)
  refine wpAnyH_takeAt (i := 0) (d := 120) (v := .agg csN) rfl rfl (by kernel_rfl) (by kernel_rfl) (by kernel_rfl) (fun _ _ _ h => h) (yields_frame (x := .tmp 3) (g := w.heap.size) (by rfl) rfl rfl HSF.out (fun _ h => h.1)) hHeld ?_
  simp only [List.setIfInBounds_toArray, List.set_cons_zero, List.set_cons_succ]
  refine wpAnyH_takeAt (i := 1) (d := 121) (v := .agg rs1) rfl rfl (by kernel_rfl) (by kernel_rfl) (by kernel_rfl) (fun _ _ _ h => h) (yields_R (x := .tmp 5) (g := w.heap.size + 1) (by rfl) rfl rfl HSR.out (fun _ h => h.2)) hHeld ?_
  simp only [List.setIfInBounds_toArray, List.set_cons_zero, List.set_cons_succ]
  refine wpAnyH_ready (rs := [2]) (by kernel_rfl) (by simp) ?_
  refine AllReadyH.cons rfl (fun K hK => ?_) AllReadyH.nil
  refine wp_store_step (x := .tmp 6) (y := .tmp 120) rfl rfl rfl rfl HZF.out rfl HSF.out HOF.out ?_
  go_simp
  refine hK.out _ _ (HS1.out 2 csN (by omega) _ hHeld) (fun hHeld => ?_)
  clear hK K
  refine wpAnyH_ready (rs := [3]) (by kernel_rfl) (by simp) ?_
  refine AllReadyH.cons rfl (fun K hK => ?_) AllReadyH.nil
  refine wp_store_R (x := .tmp 7) (y := .tmp 121) rfl rfl rfl rfl (HO1.out csN) rfl HSR.out HOR.out ?_
  go_simp
  refine hK.out _ _ (HS1.out 3 rs1 (by omega) _ hHeld) (fun hHeld => ?_)
  clear hK K
  refine wpAnyH_done (by kernel_rfl) ?_ _
  go_wp2
  refine bodyPost_ret (results_cell_cell rfl _ _ (w.heap.size + 2) (w.heap.size + 3) _ _ rfl (load_row33 HE.out.1.1 HSF.out) rfl (load_rowR HE.out.1.2.1 HSR.out)) rfl ?_
  exact HE.out.1.2.2

end Go.Proofs.Ytbfjfidodpgohaa
