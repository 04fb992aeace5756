/- The document's take: words, an id. -/
import Derived.Test.YtbfjfidodpgohaaWgd

namespace Go.Proofs.Ytbfjfidodpgohaa
open Go.RowKit Go.Sort

set_option maxRecDepth 100000 in
set_option maxHeartbeats 3200000 in
theorem take_a (F : Fr) (s : Rs) (cs rs : Array Value) (w : World) (B : Nat) (D : Nat → Prop)
    (hF : FrW w D F s.2 cs) (hr : RAt w B s (.agg rs)) (hB : B ≤ w.heap.size) (hD : ∀ k, D k → B ≤ k ∧ k < w.heap.size) (hl : s.1.length ≤ 4000) :
    Calls Try.prog 25 #[.agg cs, .int .u8 97, .agg rs] w (TakeGot w B D (vAt rdV (F, s))) := by
  have hST : Hid (∀ W0, World.alloc (World.alloc (World.alloc (World.alloc w (.cells cs 33)) (.cells rs 59)) (.cells zeroCells 33)) (.cells #[.slice none 0 0, .int .i64 0] 59) = W0 → TkS w B D F s cs rs W0) := fun W0 h => TkS.start hF hr hB h
  have HD := Lib.hid hD
  have HC : Hid (∀ W, RAt W B s (.agg rs) → B ≤ W.heap.size → Calls Try.prog 23 #[.agg rs, .int .u64 4294967295] W (NumDone B (rN 4294967295 s).1 (rN 4294967295 s).2 W)) := fun W h1 h2 => numDone 4294967295 h1 h2 hl
  have he : (rN 4294967295 s).2.2 = 0 → s.2 = 0 := rN_err
  have hn : (rN 4294967295 s).1 < 4294967296 := Nat.lt_succ_of_le (rN_le 4294967295 s).1
  rw [qAt]
  generalize rN 4294967295 s = r at HC he hn ⊢
  obtain ⟨n, s1⟩ := r
  dsimp only at HC he hn ⊢
  clear hF hr hD
  go_enter Try.func25, Try.ntmps25
  go_upto_region 11 with fail
  generalize hw0 : World.alloc (World.alloc (World.alloc (World.alloc w _) _) _) _ = W0
  have hT0 := hST.out W0 hw0
  have HRD0 := Lib.hid hT0.rd
  have HRS0 := Lib.hid hT0.rat.size
  have HT0 := Lib.hid hT0
  clear hT0 hw0 hST
  go_wp2_with (first | (refine load_R (.tmp 5) rfl HRD0.out HRS0.out ?_) | fail)
  refine (HC.out W0 HT0.out.rat (Nat.le_trans hB HT0.out.below.size)).mono ?_
  rintro e V1 ⟨rs1, rfl, hr1, HSA, HOA, hb1⟩
  have h1 := HT0.out.on hB hb1
  have h2 := h1.setR hB hr1 he
  obtain ⟨u, hu⟩ := h2.cell 6 (by decide)
  have hfz := row_frozen h2.fr
  have HT := Lib.hid (h2.setC hB 6 (.int .u32 (n : Int)) rfl (F' := { F with at_ := n }) (fun _ hX => hX.put 6 _ (fun _ _ _ _ _ => rfl) rfl rfl rfl rfl rfl))
  have HRDx := Lib.hid h1.rd
  clear h1 h2 hr1 hb1 HT0 HC he
  go_wp2_with (first | (refine store_R (.tmp 5) (.tmp 48) rfl rfl HRDx.out HRS0.out HSA.out HOA.out ?_) | fail)
  clear HRDx HSA HOA hu hfz HRD0 HRS0
  go_upto_region 31 with fail
  try simp only [Act.put]
  generalize (V1.setRow (w.heap.size + 1) rs1).setCell ⟨w.heap.size, 6, none⟩ (.int .u32 (n : Int)) = V at HT
  have hlt := HT.out.lt
  have HE := Lib.hid (HT.out.end_ hB)
  have HZF : Hid (V.drew.heap[w.heap.size + 2]? = some (.cells zeroCells 33 (0, 0))) := HT.out.zf
  have HZR : Hid (V.drew.heap[w.heap.size + 3]? = some (.cells #[.slice none 0 0, .int .i64 0] 59 (0, 0))) := HT.out.zr
  have HSF := Lib.hid HT.out.good.1
  have HOF := Lib.hid HT.out.good.2.1
  have HSR := Lib.hid HT.out.rat.size
  have HOR := Lib.hid HT.out.rat.one
  have hfr : V.drew.heap[w.heap.size]? = some (.cells (cs.setIfInBounds 6 (.int .u32 (n : Int))) 33 (0, 0)) := HT.out.fr
  have hrd : V.drew.heap[w.heap.size + 1]? = some (.cells rs1 59 (0, 0)) := HT.out.rd
  generalize cs.setIfInBounds 6 (.int .u32 (n : Int)) = csN at HE HSF HOF hfr
  have HS0 : Hid (V.drew.heap[w.heap.size]? = some (.cells csN 33 (0, 0)) ∧ V.drew.heap[w.heap.size + 1]? = some (.cells rs1 59 (0, 0))) := ⟨hfr, hrd⟩
  have HS1 : Hid (∀ i c', 2 ≤ i → ∀ U : World, U.heap[w.heap.size]? = some (.cells csN 33 (0, 0)) ∧ U.heap[w.heap.size + 1]? = some (.cells rs1 59 (0, 0)) → (U.setRow (w.heap.size + i) c').heap[w.heap.size]? = some (.cells csN 33 (0, 0)) ∧ (U.setRow (w.heap.size + i) c').heap[w.heap.size + 1]? = some (.cells rs1 59 (0, 0))) :=
    fun i c' hi U h => ⟨(setRow_other _ _ _ _ (by omega)).trans h.1, (setRow_other _ _ _ _ (by omega)).trans h.2⟩
  have HO1 : Hid (∀ c', (V.drew.setRow (w.heap.size + 2) c').heap[w.heap.size + 3]? = some (.cells #[.slice none 0 0, .int .i64 0] 59 (0, 0))) := fun c' => (setRow_other _ _ _ _ (by omega)).trans HZR.out
  clear hfr hrd HT
  refine wp_region_held_drew (S := fun X => X.heap[w.heap.size]? = some (.cells csN 33 (0, 0)) ∧ X.heap[w.heap.size + 1]? = some (.cells rs1 59 (0, 0))) (by kernel_rfl) HS0.out (fun hHeld => ?_)
  refine wpAnyH_takeAt (i := 0) (d := 120) (v := .agg csN) rfl rfl (by kernel_rfl) (by kernel_rfl) (by kernel_rfl) (fun _ _ _ h => h) (yields_frame (x := .tmp 3) (g := w.heap.size) (by rfl) rfl rfl HSF.out (fun _ h => h.1)) hHeld ?_
  simp only [List.setIfInBounds_toArray, List.set_cons_zero, List.set_cons_succ]
  refine wpAnyH_takeAt (i := 1) (d := 121) (v := .agg rs1) rfl rfl (by kernel_rfl) (by kernel_rfl) (by kernel_rfl) (fun _ _ _ h => h) (yields_R (x := .tmp 5) (g := w.heap.size + 1) (by rfl) rfl rfl HSR.out (fun _ h => h.2)) hHeld ?_
  simp only [List.setIfInBounds_toArray, List.set_cons_zero, List.set_cons_succ]
  refine wpAnyH_ready (rs := [2]) (by kernel_rfl) (by simp) ?_
  refine AllReadyH.cons rfl (fun K hK => ?_) AllReadyH.nil
  refine wp_store_step (x := .tmp 6) (y := .tmp 120) rfl rfl rfl rfl HZF.out rfl HSF.out HOF.out ?_
  go_simp
  refine hK.out _ _ (HS1.out 2 csN (by omega) _ hHeld) (fun hHeld => ?_)
  clear hK K
  refine wpAnyH_ready (rs := [3]) (by kernel_rfl) (by simp) ?_
  refine AllReadyH.cons rfl (fun K hK => ?_) AllReadyH.nil
  refine wp_store_R (x := .tmp 7) (y := .tmp 121) rfl rfl rfl rfl (HO1.out csN) rfl HSR.out HOR.out ?_
  go_simp
  refine hK.out _ _ (HS1.out 3 rs1 (by omega) _ hHeld) (fun hHeld => ?_)
  clear hK K
  refine wpAnyH_done (by kernel_rfl) ?_ _
  go_wp2
  refine bodyPost_ret (results_cell_cell rfl _ _ (w.heap.size + 2) (w.heap.size + 3) _ _ rfl (load_row33 HE.out.1.1 HSF.out) rfl (load_rowR HE.out.1.2.1 HSR.out)) rfl ?_
  exact HE.out.1.2.2

set_option maxRecDepth 100000 in
set_option maxHeartbeats 3200000 in
theorem take_o (F : Fr) (s : Rs) (cs rs : Array Value) (w : World) (B : Nat) (D : Nat → Prop)
    (hF : FrW w D F s.2 cs) (hr : RAt w B s (.agg rs)) (hB : B ≤ w.heap.size) (hD : ∀ k, D k → B ≤ k ∧ k < w.heap.size) (hl : s.1.length ≤ 4000) :
    Calls Try.prog 25 #[.agg cs, .int .u8 111, .agg rs] w (TakeGot w B D (vOf rdV (F, s))) := by
  have hST : Hid (∀ W0, World.alloc (World.alloc (World.alloc (World.alloc w (.cells cs 33)) (.cells rs 59)) (.cells zeroCells 33)) (.cells #[.slice none 0 0, .int .i64 0] 59) = W0 → TkS w B D F s cs rs W0) := fun W0 h => TkS.start hF hr hB h
  have HD := Lib.hid hD
  have HC : Hid (∀ W, RAt W B s (.agg rs) → B ≤ W.heap.size → Calls Try.prog 23 #[.agg rs, .int .u64 4294967295] W (NumDone B (rN 4294967295 s).1 (rN 4294967295 s).2 W)) := fun W h1 h2 => numDone 4294967295 h1 h2 hl
  have he : (rN 4294967295 s).2.2 = 0 → s.2 = 0 := rN_err
  have hn : (rN 4294967295 s).1 < 4294967296 := Nat.lt_succ_of_le (rN_le 4294967295 s).1
  rw [qOf]
  generalize rN 4294967295 s = r at HC he hn ⊢
  obtain ⟨n, s1⟩ := r
  dsimp only at HC he hn ⊢
  clear hF hr hD
  go_enter Try.func25, Try.ntmps25
  go_upto_region 14 with fail
  generalize hw0 : World.alloc (World.alloc (World.alloc (World.alloc w _) _) _) _ = W0
  have hT0 := hST.out W0 hw0
  have HRD0 := Lib.hid hT0.rd
  have HRS0 := Lib.hid hT0.rat.size
  have HT0 := Lib.hid hT0
  clear hT0 hw0 hST
  go_wp2_with (first | (refine load_R (.tmp 5) rfl HRD0.out HRS0.out ?_) | fail)
  refine (HC.out W0 HT0.out.rat (Nat.le_trans hB HT0.out.below.size)).mono ?_
  rintro e V1 ⟨rs1, rfl, hr1, HSA, HOA, hb1⟩
  have h1 := HT0.out.on hB hb1
  have h2 := h1.setR hB hr1 he
  obtain ⟨u, hu⟩ := h2.cell 7 (by decide)
  have hfz := row_frozen h2.fr
  have HT := Lib.hid (h2.setC hB 7 (.int .u32 (n : Int)) rfl (F' := { F with of_ := n }) (fun _ hX => hX.put 7 _ (fun _ _ _ _ _ => rfl) rfl rfl rfl rfl rfl))
  have HRDx := Lib.hid h1.rd
  clear h1 h2 hr1 hb1 HT0 HC he
  go_wp2_with (first | (refine store_R (.tmp 5) (.tmp 58) rfl rfl HRDx.out HRS0.out HSA.out HOA.out ?_) | fail)
  clear HRDx HSA HOA hu hfz HRD0 HRS0
  go_upto_region 31 with fail
  try simp only [Act.put]
  generalize (V1.setRow (w.heap.size + 1) rs1).setCell ⟨w.heap.size, 7, none⟩ (.int .u32 (n : Int)) = V at HT
  have hlt := HT.out.lt
  have HE := Lib.hid (HT.out.end_ hB)
  have HZF : Hid (V.drew.heap[w.heap.size + 2]? = some (.cells zeroCells 33 (0, 0))) := HT.out.zf
  have HZR : Hid (V.drew.heap[w.heap.size + 3]? = some (.cells #[.slice none 0 0, .int .i64 0] 59 (0, 0))) := HT.out.zr
  have HSF := Lib.hid HT.out.good.1
  have HOF := Lib.hid HT.out.good.2.1
  have HSR := Lib.hid HT.out.rat.size
  have HOR := Lib.hid HT.out.rat.one
  have hfr : V.drew.heap[w.heap.size]? = some (.cells (cs.setIfInBounds 7 (.int .u32 (n : Int))) 33 (0, 0)) := HT.out.fr
  have hrd : V.drew.heap[w.heap.size + 1]? = some (.cells rs1 59 (0, 0)) := HT.out.rd
  generalize cs.setIfInBounds 7 (.int .u32 (n : Int)) = csN at HE HSF HOF hfr
  have HS0 : Hid (V.drew.heap[w.heap.size]? = some (.cells csN 33 (0, 0)) ∧ V.drew.heap[w.heap.size + 1]? = some (.cells rs1 59 (0, 0))) := ⟨hfr, hrd⟩
  have HS1 : Hid (∀ i c', 2 ≤ i → ∀ U : World, U.heap[w.heap.size]? = some (.cells csN 33 (0, 0)) ∧ U.heap[w.heap.size + 1]? = some (.cells rs1 59 (0, 0)) → (U.setRow (w.heap.size + i) c').heap[w.heap.size]? = some (.cells csN 33 (0, 0)) ∧ (U.setRow (w.heap.size + i) c').heap[w.heap.size + 1]? = some (.cells rs1 59 (0, 0))) :=
    fun i c' hi U h => ⟨(setRow_other _ _ _ _ (by omega)).trans h.1, (setRow_other _ _ _ _ (by omega)).trans h.2⟩
  have HO1 : Hid (∀ c', (V.drew.setRow (w.heap.size + 2) c').heap[w.heap.size + 3]? = some (.cells #[.slice none 0 0, .int .i64 0] 59 (0, 0))) := fun c' => (setRow_other _ _ _ _ (by omega)).trans HZR.out
  clear hfr hrd HT
  refine wp_region_held_drew (S := fun X => X.heap[w.heap.size]? = some (.cells csN 33 (0, 0)) ∧ X.heap[w.heap.size + 1]? = some (.cells rs1 59 (0, 0))) (by kernel_rfl) HS0.out (fun hHeld => ?_)
  refine wpAnyH_takeAt (i := 0) (d := 120) (v := .agg csN) rfl rfl (by kernel_rfl) (by kernel_rfl) (by kernel_rfl) (fun _ _ _ h => h) (yields_frame (x := .tmp 3) (g := w.heap.size) (by rfl) rfl rfl HSF.out (fun _ h => h.1)) hHeld ?_
  simp only [List.setIfInBounds_toArray, List.set_cons_zero, List.set_cons_succ]
  refine wpAnyH_takeAt (i := 1) (d := 121) (v := .agg rs1) rfl rfl (by kernel_rfl) (by kernel_rfl) (by kernel_rfl) (fun _ _ _ h => h) (yields_R (x := .tmp 5) (g := w.heap.size + 1) (by rfl) rfl rfl HSR.out (fun _ h => h.2)) hHeld ?_
  simp only [List.setIfInBounds_toArray, List.set_cons_zero, List.set_cons_succ]
  refine wpAnyH_ready (rs := [2]) (by kernel_rfl) (by simp) ?_
  refine AllReadyH.cons rfl (fun K hK => ?_) AllReadyH.nil
  refine wp_store_step (x := .tmp 6) (y := .tmp 120) rfl rfl rfl rfl HZF.out rfl HSF.out HOF.out ?_
  go_simp
  refine hK.out _ _ (HS1.out 2 csN (by omega) _ hHeld) (fun hHeld => ?_)
  clear hK K
  refine wpAnyH_ready (rs := [3]) (by kernel_rfl) (by simp) ?_
  refine AllReadyH.cons rfl (fun K hK => ?_) AllReadyH.nil
  refine wp_store_R (x := .tmp 7) (y := .tmp 121) rfl rfl rfl rfl (HO1.out csN) rfl HSR.out HOR.out ?_
  go_simp
  refine hK.out _ _ (HS1.out 3 rs1 (by omega) _ hHeld) (fun hHeld => ?_)
  clear hK K
  refine wpAnyH_done (by kernel_rfl) ?_ _
  go_wp2
  refine bodyPost_ret (results_cell_cell rfl _ _ (w.heap.size + 2) (w.heap.size + 3) _ _ rfl (load_row33 HE.out.1.1 HSF.out) rfl (load_rowR HE.out.1.2.1 HSR.out)) rfl ?_
  exact HE.out.1.2.2

set_option maxRecDepth 100000 in
set_option maxHeartbeats 3200000 in
theorem take_z (F : Fr) (s : Rs) (cs rs : Array Value) (w : World) (B : Nat) (D : Nat → Prop)
    (hF : FrW w D F s.2 cs) (hr : RAt w B s (.agg rs)) (hB : B ≤ w.heap.size) (hD : ∀ k, D k → B ≤ k ∧ k < w.heap.size) (hl : s.1.length ≤ 4000) :
    Calls Try.prog 25 #[.agg cs, .int .u8 122, .agg rs] w (TakeGot w B D (vSize rdV (F, s))) := by
  have hST : Hid (∀ W0, World.alloc (World.alloc (World.alloc (World.alloc w (.cells cs 33)) (.cells rs 59)) (.cells zeroCells 33)) (.cells #[.slice none 0 0, .int .i64 0] 59) = W0 → TkS w B D F s cs rs W0) := fun W0 h => TkS.start hF hr hB h
  have HD := Lib.hid hD
  have HC : Hid (∀ W, RAt W B s (.agg rs) → B ≤ W.heap.size → Calls Try.prog 23 #[.agg rs, .int .u64 4294967295] W (NumDone B (rN 4294967295 s).1 (rN 4294967295 s).2 W)) := fun W h1 h2 => numDone 4294967295 h1 h2 hl
  have he : (rN 4294967295 s).2.2 = 0 → s.2 = 0 := rN_err
  have hn : (rN 4294967295 s).1 < 4294967296 := Nat.lt_succ_of_le (rN_le 4294967295 s).1
  rw [qSize]
  generalize rN 4294967295 s = r at HC he hn ⊢
  obtain ⟨n, s1⟩ := r
  dsimp only at HC he hn ⊢
  clear hF hr hD
  go_enter Try.func25, Try.ntmps25
  go_upto_region 17 with fail
  generalize hw0 : World.alloc (World.alloc (World.alloc (World.alloc w _) _) _) _ = W0
  have hT0 := hST.out W0 hw0
  have HRD0 := Lib.hid hT0.rd
  have HRS0 := Lib.hid hT0.rat.size
  have HT0 := Lib.hid hT0
  clear hT0 hw0 hST
  go_wp2_with (first | (refine load_R (.tmp 5) rfl HRD0.out HRS0.out ?_) | fail)
  refine (HC.out W0 HT0.out.rat (Nat.le_trans hB HT0.out.below.size)).mono ?_
  rintro e V1 ⟨rs1, rfl, hr1, HSA, HOA, hb1⟩
  have h1 := HT0.out.on hB hb1
  have h2 := h1.setR hB hr1 he
  obtain ⟨u, hu⟩ := h2.cell 8 (by decide)
  have hfz := row_frozen h2.fr
  have HT := Lib.hid (h2.setC hB 8 (.int .u32 (n : Int)) rfl (F' := { F with size := n }) (fun _ hX => hX.put 8 _ (fun _ _ _ _ _ => rfl) rfl rfl rfl rfl rfl))
  have HRDx := Lib.hid h1.rd
  clear h1 h2 hr1 hb1 HT0 HC he
  go_wp2_with (first | (refine store_R (.tmp 5) (.tmp 68) rfl rfl HRDx.out HRS0.out HSA.out HOA.out ?_) | fail)
  clear HRDx HSA HOA hu hfz HRD0 HRS0
  go_upto_region 31 with fail
  try simp only [Act.put]
  generalize (V1.setRow (w.heap.size + 1) rs1).setCell ⟨w.heap.size, 8, none⟩ (.int .u32 (n : Int)) = V at HT
  have hlt := HT.out.lt
  have HE := Lib.hid (HT.out.end_ hB)
  have HZF : Hid (V.drew.heap[w.heap.size + 2]? = some (.cells zeroCells 33 (0, 0))) := HT.out.zf
  have HZR : Hid (V.drew.heap[w.heap.size + 3]? = some (.cells #[.slice none 0 0, .int .i64 0] 59 (0, 0))) := HT.out.zr
  have HSF := Lib.hid HT.out.good.1
  have HOF := Lib.hid HT.out.good.2.1
  have HSR := Lib.hid HT.out.rat.size
  have HOR := Lib.hid HT.out.rat.one
  have hfr : V.drew.heap[w.heap.size]? = some (.cells (cs.setIfInBounds 8 (.int .u32 (n : Int))) 33 (0, 0)) := HT.out.fr
  have hrd : V.drew.heap[w.heap.size + 1]? = some (.cells rs1 59 (0, 0)) := HT.out.rd
  generalize cs.setIfInBounds 8 (.int .u32 (n : Int)) = csN at HE HSF HOF hfr
  have HS0 : Hid (V.drew.heap[w.heap.size]? = some (.cells csN 33 (0, 0)) ∧ V.drew.heap[w.heap.size + 1]? = some (.cells rs1 59 (0, 0))) := ⟨hfr, hrd⟩
  have HS1 : Hid (∀ i c', 2 ≤ i → ∀ U : World, U.heap[w.heap.size]? = some (.cells csN 33 (0, 0)) ∧ U.heap[w.heap.size + 1]? = some (.cells rs1 59 (0, 0)) → (U.setRow (w.heap.size + i) c').heap[w.heap.size]? = some (.cells csN 33 (0, 0)) ∧ (U.setRow (w.heap.size + i) c').heap[w.heap.size + 1]? = some (.cells rs1 59 (0, 0))) :=
    fun i c' hi U h => ⟨(setRow_other _ _ _ _ (by omega)).trans h.1, (setRow_other _ _ _ _ (by omega)).trans h.2⟩
  have HO1 : Hid (∀ c', (V.drew.setRow (w.heap.size + 2) c').heap[w.heap.size + 3]? = some (.cells #[.slice none 0 0, .int .i64 0] 59 (0, 0))) := fun c' => (setRow_other _ _ _ _ (by omega)).trans HZR.out
  clear hfr hrd HT
  refine wp_region_held_drew (S := fun X => X.heap[w.heap.size]? = some (.cells csN 33 (0, 0)) ∧ X.heap[w.heap.size + 1]? = some (.cells rs1 59 (0, 0))) (by kernel_rfl) HS0.out (fun hHeld => ?_)
  refine wpAnyH_takeAt (i := 0) (d := 120) (v := .agg csN) rfl rfl (by kernel_rfl) (by kernel_rfl) (by kernel_rfl) (fun _ _ _ h => h) (yields_frame (x := .tmp 3) (g := w.heap.size) (by rfl) rfl rfl HSF.out (fun _ h => h.1)) hHeld ?_
  simp only [List.setIfInBounds_toArray, List.set_cons_zero, List.set_cons_succ]
  refine wpAnyH_takeAt (i := 1) (d := 121) (v := .agg rs1) rfl rfl (by kernel_rfl) (by kernel_rfl) (by kernel_rfl) (fun _ _ _ h => h) (yields_R (x := .tmp 5) (g := w.heap.size + 1) (by rfl) rfl rfl HSR.out (fun _ h => h.2)) hHeld ?_
  simp only [List.setIfInBounds_toArray, List.set_cons_zero, List.set_cons_succ]
  refine wpAnyH_ready (rs := [2]) (by kernel_rfl) (by simp) ?_
  refine AllReadyH.cons rfl (fun K hK => ?_) AllReadyH.nil
  refine wp_store_step (x := .tmp 6) (y := .tmp 120) rfl rfl rfl rfl HZF.out rfl HSF.out HOF.out ?_
  go_simp
  refine hK.out _ _ (HS1.out 2 csN (by omega) _ hHeld) (fun hHeld => ?_)
  clear hK K
  refine wpAnyH_ready (rs := [3]) (by kernel_rfl) (by simp) ?_
  refine AllReadyH.cons rfl (fun K hK => ?_) AllReadyH.nil
  refine wp_store_R (x := .tmp 7) (y := .tmp 121) rfl rfl rfl rfl (HO1.out csN) rfl HSR.out HOR.out ?_
  go_simp
  refine hK.out _ _ (HS1.out 3 rs1 (by omega) _ hHeld) (fun hHeld => ?_)
  clear hK K
  refine wpAnyH_done (by kernel_rfl) ?_ _
  go_wp2
  refine bodyPost_ret (results_cell_cell rfl _ _ (w.heap.size + 2) (w.heap.size + 3) _ _ rfl (load_row33 HE.out.1.1 HSF.out) rfl (load_rowR HE.out.1.2.1 HSR.out)) rfl ?_
  exact HE.out.1.2.2

set_option maxRecDepth 100000 in
set_option maxHeartbeats 3200000 in
theorem take_d (F : Fr) (s : Rs) (cs rs : Array Value) (w : World) (B : Nat) (D : Nat → Prop)
    (hF : FrW w D F s.2 cs) (hr : RAt w B s (.agg rs)) (hB : B ≤ w.heap.size) (hD : ∀ k, D k → B ≤ k ∧ k < w.heap.size) (hl : s.1.length ≤ 4000) :
    Calls Try.prog 25 #[.agg cs, .int .u8 100, .agg rs] w (TakeGot w B D (vId rdV (F, s))) := by
  have hST : Hid (∀ W0, World.alloc (World.alloc (World.alloc (World.alloc w (.cells cs 33)) (.cells rs 59)) (.cells zeroCells 33)) (.cells #[.slice none 0 0, .int .i64 0] 59) = W0 → TkS w B D F s cs rs W0) := fun W0 h => TkS.start hF hr hB h
  have HD := Lib.hid hD
  have HC1 : Hid (∀ W, RAt W B s (.agg rs) → B ≤ W.heap.size → Calls Try.prog 23 #[.agg rs, .int .u64 255] W (NumDone B (rId s).1.f (rN 255 s).2 W)) := fun W h1 h2 => numDone 255 h1 h2 hl
  have HC2 : Hid (∀ W rs, RAt W B (rN 255 s).2 (.agg rs) → B ≤ W.heap.size → Calls Try.prog 23 #[.agg rs, .int .u64 18446744073709551615] W (NumDone B (rId s).1.s (rId s).2 W)) := fun W rs h1 h2 => numDone top h1 h2 (Nat.le_trans (rN_le 255 s).2 hl)
  have he1 : (rN 255 s).2.2 = 0 → s.2 = 0 := rN_err
  have he2 : (rId s).2.2 = 0 → (rN 255 s).2.2 = 0 := rN_err
  rw [qId]
  generalize rId s = r at HC1 HC2 he2 ⊢
  obtain ⟨y, s2⟩ := r
  dsimp only at HC1 HC2 he2 ⊢
  have hyf := y.hf
  generalize (rN 255 s).2 = s1 at HC1 HC2 he1 he2
  clear hF hr hD
  go_enter Try.func25, Try.ntmps25
  go_upto_region 7 with fail
  generalize hw0 : World.alloc (World.alloc (World.alloc (World.alloc w _) _) _) _ = W0
  have hT0 := hST.out W0 hw0
  have HRD0 := Lib.hid hT0.rd
  have HRS0 := Lib.hid hT0.rat.size
  have HT0 := Lib.hid hT0
  clear hT0 hw0 hST
  go_wp2_with (first | (refine load_R (.tmp 5) rfl HRD0.out HRS0.out ?_) | fail)
  refine (HC1.out W0 HT0.out.rat (Nat.le_trans hB HT0.out.below.size)).mono ?_
  rintro e V1 ⟨rs1, rfl, hr1, HSA, HOA, hb1⟩
  have h1 := HT0.out.on hB hb1
  have h2 := h1.setR hB hr1 he1
  obtain ⟨u, hu⟩ := h2.cell 3 (by decide)
  have hfz := row_frozen h2.fr
  have h3 := h2.setC hB 3 (.int .u8 (y.f : Int)) rfl (F' := { F with id := ⟨y.f, F.id.s, y.hf, F.id.hs⟩ }) (fun _ hX => hX.put 3 _ (fun _ _ _ _ _ => rfl) rfl rfl rfl rfl rfl)
  have HT3 := Lib.hid h3
  have HRDx := Lib.hid h1.rd
  have HRDy := Lib.hid h3.rd
  clear h1 h2 h3 hr1 hb1 HT0 HC1 he1
  go_wp2_with (first | (refine store_R (.tmp 5) (.tmp 30) rfl rfl HRDx.out HRS0.out HSA.out HOA.out ?_) | (refine load_R (.tmp 5) rfl HRDy.out HSA.out ?_) | fail)
  clear HRDx HOA hu hfz HRD0 HRS0
  generalize (V1.setRow (w.heap.size + 1) rs1).setCell ⟨w.heap.size, 3, none⟩ (.int .u8 (y.f : Int)) = V2 at HT3 HRDy ⊢
  refine (HC2.out V2 rs1 HT3.out.rat (Nat.le_trans hB HT3.out.below.size)).mono ?_
  rintro e V3 ⟨rs3, rfl, hr3, HSB, HOB, hb3⟩
  have h4 := HT3.out.on hB hb3
  obtain ⟨u, hu⟩ := h4.cell 4 (by decide)
  have hfz := row_frozen h4.fr
  have HT := Lib.hid (h4.both hB hr3 he2 4 (.int .u64 (y.s : Int)) rfl (F' := { F with id := y }) (fun _ hX => hX.put 4 _ (fun _ _ _ _ _ => rfl) rfl rfl rfl rfl rfl))
  have HRDx : Hid ((V3.setCell ⟨w.heap.size, 4, none⟩ (.int .u64 (y.s : Int))).heap[w.heap.size + 1]? = some (.cells rs1 59 (0, 0))) := row_setOther h4.rd (by omega) 4 _
  clear h4 hr3 hb3 HT3 HC2 he2 HRDy
  go_wp2_with (first | (refine store_R (.tmp 5) (.tmp 39) rfl rfl HRDx.out HSA.out HSB.out HOB.out ?_) | fail)
  clear HRDx HSA HSB HOB hu hfz
  generalize hcs3 : cs.setIfInBounds 3 (.int .u8 (y.f : Int)) = cs3 at HT
  clear hcs3
  go_upto_region 31 with fail
  try simp only [Act.put]
  generalize (V3.setCell ⟨w.heap.size, 4, none⟩ (.int .u64 (y.s : Int))).setRow (w.heap.size + 1) rs3 = V at HT
  have hlt := HT.out.lt
  have HE := Lib.hid (HT.out.end_ hB)
  have HZF : Hid (V.drew.heap[w.heap.size + 2]? = some (.cells zeroCells 33 (0, 0))) := HT.out.zf
  have HZR : Hid (V.drew.heap[w.heap.size + 3]? = some (.cells #[.slice none 0 0, .int .i64 0] 59 (0, 0))) := HT.out.zr
  have HSF := Lib.hid HT.out.good.1
  have HOF := Lib.hid HT.out.good.2.1
  have HSR := Lib.hid HT.out.rat.size
  have HOR := Lib.hid HT.out.rat.one
  have hfr : V.drew.heap[w.heap.size]? = some (.cells (cs3.setIfInBounds 4 (.int .u64 (y.s : Int))) 33 (0, 0)) := HT.out.fr
  have hrd : V.drew.heap[w.heap.size + 1]? = some (.cells rs3 59 (0, 0)) := HT.out.rd
  generalize cs3.setIfInBounds 4 (.int .u64 (y.s : Int)) = csN at HE HSF HOF hfr
  have HS0 : Hid (V.drew.heap[w.heap.size]? = some (.cells csN 33 (0, 0)) ∧ V.drew.heap[w.heap.size + 1]? = some (.cells rs3 59 (0, 0))) := ⟨hfr, hrd⟩
  have HS1 : Hid (∀ i c', 2 ≤ i → ∀ U : World, U.heap[w.heap.size]? = some (.cells csN 33 (0, 0)) ∧ U.heap[w.heap.size + 1]? = some (.cells rs3 59 (0, 0)) → (U.setRow (w.heap.size + i) c').heap[w.heap.size]? = some (.cells csN 33 (0, 0)) ∧ (U.setRow (w.heap.size + i) c').heap[w.heap.size + 1]? = some (.cells rs3 59 (0, 0))) :=
    fun i c' hi U h => ⟨(setRow_other _ _ _ _ (by omega)).trans h.1, (setRow_other _ _ _ _ (by omega)).trans h.2⟩
  have HO1 : Hid (∀ c', (V.drew.setRow (w.heap.size + 2) c').heap[w.heap.size + 3]? = some (.cells #[.slice none 0 0, .int .i64 0] 59 (0, 0))) := fun c' => (setRow_other _ _ _ _ (by omega)).trans HZR.out
  clear hfr hrd HT
  refine wp_region_held_drew (S := fun X => X.heap[w.heap.size]? = some (.cells csN 33 (0, 0)) ∧ X.heap[w.heap.size + 1]? = some (.cells rs3 59 (0, 0))) (by kernel_rfl) HS0.out (fun hHeld => ?_)
  refine wpAnyH_takeAt (i := 0) (d := 120) (v := .agg csN) rfl rfl (by kernel_rfl) (by kernel_rfl) (by kernel_rfl) (fun _ _ _ h => h) (yields_frame (x := .tmp 3) (g := w.heap.size) (by rfl) rfl rfl HSF.out (fun _ h => h.1)) hHeld ?_
  simp only [List.setIfInBounds_toArray, List.set_cons_zero, List.set_cons_succ]
  refine wpAnyH_takeAt (i := 1) (d := 121) (v := .agg rs3) rfl rfl (by kernel_rfl) (by kernel_rfl) (by kernel_rfl) (fun _ _ _ h => h) (yields_R (x := .tmp 5) (g := w.heap.size + 1) (by rfl) rfl rfl HSR.out (fun _ h => h.2)) hHeld ?_
  simp only [List.setIfInBounds_toArray, List.set_cons_zero, List.set_cons_succ]
  refine wpAnyH_ready (rs := [2]) (by kernel_rfl) (by simp) ?_
  refine AllReadyH.cons rfl (fun K hK => ?_) AllReadyH.nil
  refine wp_store_step (x := .tmp 6) (y := .tmp 120) rfl rfl rfl rfl HZF.out rfl HSF.out HOF.out ?_
  go_simp
  refine hK.out _ _ (HS1.out 2 csN (by omega) _ hHeld) (fun hHeld => ?_)
  clear hK K
  refine wpAnyH_ready (rs := [3]) (by kernel_rfl) (by simp) ?_
  refine AllReadyH.cons rfl (fun K hK => ?_) AllReadyH.nil
  refine wp_store_R (x := .tmp 7) (y := .tmp 121) rfl rfl rfl rfl (HO1.out csN) rfl HSR.out HOR.out ?_
  go_simp
  refine hK.out _ _ (HS1.out 3 rs3 (by omega) _ hHeld) (fun hHeld => ?_)
  clear hK K
  refine wpAnyH_done (by kernel_rfl) ?_ _
  go_wp2
  refine bodyPost_ret (results_cell_cell rfl _ _ (w.heap.size + 2) (w.heap.size + 3) _ _ rfl (load_row33 HE.out.1.1 HSF.out) rfl (load_rowR HE.out.1.2.1 HSR.out)) rfl ?_
  exact HE.out.1.2.2

end Go.Proofs.Ytbfjfidodpgohaa
