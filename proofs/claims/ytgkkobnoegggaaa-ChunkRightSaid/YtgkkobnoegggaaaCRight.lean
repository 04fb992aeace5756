/- ChunkRight: for every frame, every chunk's size and every bound the call returns true (whether a frame's chunk can be one is told as the document tells it), and changes nothing that was there. No conditions. -/
import Derived.Test.YtgkkobnoegggaaaCkC
import Derived.Test.YtgkkobnoegggaaaCkD
import Derived.ChangeOld
namespace Go.Proofs.Ytgkkobnoegggaaa
open Go.ChangeShapes Go.WideShapes Go.ChangeAt Go.RowKit

set_option maxRecDepth 100000 in
set_option maxHeartbeats 3200000 in
theorem chunkRight_walk (F : Fr) (cs : Array Value) (k most : Int) (W : World) (hF : FrL W F cs) (hw : F.Wf) : Calls Try.prog 6 #[.agg cs, .int .i64 k, .int .i64 most] W fun e w' => e = .returned (.bool true) ∧ Below W.heap.size W w' := by
  have HB1 : Hid (Below W.heap.size W (W.alloc (.cells cs 42))) := (Below.refl _ _).alloc (Nat.le_refl _) _
  have HR1 : Hid ((W.alloc (.cells cs 42)).heap[W.heap.size]? = some (.cells cs 42 (0, 0))) := heap_alloc_new _ _
  have HRW : Hid (∀ V, Below (W.alloc (.cells cs 42)).heap.size (W.alloc (.cells cs 42)) V → V.heap[W.heap.size]? = some (.cells cs 42 (0, 0))) := fun V hV => (hV.block _ (by simp)).trans HR1.out
  have HSZ : Hid (cs.size = 16) := hF.size
  have HFL : Hid (∀ V, Below W.heap.size W V → FrL V F cs) := fun V hV => hF.on hV
  have HWF := Lib.hid hw
  have HG : Hid (∀ V, V = W.alloc (.cells cs 42) → Calls Try.prog 18 #[.agg cs] V fun e w' => e = .returned (.bool (greatB F)) ∧ Below V.heap.size V w') := by
    rintro V rfl
    exact refGreat_any F cs _ (hF.on HB1.out)
  obtain ⟨-, -, -, -, -, -, -, -, x8, -, -⟩ := hF.at_
  clear hF hw
  generalize hsz : F.size = sz at *
  by_cases hg : greatB F = true
  · rw [hg] at HG
    go_enter Try.func6, Try.ntmps6
    go_wp2_with (first | (refine load_frame (.tmp 3) rfl HR1.out HSZ.out ?_) | fail)
    refine (HG.out _ rfl).mono ?_
    rintro e w2 ⟨rfl, hb2⟩
    have HB2 : Hid (Below W.heap.size W w2) := HB1.out.trans (hb2.mono HB1.out.size)
    have HR2 : Hid (w2.heap[W.heap.size]? = some (.cells cs 42 (0, 0))) := HRW.out _ hb2
    have c8 := cell_of_row w2 W.heap.size 8 _ _ _ HR2.out
    rw [x8] at c8
    have HROW : Hid (∀ V, Below w2.heap.size w2 V → V.heap[W.heap.size]? = some (.cells cs 42 (0, 0))) := fun V hV => HRW.out _ (hb2.trans (hV.mono hb2.size))
    have HA : Hid (∀ V, Below w2.heap.size w2 V → Calls Try.prog 17 #[.agg cs, .int .i64 k, .int .i64 most] V fun e w' => e = .returned (.bool (rightZ F k most)) ∧ Below V.heap.size V w') := fun V hV => right_any F cs k most V (HFL.out _ (HB2.out.trans (hV.mono HB2.out.size))) HWF.out
    have HB : Hid (∀ V, Below w2.heap.size w2 V → Calls Try.prog 19 #[.agg cs, .int .i64 k, .int .i64 most] V fun e w' => e = .returned (.bool (rightZ F k most)) ∧ Below V.heap.size V w') := fun V hV => refRight_any F cs k most V (HFL.out _ (HB2.out.trans (hV.mono HB2.out.size))) HWF.out
    have HK : Hid (∀ V, Below w2.heap.size w2 V → Calls Try.prog 8 #[] V fun e w' => e = .returned (.bool true) ∧ Below V.heap.size V w') := fun V _ => (awake_any V).mono fun e w' (h : e = .returned (.bool true) ∧ w' = V) => ⟨h.1, by rw [h.2]; exact Below.refl _ _⟩
    clear hb2 x8
    generalize rightZ F k most = rz at *
    go_wp2_with fail
    refine (awake_any _).mono ?_
    rintro e w' ⟨rfl, rfl⟩
    go_wp2_with fail
    go_ret
    exact ⟨rfl, HB2.out⟩
  rw [Bool.not_eq_true] at hg
  rw [hg] at HG
  by_cases h1 : 5000 < sz
  · have d1 : decide (5000 < sz) = true := by simpa using h1
    by_cases h2 : sz ≤ 1048576
    · have d2 : decide (sz ≤ 1048576) = true := by simpa using h2
      go_enter Try.func6, Try.ntmps6
      go_wp2_with (first | (refine load_frame (.tmp 3) rfl HR1.out HSZ.out ?_) | fail)
      refine (HG.out _ rfl).mono ?_
      rintro e w2 ⟨rfl, hb2⟩
      have HB2 : Hid (Below W.heap.size W w2) := HB1.out.trans (hb2.mono HB1.out.size)
      have HR2 : Hid (w2.heap[W.heap.size]? = some (.cells cs 42 (0, 0))) := HRW.out _ hb2
      have c8 := cell_of_row w2 W.heap.size 8 _ _ _ HR2.out
      rw [x8] at c8
      have HROW : Hid (∀ V, Below w2.heap.size w2 V → V.heap[W.heap.size]? = some (.cells cs 42 (0, 0))) := fun V hV => HRW.out _ (hb2.trans (hV.mono hb2.size))
      have HA : Hid (∀ V, Below w2.heap.size w2 V → Calls Try.prog 17 #[.agg cs, .int .i64 k, .int .i64 most] V fun e w' => e = .returned (.bool (rightZ F k most)) ∧ Below V.heap.size V w') := fun V hV => right_any F cs k most V (HFL.out _ (HB2.out.trans (hV.mono HB2.out.size))) HWF.out
      have HB : Hid (∀ V, Below w2.heap.size w2 V → Calls Try.prog 19 #[.agg cs, .int .i64 k, .int .i64 most] V fun e w' => e = .returned (.bool (rightZ F k most)) ∧ Below V.heap.size V w') := fun V hV => refRight_any F cs k most V (HFL.out _ (HB2.out.trans (hV.mono HB2.out.size))) HWF.out
      have HK : Hid (∀ V, Below w2.heap.size w2 V → Calls Try.prog 8 #[] V fun e w' => e = .returned (.bool true) ∧ Below V.heap.size V w') := fun V _ => (awake_any V).mono fun e w' (h : e = .returned (.bool true) ∧ w' = V) => ⟨h.1, by rw [h.2]; exact Below.refl _ _⟩
      clear hb2 x8
      generalize rightZ F k most = rz at *
      go_wp2_with fail
      refine (awake_any _).mono ?_
      rintro e w' ⟨rfl, rfl⟩
      go_wp2_with fail
      go_ret
      exact ⟨rfl, HB2.out⟩
    · have d2 : decide (sz ≤ 1048576) = false := by simpa using h2
      go_enter Try.func6, Try.ntmps6
      go_wp2_with (first | (refine load_frame (.tmp 3) rfl HR1.out HSZ.out ?_) | fail)
      refine (HG.out _ rfl).mono ?_
      rintro e w2 ⟨rfl, hb2⟩
      have HB2 : Hid (Below W.heap.size W w2) := HB1.out.trans (hb2.mono HB1.out.size)
      have HR2 : Hid (w2.heap[W.heap.size]? = some (.cells cs 42 (0, 0))) := HRW.out _ hb2
      have c8 := cell_of_row w2 W.heap.size 8 _ _ _ HR2.out
      rw [x8] at c8
      have HROW : Hid (∀ V, Below w2.heap.size w2 V → V.heap[W.heap.size]? = some (.cells cs 42 (0, 0))) := fun V hV => HRW.out _ (hb2.trans (hV.mono hb2.size))
      have HA : Hid (∀ V, Below w2.heap.size w2 V → Calls Try.prog 17 #[.agg cs, .int .i64 k, .int .i64 most] V fun e w' => e = .returned (.bool (rightZ F k most)) ∧ Below V.heap.size V w') := fun V hV => right_any F cs k most V (HFL.out _ (HB2.out.trans (hV.mono HB2.out.size))) HWF.out
      have HB : Hid (∀ V, Below w2.heap.size w2 V → Calls Try.prog 19 #[.agg cs, .int .i64 k, .int .i64 most] V fun e w' => e = .returned (.bool (rightZ F k most)) ∧ Below V.heap.size V w') := fun V hV => refRight_any F cs k most V (HFL.out _ (HB2.out.trans (hV.mono HB2.out.size))) HWF.out
      have HK : Hid (∀ V, Below w2.heap.size w2 V → Calls Try.prog 8 #[] V fun e w' => e = .returned (.bool true) ∧ Below V.heap.size V w') := fun V _ => (awake_any V).mono fun e w' (h : e = .returned (.bool true) ∧ w' = V) => ⟨h.1, by rw [h.2]; exact Below.refl _ _⟩
      clear hb2 x8
      generalize rightZ F k most = rz at *
      go_wp2_with (first | (refine load_frame (.tmp 3) rfl HR2.out HSZ.out ?_) | fail)
      refine wp_region_held_drew (S := fun V => Below w2.heap.size w2 V) (by kernel_rfl) ((Below.refl _ _).drew) (fun hHeld => ?_)
      have hHeld : Below w2.heap.size w2 w2.drew := (Below.refl _ _).drew
      generalize w2.drew = X0 at hHeld ⊢
      refine wpAnyH_takeAt (i := 0) (d := 20) (v := .agg cs) rfl rfl (by kernel_rfl) (by kernel_rfl) (by kernel_rfl) (fun _ _ _ h => h) (yields_frame (S := fun V => Below w2.heap.size w2 V) (x := .tmp 3) (g := W.heap.size) rfl rfl rfl HSZ.out (fun V hV => HROW.out V hV)) hHeld ?_
      simp only [List.setIfInBounds_toArray, List.set_cons_zero, List.set_cons_succ]
      refine wpAnyH_takeAt (i := 1) (d := 21) (v := ?_) rfl rfl (by kernel_rfl) (by kernel_rfl) (by kernel_rfl) (fun _ _ _ h => h) (Or.inl ⟨by rfl, ?_⟩) hHeld ?_
      rotate_left
      · (intro _ hSw; go_simp; try with_reducible rfl)
      simp only [List.setIfInBounds_toArray, List.set_cons_zero, List.set_cons_succ]
      refine wpAnyH_takeAt (i := 2) (d := 22) (v := ?_) rfl rfl (by kernel_rfl) (by kernel_rfl) (by kernel_rfl) (fun _ _ _ h => h) (Or.inl ⟨by rfl, ?_⟩) hHeld ?_
      rotate_left
      · (intro _ hSw; go_simp; try with_reducible rfl)
      simp only [List.setIfInBounds_toArray, List.set_cons_zero, List.set_cons_succ]
      refine wpAnyH_takeAt (i := 4) (d := 24) (v := .agg cs) rfl rfl (by kernel_rfl) (by kernel_rfl) (by kernel_rfl) (fun _ _ _ h => h) (yields_frame (S := fun V => Below w2.heap.size w2 V) (x := .tmp 3) (g := W.heap.size) rfl rfl rfl HSZ.out (fun V hV => HROW.out V hV)) hHeld ?_
      simp only [List.setIfInBounds_toArray, List.set_cons_zero, List.set_cons_succ]
      refine wpAnyH_takeAt (i := 5) (d := 25) (v := ?_) rfl rfl (by kernel_rfl) (by kernel_rfl) (by kernel_rfl) (fun _ _ _ h => h) (Or.inl ⟨by rfl, ?_⟩) hHeld ?_
      rotate_left
      · (intro _ hSw; go_simp; try with_reducible rfl)
      simp only [List.setIfInBounds_toArray, List.set_cons_zero, List.set_cons_succ]
      refine wpAnyH_takeAt (i := 6) (d := 26) (v := ?_) rfl rfl (by kernel_rfl) (by kernel_rfl) (by kernel_rfl) (fun _ _ _ h => h) (Or.inl ⟨by rfl, ?_⟩) hHeld ?_
      rotate_left
      · (intro _ hSw; go_simp; try with_reducible rfl)
      simp only [List.setIfInBounds_toArray, List.set_cons_zero, List.set_cons_succ]
      refine wpAnyH_ready (rs := [3]) (by kernel_rfl) (by simp) ?_
      refine AllReadyH.cons rfl (fun K hK => ?_) AllReadyH.nil
      go_simp
      refine (HA.out _ hHeld).mono ?_
      rintro e X1 ⟨rfl, hb1⟩
      have hHeld1 : Below w2.heap.size w2 X1 := hHeld.trans (hb1.mono hHeld.size)
      refine hK.out _ _ hHeld1 (fun _ => ?_)
      clear hK K hb1 hHeld
      have hHeld := hHeld1
      clear hHeld1
      refine wpAnyH_ready (rs := [7]) (by kernel_rfl) (by simp) ?_
      refine AllReadyH.cons rfl (fun K hK => ?_) AllReadyH.nil
      go_simp
      refine (HB.out _ hHeld).mono ?_
      rintro e X2 ⟨rfl, hb2⟩
      have hHeld2 : Below w2.heap.size w2 X2 := hHeld.trans (hb2.mono hHeld.size)
      refine hK.out _ _ hHeld2 (fun _ => ?_)
      clear hK K hb2 hHeld
      have hHeld := hHeld2
      clear hHeld2
      refine wpAnyH_takeAt (i := 8) (d := 28) (v := ?_) rfl rfl (by kernel_rfl) (by kernel_rfl) (by kernel_rfl) (fun _ _ _ h => h) (Or.inl ⟨by rfl, ?_⟩) hHeld ?_
      rotate_left
      · (intro _ hSw; go_simp; try with_reducible rfl)
      simp only [List.setIfInBounds_toArray, List.set_cons_zero, List.set_cons_succ]
      refine wpAnyH_takeAt (i := 9) (d := 29) (v := ?_) rfl rfl (by kernel_rfl) (by kernel_rfl) (by kernel_rfl) (fun _ _ _ h => h) (Or.inl ⟨by rfl, ?_⟩) hHeld ?_
      rotate_left
      · (intro _ hSw; go_simp; try with_reducible rfl)
      simp only [List.setIfInBounds_toArray, List.set_cons_zero, List.set_cons_succ]
      refine wpAnyH_ready (rs := [10]) (by kernel_rfl) (by simp) ?_
      refine AllReadyH.cons rfl (fun K hK => ?_) AllReadyH.nil
      go_simp
      refine (HK.out _ hHeld).mono ?_
      rintro e X3 ⟨rfl, hb3⟩
      have hHeld3 : Below w2.heap.size w2 X3 := hHeld.trans (hb3.mono hHeld.size)
      refine hK.out _ _ hHeld3 (fun _ => ?_)
      clear hK K hb3 hHeld
      have hHeld := hHeld3
      clear hHeld3
      refine wpAnyH_takeAt (i := 11) (d := 31) (v := ?_) rfl rfl (by kernel_rfl) (by kernel_rfl) (by kernel_rfl) (fun _ _ _ h => h) (Or.inl ⟨by rfl, ?_⟩) hHeld ?_
      rotate_left
      · (intro _ hSw; go_simp; try with_reducible rfl)
      simp only [List.setIfInBounds_toArray, List.set_cons_zero, List.set_cons_succ]
      refine wpAnyH_takeAt (i := 12) (d := 6) (v := ?_) rfl rfl (by kernel_rfl) (by kernel_rfl) (by kernel_rfl) (fun _ _ _ h => h) (Or.inl ⟨by rfl, ?_⟩) hHeld ?_
      rotate_left
      · (intro _ hSw; go_simp; try with_reducible rfl)
      simp only [List.setIfInBounds_toArray, List.set_cons_zero, List.set_cons_succ]
      have HF := Lib.hid hHeld
      refine wpAnyH_done (by kernel_rfl) ?_ _
      go_wp2
      go_ret
      exact ⟨rfl, HB2.out.trans (HF.out.mono HB2.out.size)⟩
  · have d1 : decide (5000 < sz) = false := by simpa using h1
    go_enter Try.func6, Try.ntmps6
    go_wp2_with (first | (refine load_frame (.tmp 3) rfl HR1.out HSZ.out ?_) | fail)
    refine (HG.out _ rfl).mono ?_
    rintro e w2 ⟨rfl, hb2⟩
    have HB2 : Hid (Below W.heap.size W w2) := HB1.out.trans (hb2.mono HB1.out.size)
    have HR2 : Hid (w2.heap[W.heap.size]? = some (.cells cs 42 (0, 0))) := HRW.out _ hb2
    have c8 := cell_of_row w2 W.heap.size 8 _ _ _ HR2.out
    rw [x8] at c8
    have HROW : Hid (∀ V, Below w2.heap.size w2 V → V.heap[W.heap.size]? = some (.cells cs 42 (0, 0))) := fun V hV => HRW.out _ (hb2.trans (hV.mono hb2.size))
    have HA : Hid (∀ V, Below w2.heap.size w2 V → Calls Try.prog 17 #[.agg cs, .int .i64 k, .int .i64 most] V fun e w' => e = .returned (.bool (rightZ F k most)) ∧ Below V.heap.size V w') := fun V hV => right_any F cs k most V (HFL.out _ (HB2.out.trans (hV.mono HB2.out.size))) HWF.out
    have HB : Hid (∀ V, Below w2.heap.size w2 V → Calls Try.prog 19 #[.agg cs, .int .i64 k, .int .i64 most] V fun e w' => e = .returned (.bool (rightZ F k most)) ∧ Below V.heap.size V w') := fun V hV => refRight_any F cs k most V (HFL.out _ (HB2.out.trans (hV.mono HB2.out.size))) HWF.out
    have HK : Hid (∀ V, Below w2.heap.size w2 V → Calls Try.prog 8 #[] V fun e w' => e = .returned (.bool true) ∧ Below V.heap.size V w') := fun V _ => (awake_any V).mono fun e w' (h : e = .returned (.bool true) ∧ w' = V) => ⟨h.1, by rw [h.2]; exact Below.refl _ _⟩
    clear hb2 x8
    generalize rightZ F k most = rz at *
    go_wp2_with (first | (refine load_frame (.tmp 3) rfl HR2.out HSZ.out ?_) | fail)
    refine wp_region_held_drew (S := fun V => Below w2.heap.size w2 V) (by kernel_rfl) ((Below.refl _ _).drew) (fun hHeld => ?_)
    have hHeld : Below w2.heap.size w2 w2.drew := (Below.refl _ _).drew
    generalize w2.drew = X0 at hHeld ⊢
    refine wpAnyH_takeAt (i := 0) (d := 20) (v := .agg cs) rfl rfl (by kernel_rfl) (by kernel_rfl) (by kernel_rfl) (fun _ _ _ h => h) (yields_frame (S := fun V => Below w2.heap.size w2 V) (x := .tmp 3) (g := W.heap.size) rfl rfl rfl HSZ.out (fun V hV => HROW.out V hV)) hHeld ?_
    simp only [List.setIfInBounds_toArray, List.set_cons_zero, List.set_cons_succ]
    refine wpAnyH_takeAt (i := 1) (d := 21) (v := ?_) rfl rfl (by kernel_rfl) (by kernel_rfl) (by kernel_rfl) (fun _ _ _ h => h) (Or.inl ⟨by rfl, ?_⟩) hHeld ?_
    rotate_left
    · (intro _ hSw; go_simp; try with_reducible rfl)
    simp only [List.setIfInBounds_toArray, List.set_cons_zero, List.set_cons_succ]
    refine wpAnyH_takeAt (i := 2) (d := 22) (v := ?_) rfl rfl (by kernel_rfl) (by kernel_rfl) (by kernel_rfl) (fun _ _ _ h => h) (Or.inl ⟨by rfl, ?_⟩) hHeld ?_
    rotate_left
    · (intro _ hSw; go_simp; try with_reducible rfl)
    simp only [List.setIfInBounds_toArray, List.set_cons_zero, List.set_cons_succ]
    refine wpAnyH_takeAt (i := 4) (d := 24) (v := .agg cs) rfl rfl (by kernel_rfl) (by kernel_rfl) (by kernel_rfl) (fun _ _ _ h => h) (yields_frame (S := fun V => Below w2.heap.size w2 V) (x := .tmp 3) (g := W.heap.size) rfl rfl rfl HSZ.out (fun V hV => HROW.out V hV)) hHeld ?_
    simp only [List.setIfInBounds_toArray, List.set_cons_zero, List.set_cons_succ]
    refine wpAnyH_takeAt (i := 5) (d := 25) (v := ?_) rfl rfl (by kernel_rfl) (by kernel_rfl) (by kernel_rfl) (fun _ _ _ h => h) (Or.inl ⟨by rfl, ?_⟩) hHeld ?_
    rotate_left
    · (intro _ hSw; go_simp; try with_reducible rfl)
    simp only [List.setIfInBounds_toArray, List.set_cons_zero, List.set_cons_succ]
    refine wpAnyH_takeAt (i := 6) (d := 26) (v := ?_) rfl rfl (by kernel_rfl) (by kernel_rfl) (by kernel_rfl) (fun _ _ _ h => h) (Or.inl ⟨by rfl, ?_⟩) hHeld ?_
    rotate_left
    · (intro _ hSw; go_simp; try with_reducible rfl)
    simp only [List.setIfInBounds_toArray, List.set_cons_zero, List.set_cons_succ]
    refine wpAnyH_ready (rs := [3]) (by kernel_rfl) (by simp) ?_
    refine AllReadyH.cons rfl (fun K hK => ?_) AllReadyH.nil
    go_simp
    refine (HA.out _ hHeld).mono ?_
    rintro e X1 ⟨rfl, hb1⟩
    have hHeld1 : Below w2.heap.size w2 X1 := hHeld.trans (hb1.mono hHeld.size)
    refine hK.out _ _ hHeld1 (fun _ => ?_)
    clear hK K hb1 hHeld
    have hHeld := hHeld1
    clear hHeld1
    refine wpAnyH_ready (rs := [7]) (by kernel_rfl) (by simp) ?_
    refine AllReadyH.cons rfl (fun K hK => ?_) AllReadyH.nil
    go_simp
    refine (HB.out _ hHeld).mono ?_
    rintro e X2 ⟨rfl, hb2⟩
    have hHeld2 : Below w2.heap.size w2 X2 := hHeld.trans (hb2.mono hHeld.size)
    refine hK.out _ _ hHeld2 (fun _ => ?_)
    clear hK K hb2 hHeld
    have hHeld := hHeld2
    clear hHeld2
    refine wpAnyH_takeAt (i := 8) (d := 28) (v := ?_) rfl rfl (by kernel_rfl) (by kernel_rfl) (by kernel_rfl) (fun _ _ _ h => h) (Or.inl ⟨by rfl, ?_⟩) hHeld ?_
    rotate_left
    · (intro _ hSw; go_simp; try with_reducible rfl)
    simp only [List.setIfInBounds_toArray, List.set_cons_zero, List.set_cons_succ]
    refine wpAnyH_takeAt (i := 9) (d := 29) (v := ?_) rfl rfl (by kernel_rfl) (by kernel_rfl) (by kernel_rfl) (fun _ _ _ h => h) (Or.inl ⟨by rfl, ?_⟩) hHeld ?_
    rotate_left
    · (intro _ hSw; go_simp; try with_reducible rfl)
    simp only [List.setIfInBounds_toArray, List.set_cons_zero, List.set_cons_succ]
    refine wpAnyH_ready (rs := [10]) (by kernel_rfl) (by simp) ?_
    refine AllReadyH.cons rfl (fun K hK => ?_) AllReadyH.nil
    go_simp
    refine (HK.out _ hHeld).mono ?_
    rintro e X3 ⟨rfl, hb3⟩
    have hHeld3 : Below w2.heap.size w2 X3 := hHeld.trans (hb3.mono hHeld.size)
    refine hK.out _ _ hHeld3 (fun _ => ?_)
    clear hK K hb3 hHeld
    have hHeld := hHeld3
    clear hHeld3
    refine wpAnyH_takeAt (i := 11) (d := 31) (v := ?_) rfl rfl (by kernel_rfl) (by kernel_rfl) (by kernel_rfl) (fun _ _ _ h => h) (Or.inl ⟨by rfl, ?_⟩) hHeld ?_
    rotate_left
    · (intro _ hSw; go_simp; try with_reducible rfl)
    simp only [List.setIfInBounds_toArray, List.set_cons_zero, List.set_cons_succ]
    refine wpAnyH_takeAt (i := 12) (d := 6) (v := ?_) rfl rfl (by kernel_rfl) (by kernel_rfl) (by kernel_rfl) (fun _ _ _ h => h) (Or.inl ⟨by rfl, ?_⟩) hHeld ?_
    rotate_left
    · (intro _ hSw; go_simp; try with_reducible rfl)
    simp only [List.setIfInBounds_toArray, List.set_cons_zero, List.set_cons_succ]
    have HF := Lib.hid hHeld
    refine wpAnyH_done (by kernel_rfl) ?_ _
    go_wp2
    go_ret
    exact ⟨rfl, HB2.out.trans (HF.out.mono HB2.out.size)⟩

theorem own : ownKnob Try.prog.godebug = none := by kernel_rfl
theorem laidOut : laidOutB Try.prog = true := by kernel_rfl

set_option maxRecDepth 100000 in
theorem chunkRight_lifted (os : Os) (started : os.Started) (H : Type) (enc : TypeId × Value → H) :
    ReturnsInHanded {} Try.checked os 6 .any (Rows.chunkRightSpec.pre6 enc Try.prog Try.f6 Rows.chunkRightRow.domain false) (Rows.chunkRightSpec.post enc Try.prog Try.f6 false true false false) := by
  refine returnsInHanded_of_change (C := Try.checked) own started (by kernel_rfl) Try.func6
    (ChangeSpec.witness6 (enc := enc) (C := Try.checked) false ⟨#[], #[.agg #[.int .u8 0, .int .u8 0, .int .u8 0, .int .u8 0, .int .u64 0, .int .u64 0, .int .u32 0, .int .u32 0, .int .u32 0, .int .u64 0, .int .u64 0, .slice none 0 0, .slice none 0 0, .slice none 0 0, .slice none 0 0, .slice none 0 0], .int .i64 0, .int .i64 0], []⟩ 8 (by kernel_rfl) (by kernel_rfl) (by kernel_rfl) (by kernel_rfl)) ?_
  intro W base args ds gs before hval0 hW _ _
  have hval : ∀ (j : Nat) t v, Try.f6.params[j]? = some t → args[j]? = some v → Value.okWide Try.prog W .any base t v := hval0
  have hW' := hW
  obtain ⟨p, q, hA0, hV, rfl, _, _⟩ := hW
  have hA : DataW.TrodAll enc Try.prog W 0 (fun _ => true) true Try.f6.params.toList args.toList ds p := hA0
  rw [Try.params6] at hA hval
  obtain ⟨v0, vs0, d0, ds0, p0, q0, hargs, rfl, rfl, h0, r0⟩ := trodAll_cons hA
  obtain ⟨v1, vs1, d1, ds1, p1, q1, rfl, rfl, rfl, h1, r1⟩ := trodAll_cons r0
  obtain ⟨v2, vs2, d2, ds2, p2, q2, rfl, rfl, rfl, h2, r2⟩ := trodAll_cons r1
  obtain ⟨rfl, rfl, rfl⟩ := trodAll_nil r2
  obtain rfl : args = #[v0, v1, v2] := by cases args; simp_all
  obtain ⟨rfl, rfl⟩ := trodVars_none hV
  have k0 := h0
  have lt0 : ∀ x ∈ p0, x.block < W.heap.size := by obtain ⟨m, hm⟩ := k0; exact DataW.trod_lt m _ _ _ hm
  have k1 := h1
  have lt1 : ∀ x ∈ p1, x.block < W.heap.size := by obtain ⟨m, hm⟩ := k1; exact DataW.trod_lt m _ _ _ hm
  have k2 := h2
  have lt2 : ∀ x ∈ p2, x.block < W.heap.size := by obtain ⟨m, hm⟩ := k2; exact DataW.trod_lt m _ _ _ hm
  obtain ⟨a1, rfl, _, _, _⟩ := open_int Try.underlying3 (hval 1 3 v1 rfl rfl) h1
  obtain ⟨a2, rfl, _, _, _⟩ := open_int Try.underlying3 (hval 2 3 v2 rfl rfl) h2
  have hwalk : Calls Try.prog 6 #[v0, .int .i64 a1, .int .i64 a2] W fun e w' => e = .returned (.bool true) ∧ Below W.heap.size W w' := by
    obtain ⟨F, cs, rfl, hF, hwf⟩ := open_frame (hval 0 42 v0 rfl rfl) h0
    obtain ⟨x, rfl, rfl, hX⟩ := hF.pf
    exact chunkRight_walk x.F x.cs a1 a2 W hX.frl hwf
  clear hA0 hval0
  refine hwalk.mono fun e W' ⟨he, bel⟩ => ?_
  subst he
  exact ⟨_, rfl, _, _, _, [], _, [], hW', trodAll_mk1 (shut_bool Try.underlying4 _), (trodAll_cons_mk (Below.trod laidOut (by kernel_rfl) (of_decide_eq_true (by kernel_rfl)) k0 bel lt0) (trodAll_cons_mk (Below.trod laidOut (by kernel_rfl) (of_decide_eq_true (by kernel_rfl)) k1 bel lt1) (trodAll_cons_mk (Below.trod laidOut (by kernel_rfl) (of_decide_eq_true (by kernel_rfl)) k2 bel lt2) trodAll_mk0))), rfl, bel.frame _, fun h => by cases h⟩

theorem chunkRight_proved : Rows.ChunkRightSaid :=
  OpenClaim.holds_of_wide 6 Try.f6 rfl rfl rfl rfl rfl rfl rfl ⟨rfl, rfl, rfl, rfl, rfl⟩ rfl rfl rfl rfl rfl (by kernel_rfl) Try.func6 (by kernel_rfl)
    (of_decide_eq_true (by kernel_rfl)) (by unfold Func.isWrapper; first | (rw [if_pos (by decide +kernel)]; kernel_rfl) | (rw [if_neg (by decide +kernel)]; exact ⟨rfl, rfl⟩))
    (fun os started H enc _ => chunkRight_lifted os started H enc)

end Go.Proofs.Ytgkkobnoegggaaa
