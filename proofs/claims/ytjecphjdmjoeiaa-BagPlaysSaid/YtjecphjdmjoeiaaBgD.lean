/- New; slices.Delete of one thing; Take. -/
import Derived.Test.YtjecphjdmjoeiaaBgC
namespace Go.Proofs.Ytjecphjdmjoeiaa
open Go.RowKit Go.Sort

def roomN (r : Int) : Nat := (max 1 (min r 4096)).toNat

theorem new_any (r : Int) (w : World) (base : Nat) (hb : base ≤ w.heap.size) (h1 : -9223372036854775808 ≤ r) (h2 : r ≤ 9223372036854775807) : Calls Try.prog 9 #[.int .i64 r] w fun e w' =>
    e = .returned (.pointer (some ⟨w.heap.size, 0, none⟩)) ∧ BagAt w' base w.heap.size (.slice none 0 0) (roomN r) 0 [] (fun k => k = w.heap.size) ∧ RowKit.Below w.heap.size w w' := by
  have HM : Hid (max 1 (min r 4096) = (roomN r : Int)) := by show _ = _; unfold roomN; omega
  have hr1 : 1 ≤ roomN r := by unfold roomN; omega
  have hr2 : roomN r ≤ 4096 := by unfold roomN; omega
  generalize hN : roomN r = N at HM hr1 hr2 ⊢
  clear hN
  go_enter Try.func9, Try.ntmps9
  go_wp2
  go_ret
  rw [HM.out]
  refine ⟨rfl, ?_, (RowKit.Below.refl _ _).alloc (Nat.le_refl _) _⟩
  exact
  { box := heap_alloc_new w _
    ths := World.ownsRow_nil _ _ _ _
    bod := by simp, dis := by simp [bodies], dp := rfl, dt := by simp [Value.ownBlock], db := by simp [bodies]
    din := fun b hb' => by subst hb'; exact ⟨hb, by simp⟩
    bm := by simp, fit := Nat.zero_le _, room1 := hr1, room2 := hr2, low := Nat.zero_le _ }

/-- append(s[:i], s[i+1:]...) in the block of s itself. -/
theorem own_cutout {base k g n c i : Nat} {e t ty : TypeId} {j : TypeInfo} {w : World} {xs : List Value} (ht : Try.prog.underlying t = some (.slice e)) (hj : Try.prog.info? e = some j) (hk : j.size = k) (hi : i < n)
    (h : w.ownsRow base e k (.slice (some ⟨g, 0, none⟩) n c) n xs) (h1 : ∀ u ∈ xs, u.oneCell' = true) (a : Addr) (c' : Nat) (ha : i + 1 < n → a = ⟨g, (i + 1) * k, none⟩) :
    ∃ w', (Builtin.append_ #[t, t] ty #[.slice (some ⟨g, 0, none⟩) i c, .slice (some a) (n - (i + 1)) c']).run Try.prog w = .ok (.slice (some ⟨g, 0, none⟩) (n - 1) c) w' ∧
      w'.ownsRow base e k (.slice (some ⟨g, 0, none⟩) n c) n (xs.take (i * k) ++ (xs.drop ((i + 1) * k) ++ xs.drop ((n - 1) * k))) ∧ w.grownBy w' (some g) := by
  have hlen := h.1
  rcases h.2 with ⟨h0, _⟩ | ⟨g', cap, cur, hv, hbg, hg, hnc, hcm, hcs, htake⟩
  · simp at h0
  simp only [Value.slice.injEq, Option.some.injEq, Addr.mk.injEq, and_true, true_and] at hv
  obtain ⟨rfl, rfl⟩ := hv
  have hck : n * k ≤ cur.size := by rw [hcs]; exact Nat.mul_le_mul_right k hnc
  have e1 : i * k + k = (i + 1) * k := (Nat.succ_mul i k).symm
  have e2 : (i + 1) * k + (n - (i + 1)) * k = n * k := by rw [← Nat.add_mul]; congr 1; omega
  have e3 : (n - 1) * k + k = n * k := by rw [← Nat.succ_mul]; congr 1; omega
  have e4 : i * k + (n - (i + 1)) * k = (n - 1) * k := by rw [← Nat.add_mul]; congr 1; omega
  have hdl : (xs.drop ((i + 1) * k)).length = (n - (i + 1)) * k := by rw [List.length_drop, hlen]; omega
  have hnews : ∀ q u, (xs.drop ((i + 1) * k))[q]? = some u → w.cell? (a.add q) = some u := fun q u hu => by
    have hq : q < (n - (i + 1)) * k := by rw [← hdl]; exact (List.getElem?_eq_some_iff.1 hu).1
    have hin : i + 1 < n := by
      rcases Nat.lt_or_ge (i + 1) n with h | h
      · exact h
      · have : n - (i + 1) = 0 := by omega
        rw [this] at hq; simp at hq
    rw [ha hin, add_plain, h.cellAt _ (by omega)]
    rw [List.getElem?_drop] at hu
    exact hu
  have hrun := run_append_room (P := Try.prog) w t ty e j ht hj g i c cur hg a (n - (i + 1)) c' (xs.drop ((i + 1) * k)) (by rw [hk]; exact hdl) hnews (fun u hu => h1 u (List.mem_of_mem_drop hu)) (by omega) (by rw [hk, hdl]; omega)
  rw [show i + (n - (i + 1)) = n - 1 by omega, hk, hdl, e4] at hrun
  refine ⟨_, hrun, ⟨?_, .inr ⟨g, c, _, rfl, hbg, setRow_heap w g cur _ e (0, 0) hg, hnc, hcm, ?_, ?_⟩⟩, grown_setRow w g _⟩
  · have l2 : (xs.take (i * k)).length = i * k := by rw [List.length_take, hlen]; omega
    have l3 : (xs.drop ((n - 1) * k)).length = k := by rw [List.length_drop, hlen]; omega
    rw [List.length_append, List.length_append, l2, l3, hdl]; omega
  · have l2 : (cur.toList.take (i * k)).length = i * k := by rw [List.length_take, Array.length_toList]; omega
    rw [List.size_toArray, List.length_append, List.length_append, l2, hdl, List.length_drop, Array.length_toList]
    omega
  · have ht1 : cur.toList.take (i * k) = xs.take (i * k) := by rw [← htake, List.take_take, Nat.min_eq_left (by omega)]
    have ht2 : (cur.toList.drop ((n - 1) * k)).take k = xs.drop ((n - 1) * k) := by rw [← htake, List.drop_take]; congr 1; omega
    rw [ht1]
    simp only []
    rw [List.append_assoc, List.take_append, List.take_append]
    have l1 : (xs.take (i * k)).length = i * k := by rw [List.length_take, hlen]; omega
    rw [l1, hdl, show (xs.take (i * k)).take (n * k) = xs.take (i * k) from List.take_of_length_le (by rw [l1]; omega), show (xs.drop ((i + 1) * k)).take (n * k - i * k) = xs.drop ((i + 1) * k) from List.take_of_length_le (by rw [hdl]; omega), ← ht2, show n * k - i * k - (n - (i + 1)) * k = k by omega]

theorem Try.infoTh : (Try.prog.info? 64).map (fun i => (i.zero, i.size, i.bytes)) = some (some (.agg #[.slice none 0 0, .bool false]), 2, 32) := by kernel_rfl

set_option maxHeartbeats 1600000 in
theorem delete_walk (g n c base i j m : Nat) (xs : List Value) (w : World) (hij : Hid (j = i + 1)) (hmn : Hid (m = n - 1)) (hi : i < j) (hjn : j ≤ n) (hm : m < n) (hnc : n ≤ c) (hcm : c ≤ maxLen) (hn : n ≤ 4096) (h1 : ∀ u ∈ xs, u.oneCell' = true) (h : w.ownsRow base 64 2 (.slice (some ⟨g, 0, none⟩) n c) n xs) :
    Calls Try.prog 28 #[.slice (some ⟨g, 0, none⟩) n c, .int .i64 (i : Int), .int .i64 (j : Int)] w fun e w' =>
      e = .returned (.slice (some ⟨g, 0, none⟩) m c) ∧ w'.ownsRow base 64 2 (.slice (some ⟨g, 0, none⟩) m c) m (xs.take (i * 2) ++ xs.drop (j * 2)) ∧ w.grownBy w' (some g) := by
  obtain ⟨j0, hj, hz0, hz1, hz2⟩ := info_parts Try.infoTh
  have hlen := h.1
  have hX : ∀ (a : Addr) (c' : Nat), (j < n → a = ⟨g, j * 2, none⟩) → ∃ w1 w2, (Builtin.append_ #[52, 52] 52 #[.slice (some ⟨g, 0, none⟩) i c, .slice (some a) (n - j) c']).run Try.prog w.drew = .ok (.slice (some ⟨g, 0, none⟩) m c) w1 ∧
      (Builtin.clear_ #[52] 0 #[.slice (some ⟨g, m * 2, none⟩) (n - m) (c - m)]).run Try.prog w1 = .ok (.tuple #[]) w2 ∧ w2.ownsRow base 64 2 (.slice (some ⟨g, 0, none⟩) m c) m (xs.take (i * 2) ++ xs.drop (j * 2)) ∧ w.grownBy w2 (some g) := fun a c' ha => by
    have e1 := hij.out
    have e2 := hmn.out
    subst e1 e2
    obtain ⟨w1, hr1, ho1, hg1⟩ := own_cutout (w := w.drew) (t := 52) (ty := 52) Try.underlying52 hj hz1 (by omega) h h1 a c' ha
    obtain ⟨w2, hr2, ho2, hg2⟩ := clear_own (k := 2) (ty := 0) (i := n - 1) Try.underlying52 Try.zeroValue64 rfl (by simp [Value.cells, Value.oneCell']) (by decide) (by omega) (c - (n - 1)) ho1
    refine ⟨w1, w2, hr1, hr2, ?_, (show w.grownBy w1 (some g) from ⟨hg1.os, hg1.tape, hg1.output, hg1.size, hg1.block⟩).trans hg2⟩
    have l1 : (xs.take (i * 2) ++ xs.drop ((i + 1) * 2)).length = (n - 1) * 2 := by rw [List.length_append, List.length_take, List.length_drop, hlen]; omega
    rw [← List.append_assoc, ← l1, List.take_left'] at ho2
    · exact ho2
    · rfl
  clear h hlen
  have hcl : (c : Int) ≤ 9223372036854775807 := by unfold maxLen at hcm; omega
  have hij2 : ((i : Int) == (j : Int)) = false := by simp; omega
  have f1 : i ≤ c := by omega
  have f2 : j ≤ c := by omega
  have f3 : m ≤ n := by omega
  have f4 : ¬ c = m := by omega
  have f5 : i ≤ j := by omega
  have f6 : i ≤ n := by omega
  by_cases hcj : c = j
  · obtain rfl : n = c := by omega
    subst hcj
    obtain ⟨w1, w2, hr1, hr2, ho, hg⟩ := hX ⟨g, 0, none⟩ 0 (by omega)
    rw [Nat.sub_self] at hr1
    have HO := Lib.hid ho
    have HG := Lib.hid hg
    clear hX ho hg
    go_enter Try.func28, Try.ntmps28
    go_wp2_with fail
    refine wp_region_held_drew (S := fun _ => True) (by kernel_rfl) trivial (fun hHeld => ?_)
    refine wpAnyH_takeAt (i := 0) (d := 20) (v := ?_) rfl rfl (by kernel_rfl) (by kernel_rfl) (by kernel_rfl) (fun _ _ _ h => h) (Or.inl ⟨by rfl, ?_⟩) hHeld ?_
    rotate_left
    · (intro _ hSw; go_simp; try with_reducible rfl)
    simp only [List.setIfInBounds_toArray, List.set_cons_zero, List.set_cons_succ]
    refine wpAnyH_takeAt (i := 1) (d := 21) (v := ?_) rfl rfl (by kernel_rfl) (by kernel_rfl) (by kernel_rfl) (fun _ _ _ h => h) (Or.inl ⟨by rfl, ?_⟩) hHeld ?_
    rotate_left
    · (intro _ hSw; go_simp; try with_reducible rfl)
    simp only [List.setIfInBounds_toArray, List.set_cons_zero, List.set_cons_succ]
    refine wpAnyH_takeAt (i := 2) (d := 22) (v := ?_) rfl rfl (by kernel_rfl) (by kernel_rfl) (by kernel_rfl) (fun _ _ _ h => h) (Or.inl ⟨by rfl, ?_⟩) hHeld ?_
    rotate_left
    · (intro _ hSw; go_simp; try with_reducible rfl)
    simp only [List.setIfInBounds_toArray, List.set_cons_zero, List.set_cons_succ]
    refine wpAnyH_takeAt (i := 3) (d := 23) (v := ?_) rfl rfl (by kernel_rfl) (by kernel_rfl) (by kernel_rfl) (fun _ _ _ h => h) (Or.inl ⟨by rfl, ?_⟩) hHeld ?_
    rotate_left
    · (intro _ hSw; go_simp; try with_reducible rfl)
    simp only [List.setIfInBounds_toArray, List.set_cons_zero, List.set_cons_succ]
    refine wpAnyH_takeAt (i := 4) (d := 24) (v := ?_) rfl rfl (by kernel_rfl) (by kernel_rfl) (by kernel_rfl) (fun _ _ _ h => h) (Or.inl ⟨by rfl, ?_⟩) hHeld ?_
    rotate_left
    · (intro _ hSw; go_simp; try with_reducible rfl)
    simp only [List.setIfInBounds_toArray, List.set_cons_zero, List.set_cons_succ]
    refine wpAnyH_takeAt (i := 5) (d := 25) (v := ?_) rfl rfl (by kernel_rfl) (by kernel_rfl) (by kernel_rfl) (fun _ _ _ h => h) (Or.inl ⟨by rfl, ?_⟩) hHeld ?_
    rotate_left
    · (intro _ hSw; go_simp; try with_reducible rfl)
    simp only [List.setIfInBounds_toArray, List.set_cons_zero, List.set_cons_succ]
    refine wpAnyH_ready (rs := [6]) (by kernel_rfl) (by simp) ?_
    refine AllReadyH.cons rfl (fun K hK => ?_) AllReadyH.nil
    refine wp_append_step (s := .tmp 22) (x := .tmp 25) (t := 52) rfl rfl rfl rfl hr1 ?_
    go_simp
    refine hK.out _ _ trivial (fun hHeld => ?_)
    clear hK K
    refine wpAnyH_takeAt (i := 7) (d := 0) (v := ?_) rfl rfl (by kernel_rfl) (by kernel_rfl) (by kernel_rfl) (fun _ _ _ h => h) (Or.inl ⟨by rfl, ?_⟩) hHeld ?_
    rotate_left
    · (intro _ hSw; go_simp; try with_reducible rfl)
    simp only [List.setIfInBounds_toArray, List.set_cons_zero]
    refine wpAnyH_done (by kernel_rfl) ?_ _
    go_wp2
    go_ret
    exact ⟨rfl, HO.out, HG.out⟩
  · obtain ⟨w1, w2, hr1, hr2, ho, hg⟩ := hX ⟨g, j * 2, none⟩ (c - j) (fun _ => rfl)
    have HO := Lib.hid ho
    have HG := Lib.hid hg
    clear hX ho hg
    go_enter Try.func28, Try.ntmps28
    go_wp2_with fail
    refine wp_region_held_drew (S := fun _ => True) (by kernel_rfl) trivial (fun hHeld => ?_)
    refine wpAnyH_takeAt (i := 0) (d := 20) (v := ?_) rfl rfl (by kernel_rfl) (by kernel_rfl) (by kernel_rfl) (fun _ _ _ h => h) (Or.inl ⟨by rfl, ?_⟩) hHeld ?_
    rotate_left
    · (intro _ hSw; go_simp; try with_reducible rfl)
    simp only [List.setIfInBounds_toArray, List.set_cons_zero, List.set_cons_succ]
    refine wpAnyH_takeAt (i := 1) (d := 21) (v := ?_) rfl rfl (by kernel_rfl) (by kernel_rfl) (by kernel_rfl) (fun _ _ _ h => h) (Or.inl ⟨by rfl, ?_⟩) hHeld ?_
    rotate_left
    · (intro _ hSw; go_simp; try with_reducible rfl)
    simp only [List.setIfInBounds_toArray, List.set_cons_zero, List.set_cons_succ]
    refine wpAnyH_takeAt (i := 2) (d := 22) (v := ?_) rfl rfl (by kernel_rfl) (by kernel_rfl) (by kernel_rfl) (fun _ _ _ h => h) (Or.inl ⟨by rfl, ?_⟩) hHeld ?_
    rotate_left
    · (intro _ hSw; go_simp; try with_reducible rfl)
    simp only [List.setIfInBounds_toArray, List.set_cons_zero, List.set_cons_succ]
    refine wpAnyH_takeAt (i := 3) (d := 23) (v := ?_) rfl rfl (by kernel_rfl) (by kernel_rfl) (by kernel_rfl) (fun _ _ _ h => h) (Or.inl ⟨by rfl, ?_⟩) hHeld ?_
    rotate_left
    · (intro _ hSw; go_simp; try with_reducible rfl)
    simp only [List.setIfInBounds_toArray, List.set_cons_zero, List.set_cons_succ]
    refine wpAnyH_takeAt (i := 4) (d := 24) (v := ?_) rfl rfl (by kernel_rfl) (by kernel_rfl) (by kernel_rfl) (fun _ _ _ h => h) (Or.inl ⟨by rfl, ?_⟩) hHeld ?_
    rotate_left
    · (intro _ hSw; go_simp; try with_reducible rfl)
    simp only [List.setIfInBounds_toArray, List.set_cons_zero, List.set_cons_succ]
    refine wpAnyH_takeAt (i := 5) (d := 25) (v := ?_) rfl rfl (by kernel_rfl) (by kernel_rfl) (by kernel_rfl) (fun _ _ _ h => h) (Or.inl ⟨by rfl, ?_⟩) hHeld ?_
    rotate_left
    · (intro _ hSw; go_simp; try with_reducible rfl)
    simp only [List.setIfInBounds_toArray, List.set_cons_zero, List.set_cons_succ]
    refine wpAnyH_ready (rs := [6]) (by kernel_rfl) (by simp) ?_
    refine AllReadyH.cons rfl (fun K hK => ?_) AllReadyH.nil
    refine wp_append_step (s := .tmp 22) (x := .tmp 25) (t := 52) rfl rfl rfl rfl hr1 ?_
    go_simp
    refine hK.out _ _ trivial (fun hHeld => ?_)
    clear hK K
    refine wpAnyH_takeAt (i := 7) (d := 0) (v := ?_) rfl rfl (by kernel_rfl) (by kernel_rfl) (by kernel_rfl) (fun _ _ _ h => h) (Or.inl ⟨by rfl, ?_⟩) hHeld ?_
    rotate_left
    · (intro _ hSw; go_simp; try with_reducible rfl)
    simp only [List.setIfInBounds_toArray, List.set_cons_zero]
    refine wpAnyH_done (by kernel_rfl) ?_ _
    go_wp2
    go_ret
    exact ⟨rfl, HO.out, HG.out⟩

theorem delete_any (g n c base i : Nat) (xs : List Value) (w : World) (hi : i < n) (hnc : n ≤ c) (hcm : c ≤ maxLen) (hn : n ≤ 4096) (h1 : ∀ u ∈ xs, u.oneCell' = true) (h : w.ownsRow base 64 2 (.slice (some ⟨g, 0, none⟩) n c) n xs) :
    Calls Try.prog 28 #[.slice (some ⟨g, 0, none⟩) n c, .int .i64 (i : Int), .int .i64 ((i : Int) + 1)] w fun e w' =>
      e = .returned (.slice (some ⟨g, 0, none⟩) (n - 1) c) ∧ w'.ownsRow base 64 2 (.slice (some ⟨g, 0, none⟩) (n - 1) c) (n - 1) (xs.take (i * 2) ++ xs.drop ((i + 1) * 2)) ∧ w.grownBy w' (some g) :=
  delete_walk g n c base i (i + 1) (n - 1) xs w rfl rfl (by omega) (by omega) (by omega) hnc hcm hn h1 h

end Go.Proofs.Ytjecphjdmjoeiaa
