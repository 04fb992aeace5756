/- Stage 16: slices.Delete of the first places. -/
import Derived.Test.YtmnjedpnhilndaaReH
set_option maxRecDepth 20000
namespace Go.Proofs.Ytmnjedpnhilndaa
open Go.RowKit Go.Sort

set_option maxHeartbeats 1600000 in
theorem delete_walk (g n c base i j m : Nat) (xs : List Value) (w : World) (hi0 : Hid (i = 0)) (hmn : Hid (m = n - j)) (hi : i < j) (hjn : j ≤ n) (hm : m < n) (hnc : n ≤ c) (hcm : c ≤ maxLen) (hn : n ≤ 4096) (h1 : ∀ u ∈ xs, u.oneCell' = true) (h : w.ownsRow base 69 3 (.slice (some ⟨g, 0, none⟩) n c) n xs) :
    Calls Try.prog 25 #[.slice (some ⟨g, 0, none⟩) n c, .int .i64 (i : Int), .int .i64 (j : Int)] w fun e w' =>
      e = .returned (.slice (some ⟨g, 0, none⟩) m c) ∧ w'.ownsRow base 69 3 (.slice (some ⟨g, 0, none⟩) m c) m (xs.drop (j * 3)) ∧ w.grownBy w' (some g) := by
  obtain ⟨j0, hj, hz0, hz1, hz2⟩ := info_parts Try.infoPl
  have hlen := h.1
  have hX : ∀ (a : Addr) (c' : Nat), (j < n → a = ⟨g, j * 3, none⟩) → ∃ w1 w2, (Builtin.append_ #[61, 61] 61 #[.slice (some ⟨g, 0, none⟩) i c, .slice (some a) (n - j) c']).run Try.prog w.drew = .ok (.slice (some ⟨g, 0, none⟩) m c) w1 ∧
      (Builtin.clear_ #[61] 0 #[.slice (some ⟨g, m * 3, none⟩) (n - m) (c - m)]).run Try.prog w1 = .ok (.tuple #[]) w2 ∧ w2.ownsRow base 69 3 (.slice (some ⟨g, 0, none⟩) m c) m (xs.drop (j * 3)) ∧ w.grownBy w2 (some g) := fun a c' ha => by
    have e1 := hi0.out
    have e2 := hmn.out
    subst e1 e2
    obtain ⟨w1, hr1, ho1, hg1⟩ := own_shift (w := w.drew) (t := 61) (ty := 61) Try.underlying61 hj hz1 hjn h h1 a c' ha
    obtain ⟨w2, hr2, ho2, hg2⟩ := clear_own (k := 3) (ty := 0) (i := n - j) Try.underlying61 Try.zeroValue69 rfl (by simp [Value.cells, Value.oneCell']) (by decide) (by omega) (c - (n - j)) ho1
    refine ⟨w1, w2, hr1, hr2, ?_, (show w.grownBy w1 (some g) from ⟨hg1.os, hg1.tape, hg1.output, hg1.size, hg1.block⟩).trans hg2⟩
    have l1 : (xs.drop (j * 3)).length = (n - j) * 3 := by rw [List.length_drop, hlen]; omega
    rw [← l1, List.take_left'] at ho2
    · exact ho2
    · rfl
  clear h hlen
  have hcl : (c : Int) ≤ 9223372036854775807 := by unfold maxLen at hcm; omega
  have hij2 : ((i : Int) == (j : Int)) = false := by simp; omega
  have f1 : i ≤ c := by omega
  have f2 : j ≤ c := by omega
  have f3 : m ≤ n := by omega
  have f4 : ¬ c = m := by omega
  have f5 : i ≤ j := by omega
  have f6 : i ≤ n := by omega

  by_cases hcj : c = j
  · obtain rfl : n = c := by omega
    subst hcj
    obtain ⟨w1, w2, hr1, hr2, ho, hg⟩ := hX ⟨g, 0, none⟩ 0 (by omega)
    rw [Nat.sub_self] at hr1
    have HO := Lib.hid ho
    have HG := Lib.hid hg
    clear hX ho hg
    go_enter Try.func25, Try.ntmps25
    go_wp2_with fail
    refine wp_region_held_drew (S := fun _ => True) (by kernel_rfl) trivial (fun hHeld => ?_)
    refine wpAnyH_takeAt (i := 0) (d := 20) (v := ?_) rfl rfl (by kernel_rfl) (by kernel_rfl) (by kernel_rfl) (fun _ _ _ h => h) (Or.inl ⟨by rfl, ?_⟩) hHeld ?_
    rotate_left
    · (intro _ hSw; go_simp; try with_reducible rfl)
    simp only [List.setIfInBounds_toArray, List.set_cons_zero, List.set_cons_succ]
    refine wpAnyH_takeAt (i := 1) (d := 21) (v := ?_) rfl rfl (by kernel_rfl) (by kernel_rfl) (by kernel_rfl) (fun _ _ _ h => h) (Or.inl ⟨by rfl, ?_⟩) hHeld ?_
    rotate_left
    · (intro _ hSw; go_simp; try with_reducible rfl)
    simp only [List.setIfInBounds_toArray, List.set_cons_zero, List.set_cons_succ]
    refine wpAnyH_takeAt (i := 2) (d := 22) (v := ?_) rfl rfl (by kernel_rfl) (by kernel_rfl) (by kernel_rfl) (fun _ _ _ h => h) (Or.inl ⟨by rfl, ?_⟩) hHeld ?_
    rotate_left
    · (intro _ hSw; go_simp; try with_reducible rfl)
    simp only [List.setIfInBounds_toArray, List.set_cons_zero, List.set_cons_succ]
    refine wpAnyH_takeAt (i := 3) (d := 23) (v := ?_) rfl rfl (by kernel_rfl) (by kernel_rfl) (by kernel_rfl) (fun _ _ _ h => h) (Or.inl ⟨by rfl, ?_⟩) hHeld ?_
    rotate_left
    · (intro _ hSw; go_simp; try with_reducible rfl)
    simp only [List.setIfInBounds_toArray, List.set_cons_zero, List.set_cons_succ]
    refine wpAnyH_takeAt (i := 4) (d := 24) (v := ?_) rfl rfl (by kernel_rfl) (by kernel_rfl) (by kernel_rfl) (fun _ _ _ h => h) (Or.inl ⟨by rfl, ?_⟩) hHeld ?_
    rotate_left
    · (intro _ hSw; go_simp; try with_reducible rfl)
    simp only [List.setIfInBounds_toArray, List.set_cons_zero, List.set_cons_succ]
    refine wpAnyH_takeAt (i := 5) (d := 25) (v := ?_) rfl rfl (by kernel_rfl) (by kernel_rfl) (by kernel_rfl) (fun _ _ _ h => h) (Or.inl ⟨by rfl, ?_⟩) hHeld ?_
    rotate_left
    · (intro _ hSw; go_simp; try with_reducible rfl)
    simp only [List.setIfInBounds_toArray, List.set_cons_zero, List.set_cons_succ]
    refine wpAnyH_ready (rs := [6]) (by kernel_rfl) (by simp) ?_
    refine AllReadyH.cons rfl (fun K hK => ?_) AllReadyH.nil
    refine wp_append_step (s := .tmp 22) (x := .tmp 25) (t := 61) rfl rfl rfl rfl hr1 ?_
    go_simp
    refine hK.out _ _ trivial (fun hHeld => ?_)
    clear hK K
    refine wpAnyH_takeAt (i := 7) (d := 0) (v := ?_) rfl rfl (by kernel_rfl) (by kernel_rfl) (by kernel_rfl) (fun _ _ _ h => h) (Or.inl ⟨by rfl, ?_⟩) hHeld ?_
    rotate_left
    · (intro _ hSw; go_simp; try with_reducible rfl)
    simp only [List.setIfInBounds_toArray, List.set_cons_zero]
    refine wpAnyH_done (by kernel_rfl) ?_ _
    go_wp2
    go_ret
    exact ⟨rfl, HO.out, HG.out⟩
  · obtain ⟨w1, w2, hr1, hr2, ho, hg⟩ := hX ⟨g, j * 3, none⟩ (c - j) (fun _ => rfl)
    have HO := Lib.hid ho
    have HG := Lib.hid hg
    clear hX ho hg
    go_enter Try.func25, Try.ntmps25
    go_wp2_with fail
    refine wp_region_held_drew (S := fun _ => True) (by kernel_rfl) trivial (fun hHeld => ?_)
    refine wpAnyH_takeAt (i := 0) (d := 20) (v := ?_) rfl rfl (by kernel_rfl) (by kernel_rfl) (by kernel_rfl) (fun _ _ _ h => h) (Or.inl ⟨by rfl, ?_⟩) hHeld ?_
    rotate_left
    · (intro _ hSw; go_simp; try with_reducible rfl)
    simp only [List.setIfInBounds_toArray, List.set_cons_zero, List.set_cons_succ]
    refine wpAnyH_takeAt (i := 1) (d := 21) (v := ?_) rfl rfl (by kernel_rfl) (by kernel_rfl) (by kernel_rfl) (fun _ _ _ h => h) (Or.inl ⟨by rfl, ?_⟩) hHeld ?_
    rotate_left
    · (intro _ hSw; go_simp; try with_reducible rfl)
    simp only [List.setIfInBounds_toArray, List.set_cons_zero, List.set_cons_succ]
    refine wpAnyH_takeAt (i := 2) (d := 22) (v := ?_) rfl rfl (by kernel_rfl) (by kernel_rfl) (by kernel_rfl) (fun _ _ _ h => h) (Or.inl ⟨by rfl, ?_⟩) hHeld ?_
    rotate_left
    · (intro _ hSw; go_simp; try with_reducible rfl)
    simp only [List.setIfInBounds_toArray, List.set_cons_zero, List.set_cons_succ]
    refine wpAnyH_takeAt (i := 3) (d := 23) (v := ?_) rfl rfl (by kernel_rfl) (by kernel_rfl) (by kernel_rfl) (fun _ _ _ h => h) (Or.inl ⟨by rfl, ?_⟩) hHeld ?_
    rotate_left
    · (intro _ hSw; go_simp; try with_reducible rfl)
    simp only [List.setIfInBounds_toArray, List.set_cons_zero, List.set_cons_succ]
    refine wpAnyH_takeAt (i := 4) (d := 24) (v := ?_) rfl rfl (by kernel_rfl) (by kernel_rfl) (by kernel_rfl) (fun _ _ _ h => h) (Or.inl ⟨by rfl, ?_⟩) hHeld ?_
    rotate_left
    · (intro _ hSw; go_simp; try with_reducible rfl)
    simp only [List.setIfInBounds_toArray, List.set_cons_zero, List.set_cons_succ]
    refine wpAnyH_takeAt (i := 5) (d := 25) (v := ?_) rfl rfl (by kernel_rfl) (by kernel_rfl) (by kernel_rfl) (fun _ _ _ h => h) (Or.inl ⟨by rfl, ?_⟩) hHeld ?_
    rotate_left
    · (intro _ hSw; go_simp; try with_reducible rfl)
    simp only [List.setIfInBounds_toArray, List.set_cons_zero, List.set_cons_succ]
    refine wpAnyH_ready (rs := [6]) (by kernel_rfl) (by simp) ?_
    refine AllReadyH.cons rfl (fun K hK => ?_) AllReadyH.nil
    refine wp_append_step (s := .tmp 22) (x := .tmp 25) (t := 61) rfl rfl rfl rfl hr1 ?_
    go_simp
    refine hK.out _ _ trivial (fun hHeld => ?_)
    clear hK K
    refine wpAnyH_takeAt (i := 7) (d := 0) (v := ?_) rfl rfl (by kernel_rfl) (by kernel_rfl) (by kernel_rfl) (fun _ _ _ h => h) (Or.inl ⟨by rfl, ?_⟩) hHeld ?_
    rotate_left
    · (intro _ hSw; go_simp; try with_reducible rfl)
    simp only [List.setIfInBounds_toArray, List.set_cons_zero]
    refine wpAnyH_done (by kernel_rfl) ?_ _
    go_wp2
    go_ret
    exact ⟨rfl, HO.out, HG.out⟩


theorem delete_none (A : Option Addr) (n c : Nat) (w : World) (hnc : n ≤ c) : Calls Try.prog 25 #[.slice A n c, .int .i64 0, .int .i64 0] w fun e w' => e = .returned (.slice A n c) ∧ w = w' := by
  go_enter Try.func25, Try.ntmps25
  go_wp2
  go_ret
  exact ⟨rfl, rfl⟩

theorem OnlyE.of_grownT {a b : World} {T : Value} (h : a.grownBy b T.ownBlock) : OnlyE a b (fun k => T.ownBlock = some k) := OnlyE.of_grownO h

/-- The first j places go. -/
theorem delete_any {T : Value} {n base j : Nat} {lr : List Pl} {w : World} (hl : lr.length = n) (hn : n ≤ 4096) (hj : j ≤ n) (h : w.ownsRow base 69 3 T n (flat encPl lr)) :
    Calls Try.prog 25 #[T, .int .i64 0, .int .i64 (j : Int)] w fun e w' => ∃ T', e = .returned T' ∧ w'.ownsRow base 69 3 T' (lr.drop j).length (flat encPl (lr.drop j)) ∧ OnlyE w w' (fun k => T.ownBlock = some k) ∧ T'.ownBlock = T.ownBlock := by
  obtain ⟨A, c, rfl, hnc, hcm⟩ := own_sliceK h
  by_cases hj0 : j = 0
  · subst hj0
    refine (delete_none A n c w hnc).mono ?_
    rintro e w' ⟨rfl, rfl⟩
    exact ⟨_, rfl, by rw [List.drop_zero, hl]; exact h, OnlyE.of_below (RowKit.Below.refl _ _), rfl⟩
  · obtain ⟨gg, cap, hv, -, -⟩ := h.form (by omega)
    obtain ⟨rfl, rfl⟩ : A = some ⟨gg, 0, none⟩ ∧ c = cap := by injection hv with e1 _ e3; exact ⟨e1, e3⟩
    refine (delete_walk gg n c base 0 j (n - j) (flat encPl lr) w rfl rfl (by omega) hj (by omega) hnc hcm hn (flat_one encPl_one _) h).mono ?_
    rintro e w' ⟨rfl, h1, h2⟩
    have e1 : (flat encPl lr).drop (j * 3) = flat encPl (lr.drop j) := flat_drop encPl_len lr j (by omega)
    rw [e1] at h1
    refine ⟨_, rfl, ?_, OnlyE.of_grown (D := fun k => (Value.slice (some ⟨gg, 0, none⟩) n c).ownBlock = some k) h2 rfl, rfl⟩
    rw [List.length_drop, hl]
    exact h1

end Go.Proofs.Ytmnjedpnhilndaa
