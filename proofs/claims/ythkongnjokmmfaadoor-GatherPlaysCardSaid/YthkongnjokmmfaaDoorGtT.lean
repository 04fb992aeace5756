/- Stage 13: slices.Delete of the first parts. -/
import Derived.Test.YthkongnjokmmfaaDoorGtS
namespace Go.Proofs.YthkongnjokmmfaaDoor
open Go.RowKit Go.Sort
set_option maxRecDepth 20000

/-- append(s[:0], s[j:]...) in the block of s itself. -/
theorem own_shift {base k g n c j : Nat} {e t ty : TypeId} {i : TypeInfo} {w : World} {xs : List Value} (ht : Tryd.prog.underlying t = some (.slice e)) (hi : Tryd.prog.info? e = some i) (hk : i.size = k) (hj : j ≤ n)
    (h : w.ownsRow base e k (.slice (some ⟨g, 0, none⟩) n c) n xs) (h1 : ∀ u ∈ xs, u.oneCell' = true) (a : Addr) (c' : Nat) (ha : j < n → a = ⟨g, j * k, none⟩) :
    ∃ w', (Builtin.append_ #[t, t] ty #[.slice (some ⟨g, 0, none⟩) 0 c, .slice (some a) (n - j) c']).run Tryd.prog w = .ok (.slice (some ⟨g, 0, none⟩) (n - j) c) w' ∧
      w'.ownsRow base e k (.slice (some ⟨g, 0, none⟩) n c) n (xs.drop (j * k) ++ xs.drop ((n - j) * k)) ∧ w.grownBy w' (some g) := by
  have hlen := h.1
  rcases h.2 with ⟨h0, _⟩ | ⟨g', cap, cur, hv, hbg, hg, hnc, hcm, hcs, htake⟩
  · simp at h0
  simp only [Value.slice.injEq, Option.some.injEq, Addr.mk.injEq, and_true, true_and] at hv
  obtain ⟨rfl, rfl⟩ := hv
  have hck : n * k ≤ cur.size := by rw [hcs]; exact Nat.mul_le_mul_right k hnc
  have e2 : j * k + (n - j) * k = n * k := by rw [← Nat.add_mul]; congr 1; omega
  have e3 : (n - j) * k + j * k = n * k := by rw [← Nat.add_mul]; congr 1; omega
  have hdl : (xs.drop (j * k)).length = (n - j) * k := by rw [List.length_drop, hlen]; omega
  have hnews : ∀ q u, (xs.drop (j * k))[q]? = some u → w.cell? (a.add q) = some u := fun q u hu => by
    have hq : q < (n - j) * k := by rw [← hdl]; exact (List.getElem?_eq_some_iff.1 hu).1
    have hin : j < n := by
      rcases Nat.lt_or_ge j n with h | h
      · exact h
      · have : n - j = 0 := by omega
        rw [this] at hq; simp at hq
    rw [ha hin, add_plain, h.cellAt _ (by omega)]
    rw [List.getElem?_drop] at hu
    exact hu
  have hrun := run_append_room (P := Tryd.prog) w t ty e i ht hi g 0 c cur hg a (n - j) c' (xs.drop (j * k)) (by rw [hk]; exact hdl) hnews (fun u hu => h1 u (List.mem_of_mem_drop hu)) (by omega) (by rw [hk, hdl]; omega)
  rw [Nat.zero_add, hk, hdl, Nat.zero_mul, Nat.zero_add, List.take_zero, List.nil_append] at hrun
  refine ⟨_, hrun, ⟨?_, .inr ⟨g, c, _, rfl, hbg, setRow_heap w g cur _ e (0, 0) hg, hnc, hcm, ?_, ?_⟩⟩, grown_setRow w g _⟩
  · have l3 : (xs.drop ((n - j) * k)).length = j * k := by rw [List.length_drop, hlen]; omega
    rw [List.length_append, l3, hdl]; omega
  · rw [List.size_toArray, List.length_append, hdl, List.length_drop, Array.length_toList]
    omega
  · have ht2 : (cur.toList.drop ((n - j) * k)).take (j * k) = xs.drop ((n - j) * k) := by rw [← htake, List.drop_take]; congr 1; omega
    simp only []
    rw [List.take_append, hdl, show (xs.drop (j * k)).take (n * k) = xs.drop (j * k) from List.take_of_length_le (by rw [hdl]; omega), ← ht2, show n * k - (n - j) * k = j * k by omega]

theorem Tryd.infoPz : (Tryd.prog.info? 75).map (fun i => (i.zero, i.size, i.bytes)) = some (some (.pointer none), 1, 8) := by kernel_rfl

set_option maxHeartbeats 1600000 in
theorem delete_walk (g n c base i j m : Nat) (xs : List Value) (w : World) (hi0 : Hid (i = 0)) (hmn : Hid (m = n - j)) (hi : i < j) (hjn : j ≤ n) (hm : m < n) (hnc : n ≤ c) (hcm : c ≤ maxLen) (hn : n ≤ 1000000) (h1 : ∀ u ∈ xs, u.oneCell' = true) (h : w.ownsRow base 75 1 (.slice (some ⟨g, 0, none⟩) n c) n xs) :
    Calls Tryd.prog 52 #[.slice (some ⟨g, 0, none⟩) n c, .int .i64 (i : Int), .int .i64 (j : Int)] w fun e w' =>
      e = .returned (.slice (some ⟨g, 0, none⟩) m c) ∧ w'.ownsRow base 75 1 (.slice (some ⟨g, 0, none⟩) m c) m (xs.drop j) ∧ w.grownBy w' (some g) := by
  obtain ⟨j0, hj, hz0, hz1, hz2⟩ := info_parts Tryd.infoPz
  have hlen := h.1
  have hX : ∀ (a : Addr) (c' : Nat), (j < n → a = ⟨g, j, none⟩) → ∃ w1 w2, (Builtin.append_ #[62, 62] 62 #[.slice (some ⟨g, 0, none⟩) i c, .slice (some a) (n - j) c']).run Tryd.prog w.drew = .ok (.slice (some ⟨g, 0, none⟩) m c) w1 ∧
      (Builtin.clear_ #[62] 0 #[.slice (some ⟨g, m, none⟩) (n - m) (c - m)]).run Tryd.prog w1 = .ok (.tuple #[]) w2 ∧ w2.ownsRow base 75 1 (.slice (some ⟨g, 0, none⟩) m c) m (xs.drop j) ∧ w.grownBy w2 (some g) := fun a c' ha => by
    have e1 := hi0.out
    have e2 := hmn.out
    subst e1 e2
    obtain ⟨w1, hr1, ho1, hg1⟩ := own_shift (w := w.drew) (t := 62) (ty := 62) Tryd.underlying62 hj hz1 hjn h h1 a c' (fun hh => by rw [Nat.mul_one]; exact ha hh)
    rw [Nat.mul_one, Nat.mul_one] at ho1
    obtain ⟨w2, hr2, ho2, hg2⟩ := clear_own (k := 1) (ty := 0) (i := n - j) Tryd.underlying62 Tryd.zeroValue75 rfl (by simp [Value.cells, Value.oneCell']) (by decide) (by omega) (c - (n - j)) ho1
    rw [Nat.mul_one] at hr2 ho2
    refine ⟨w1, w2, hr1, hr2, ?_, (show w.grownBy w1 (some g) from ⟨hg1.os, hg1.tape, hg1.output, hg1.size, hg1.block⟩).trans hg2⟩
    have l1 : (xs.drop j).length = n - j := by rw [List.length_drop, hlen]; omega
    rw [List.take_left' l1] at ho2
    exact ho2
  clear h hlen
  have hcl : (c : Int) ≤ 9223372036854775807 := by unfold maxLen at hcm; omega
  have hij2 : ((i : Int) == (j : Int)) = false := by simp; omega
  have f1 : i ≤ c := by omega
  have f2 : j ≤ c := by omega
  have f3 : m ≤ n := by omega
  have f4 : ¬ c = m := by omega
  have f5 : i ≤ j := by omega
  have f6 : i ≤ n := by omega

  by_cases hcj : c = j
  · obtain rfl : n = c := by omega
    subst hcj
    obtain ⟨w1, w2, hr1, hr2, ho, hg⟩ := hX ⟨g, 0, none⟩ 0 (by omega)
    rw [Nat.sub_self] at hr1
    have HO := Lib.hid ho
    have HG := Lib.hid hg
    clear hX ho hg
    go_enter Tryd.func52, Tryd.ntmps52
    go_wp2_with fail
    refine wp_region_held_drew (S := fun _ => True) (by kernel_rfl) trivial (fun hHeld => ?_)
    refine wpAnyH_takeAt (i := 0) (d := 20) (v := ?_) rfl rfl (by kernel_rfl) (by kernel_rfl) (by kernel_rfl) (fun _ _ _ h => h) (Or.inl ⟨by rfl, ?_⟩) hHeld ?_
    rotate_left
    · (intro _ hSw; go_simp; try with_reducible rfl)
    simp only [List.setIfInBounds_toArray, List.set_cons_zero, List.set_cons_succ]
    refine wpAnyH_takeAt (i := 1) (d := 21) (v := ?_) rfl rfl (by kernel_rfl) (by kernel_rfl) (by kernel_rfl) (fun _ _ _ h => h) (Or.inl ⟨by rfl, ?_⟩) hHeld ?_
    rotate_left
    · (intro _ hSw; go_simp; try with_reducible rfl)
    simp only [List.setIfInBounds_toArray, List.set_cons_zero, List.set_cons_succ]
    refine wpAnyH_takeAt (i := 2) (d := 22) (v := ?_) rfl rfl (by kernel_rfl) (by kernel_rfl) (by kernel_rfl) (fun _ _ _ h => h) (Or.inl ⟨by rfl, ?_⟩) hHeld ?_
    rotate_left
    · (intro _ hSw; go_simp; try with_reducible rfl)
    simp only [List.setIfInBounds_toArray, List.set_cons_zero, List.set_cons_succ]
    refine wpAnyH_takeAt (i := 3) (d := 23) (v := ?_) rfl rfl (by kernel_rfl) (by kernel_rfl) (by kernel_rfl) (fun _ _ _ h => h) (Or.inl ⟨by rfl, ?_⟩) hHeld ?_
    rotate_left
    · (intro _ hSw; go_simp; try with_reducible rfl)
    simp only [List.setIfInBounds_toArray, List.set_cons_zero, List.set_cons_succ]
    refine wpAnyH_takeAt (i := 4) (d := 24) (v := ?_) rfl rfl (by kernel_rfl) (by kernel_rfl) (by kernel_rfl) (fun _ _ _ h => h) (Or.inl ⟨by rfl, ?_⟩) hHeld ?_
    rotate_left
    · (intro _ hSw; go_simp; try with_reducible rfl)
    simp only [List.setIfInBounds_toArray, List.set_cons_zero, List.set_cons_succ]
    refine wpAnyH_takeAt (i := 5) (d := 25) (v := ?_) rfl rfl (by kernel_rfl) (by kernel_rfl) (by kernel_rfl) (fun _ _ _ h => h) (Or.inl ⟨by rfl, ?_⟩) hHeld ?_
    rotate_left
    · (intro _ hSw; go_simp; try with_reducible rfl)
    simp only [List.setIfInBounds_toArray, List.set_cons_zero, List.set_cons_succ]
    refine wpAnyH_ready (rs := [6]) (by kernel_rfl) (by simp) ?_
    refine AllReadyH.cons rfl (fun K hK => ?_) AllReadyH.nil
    refine wp_append_step (s := .tmp 22) (x := .tmp 25) (t := 62) rfl rfl rfl rfl hr1 ?_
    go_simp
    refine hK.out _ _ trivial (fun hHeld => ?_)
    clear hK K
    refine wpAnyH_takeAt (i := 7) (d := 0) (v := ?_) rfl rfl (by kernel_rfl) (by kernel_rfl) (by kernel_rfl) (fun _ _ _ h => h) (Or.inl ⟨by rfl, ?_⟩) hHeld ?_
    rotate_left
    · (intro _ hSw; go_simp; try with_reducible rfl)
    simp only [List.setIfInBounds_toArray, List.set_cons_zero]
    refine wpAnyH_done (by kernel_rfl) ?_ _
    go_wp2
    go_ret
    exact ⟨rfl, HO.out, HG.out⟩
  · obtain ⟨w1, w2, hr1, hr2, ho, hg⟩ := hX ⟨g, j, none⟩ (c - j) (fun _ => rfl)
    have HO := Lib.hid ho
    have HG := Lib.hid hg
    clear hX ho hg
    go_enter Tryd.func52, Tryd.ntmps52
    go_wp2_with fail
    refine wp_region_held_drew (S := fun _ => True) (by kernel_rfl) trivial (fun hHeld => ?_)
    refine wpAnyH_takeAt (i := 0) (d := 20) (v := ?_) rfl rfl (by kernel_rfl) (by kernel_rfl) (by kernel_rfl) (fun _ _ _ h => h) (Or.inl ⟨by rfl, ?_⟩) hHeld ?_
    rotate_left
    · (intro _ hSw; go_simp; try with_reducible rfl)
    simp only [List.setIfInBounds_toArray, List.set_cons_zero, List.set_cons_succ]
    refine wpAnyH_takeAt (i := 1) (d := 21) (v := ?_) rfl rfl (by kernel_rfl) (by kernel_rfl) (by kernel_rfl) (fun _ _ _ h => h) (Or.inl ⟨by rfl, ?_⟩) hHeld ?_
    rotate_left
    · (intro _ hSw; go_simp; try with_reducible rfl)
    simp only [List.setIfInBounds_toArray, List.set_cons_zero, List.set_cons_succ]
    refine wpAnyH_takeAt (i := 2) (d := 22) (v := ?_) rfl rfl (by kernel_rfl) (by kernel_rfl) (by kernel_rfl) (fun _ _ _ h => h) (Or.inl ⟨by rfl, ?_⟩) hHeld ?_
    rotate_left
    · (intro _ hSw; go_simp; try with_reducible rfl)
    simp only [List.setIfInBounds_toArray, List.set_cons_zero, List.set_cons_succ]
    refine wpAnyH_takeAt (i := 3) (d := 23) (v := ?_) rfl rfl (by kernel_rfl) (by kernel_rfl) (by kernel_rfl) (fun _ _ _ h => h) (Or.inl ⟨by rfl, ?_⟩) hHeld ?_
    rotate_left
    · (intro _ hSw; go_simp; try with_reducible rfl)
    simp only [List.setIfInBounds_toArray, List.set_cons_zero, List.set_cons_succ]
    refine wpAnyH_takeAt (i := 4) (d := 24) (v := ?_) rfl rfl (by kernel_rfl) (by kernel_rfl) (by kernel_rfl) (fun _ _ _ h => h) (Or.inl ⟨by rfl, ?_⟩) hHeld ?_
    rotate_left
    · (intro _ hSw; go_simp; try with_reducible rfl)
    simp only [List.setIfInBounds_toArray, List.set_cons_zero, List.set_cons_succ]
    refine wpAnyH_takeAt (i := 5) (d := 25) (v := ?_) rfl rfl (by kernel_rfl) (by kernel_rfl) (by kernel_rfl) (fun _ _ _ h => h) (Or.inl ⟨by rfl, ?_⟩) hHeld ?_
    rotate_left
    · (intro _ hSw; go_simp; try with_reducible rfl)
    simp only [List.setIfInBounds_toArray, List.set_cons_zero, List.set_cons_succ]
    refine wpAnyH_ready (rs := [6]) (by kernel_rfl) (by simp) ?_
    refine AllReadyH.cons rfl (fun K hK => ?_) AllReadyH.nil
    refine wp_append_step (s := .tmp 22) (x := .tmp 25) (t := 62) rfl rfl rfl rfl hr1 ?_
    go_simp
    refine hK.out _ _ trivial (fun hHeld => ?_)
    clear hK K
    refine wpAnyH_takeAt (i := 7) (d := 0) (v := ?_) rfl rfl (by kernel_rfl) (by kernel_rfl) (by kernel_rfl) (fun _ _ _ h => h) (Or.inl ⟨by rfl, ?_⟩) hHeld ?_
    rotate_left
    · (intro _ hSw; go_simp; try with_reducible rfl)
    simp only [List.setIfInBounds_toArray, List.set_cons_zero]
    refine wpAnyH_done (by kernel_rfl) ?_ _
    go_wp2
    go_ret
    exact ⟨rfl, HO.out, HG.out⟩

/-- Delete of the first j, none let in. -/
theorem delete_any (base : Nat) (A : Option Addr) (n c j : Nat) (L : List Pz) (w : World) (hl : L.length = n) (hj : j ≤ n) (hn : n ≤ 1000000) (h : w.ownsRow base 75 1 (.slice A n c) n (flat encPz L)) :
    Calls Tryd.prog 52 #[.slice A n c, .int .i64 0, .int .i64 (j : Int)] w fun e w' =>
      e = .returned (.slice A (n - j) c) ∧ w'.ownsRow base 75 1 (.slice A (n - j) c) (n - j) (flat encPz (L.drop j)) ∧ OnlyE w w' (fun k => (Value.slice A n c).ownBlock = some k) := by
  obtain ⟨A', c', hv, hnc, hcm⟩ := own_sliceK h
  obtain ⟨rfl, rfl⟩ : A = A' ∧ c = c' := by injection hv with e1 _ e3; exact ⟨e1, e3⟩
  clear hv
  by_cases h0 : j = 0
  · subst h0
    have H := Lib.hid h
    clear h
    have hcl : (c : Int) ≤ 9223372036854775807 := by unfold maxLen at hcm; omega
    go_enter Tryd.func52, Tryd.ntmps52
    go_wp2
    go_ret
    exact ⟨rfl, H.out, OnlyE.refl _ _⟩
  · obtain ⟨g, cap, hv, hbg, hlt⟩ := h.form (by omega)
    obtain ⟨rfl, rfl⟩ : A = some ⟨g, 0, none⟩ ∧ c = cap := by injection hv with e1 _ e3; exact ⟨e1, e3⟩
    refine (delete_walk g n c base 0 j (n - j) (flat encPz L) w rfl rfl (by omega) hj (by omega) hnc hcm hn (flat_one encPz_one L) h).mono ?_
    rintro e w' ⟨rfl, ho, hg⟩
    refine ⟨rfl, ?_, OnlyE.of_grown hg rfl⟩
    have := flat_drop encPz_len L j (by omega)
    rw [Nat.mul_one] at this
    rw [this] at ho
    exact ho

end Go.Proofs.YthkongnjokmmfaaDoor
