/- Stage 15: plain mathematics of a ring: who comes behind, the others in order, how far it is. -/
import Derived.Test.YtjpahccpkonjkaaRnA
namespace Go.Proofs.Ytjpahccpkonjkaa

/-- The one behind p. -/
def nxtR (n p : Nat) : Nat := if p + 1 = n then 0 else p + 1
/-- The one k + 1 behind p. -/
def posR (n p k : Nat) : Nat := if p + 1 + k < n then p + 1 + k else p + 1 + k - n
/-- How many steps it is. -/
def stpR (n a b : Nat) : Nat := if a ≤ b then b - a else b + n - a

section
variable {n p k a b : Nat}
theorem nxt_lt (h : p < n) : nxtR n p < n := by unfold nxtR; split <;> omega
theorem nxt_mod (h : p < n) : (p + 1) % n = nxtR n p := by
  unfold nxtR
  split
  · next e => rw [e, Nat.mod_self]
  · next e => exact Nat.mod_eq_of_lt (by omega)
theorem pos_zero : p < n → posR n p 0 = nxtR n p := by intro h; unfold posR nxtR; split <;> split <;> omega
theorem pos_next (h : p < n) (hk : k + 1 < n) : nxtR n (posR n p k) = posR n p (k + 1) := by unfold posR nxtR; split <;> split <;> split <;> omega
theorem pos_lt (h : p < n) (hk : k < n) : posR n p k < n := by unfold posR; split <;> omega
theorem pos_me : posR n p k = p ↔ k + 1 = n := by unfold posR; split <;> omega
theorem stp_lt (ha : a < n) (hb : b < n) : stpR n a b < n := by unfold stpR; split <;> omega
theorem stp_self : stpR n a a = 0 := by unfold stpR; split <;> omega
theorem stp_both (ha : a < n) (hb : b < n) (h : a ≠ b) : stpR n a b + stpR n b a = n := by unfold stpR; split <;> split <;> omega
theorem stp_mod (ha : a < n) (hb : b < n) : (b + n - a) % n = stpR n a b := by
  unfold stpR
  split
  · next h => rw [show b + n - a = (b - a) + n by omega, Nat.add_mod_right, Nat.mod_eq_of_lt (by omega)]
  · next h => exact Nat.mod_eq_of_lt (by omega)
theorem stp_pos (h : p < n) (hk : k + 1 < n) : stpR n p (posR n p k) = k + 1 := by unfold stpR posR; split <;> split <;> omega
theorem stp_step (ha : a < n) (hb : b < n) (h : a ≠ b) : stpR n a b = stpR n (nxtR n a) b + 1 := by unfold stpR nxtR; split <;> split <;> split <;> omega
theorem stp_zero (ha : a < n) : stpR n a b = 0 ↔ a = b := by unfold stpR; split <;> omega
/-- Where b stands behind a. -/
theorem pos_stp (ha : a < n) (hb : b < n) (h : a ≠ b) : ∃ j, j + 1 = stpR n a b ∧ posR n a j = b := ⟨stpR n a b - 1, by unfold stpR; split <;> omega, by unfold posR stpR; split <;> split <;> omega⟩
theorem stp_on {j : Nat} (ha : a < n) (hb : b < n) (hj : j + 1 ≤ stpR n a b) : stpR n (posR n a j) b < stpR n a b := by
  unfold stpR posR at *
  split at hj <;> split <;> split <;> omega

/-- The first k others that aren't skipped. -/
def wayR (n p : Nat) (sk : List Int) (k : Nat) : List Nat := ((List.range k).map (posR n p)).filter fun x => !sk.contains (x : Int)
theorem way_zero {sk : List Int} : wayR n p sk 0 = [] := rfl
theorem way_in {sk : List Int} (h : sk.contains (posR n p k : Int) = true) : wayR n p sk (k + 1) = wayR n p sk k := by
  unfold wayR
  rw [List.range_succ, List.map_append, List.filter_append, List.map_cons, List.map_nil, List.filter_cons, h]
  simp
theorem way_out {sk : List Int} (h : sk.contains (posR n p k : Int) = false) : wayR n p sk (k + 1) = wayR n p sk k ++ [posR n p k] := by
  unfold wayR
  rw [List.range_succ, List.map_append, List.filter_append, List.map_cons, List.map_nil, List.filter_cons, h]
  simp
theorem way_len {sk : List Int} : (wayR n p sk k).length ≤ k := by
  unfold wayR
  refine Nat.le_trans (List.length_filter_le _ _) ?_
  simp
theorem way_mem {sk : List Int} (h : p < n) (hk : k < n) : ∀ x ∈ wayR n p sk k, x < n ∧ x ≠ p := fun x hx => by
  unfold wayR at hx
  obtain ⟨hx, -⟩ := List.mem_filter.1 hx
  obtain ⟨j, hj, rfl⟩ := List.mem_map.1 hx
  rw [List.mem_range] at hj
  exact ⟨pos_lt h (by omega), fun e => by have := pos_me.1 e; omega⟩
theorem way_far {sk : List Int} (h : p < n) (hk : k < n) : (wayR n p sk k).Pairwise fun x y => stpR n p x < stpR n p y := by
  unfold wayR
  refine List.Pairwise.filter _ ?_
  rw [List.pairwise_map]
  refine List.Pairwise.imp_of_mem ?_ List.pairwise_lt_range
  intro i j hi hj hij
  rw [List.mem_range] at hi hj
  rw [stp_pos h (by omega), stp_pos h (by omega)]
  omega
theorem way_farther {sk : List Int} (h : p < n) (hk : k < n) {i : Nat} (hi : i + 1 < (wayR n p sk k).length) : stpR n p (wayR n p sk k)[i] < stpR n p (wayR n p sk k)[i + 1] :=
  List.pairwise_iff_getElem.1 (way_far h hk) i (i + 1) (by omega) hi (by omega)
theorem way_head {sk : List Int} : (wayR n p sk k = [] ∧ ∀ i, i < k → sk.contains (posR n p i : Int) = true) ∨ (∃ j t, j < k ∧ wayR n p sk k = posR n p j :: t ∧ ∀ i, i < j → sk.contains (posR n p i : Int) = true) := by
  induction k with
  | zero => exact .inl ⟨rfl, fun i hi => absurd hi (Nat.not_lt_zero _)⟩
  | succ k ih =>
    cases hc : sk.contains (posR n p k : Int) with
    | true =>
      rw [way_in hc]
      rcases ih with ⟨e, h⟩ | ⟨j, t, hj, e, h⟩
      · refine .inl ⟨e, fun i hi => ?_⟩
        rcases Nat.lt_or_ge i k with h1 | h1
        · exact h i h1
        · obtain rfl : i = k := by omega
          exact hc
      · exact .inr ⟨j, t, by omega, e, h⟩
    | false =>
      rw [way_out hc]
      rcases ih with ⟨e, h⟩ | ⟨j, t, hj, e, h⟩
      · exact .inr ⟨k, [], by omega, by rw [e]; rfl, h⟩
      · exact .inr ⟨j, t ++ [posR n p k], by omega, by rw [e]; rfl, h⟩

/-- Who comes next. -/
def nextR (n p : Nat) (sk : List Int) : Nat := (wayR n p sk (n - 1)).headD p
theorem next_lt {sk : List Int} (h : p < n) : nextR n p sk < n := by
  unfold nextR
  rcases way_head (n := n) (p := p) (k := n - 1) (sk := sk) with ⟨e, -⟩ | ⟨j, t, hj, e, -⟩
  · rw [e]; exact h
  · rw [e]; exact pos_lt h (by omega)
/-- Who isn't skipped comes nearer. -/
theorem next_near {sk : List Int} (ha : a < n) (hb : b < n) (h : a ≠ b) (hs : sk.contains (b : Int) = false) : stpR n (nextR n a sk) b < stpR n a b := by
  obtain ⟨q, hq, rfl⟩ := pos_stp ha hb h
  have hlt := stp_lt ha hb
  unfold nextR
  rcases way_head (n := n) (p := a) (k := n - 1) (sk := sk) with ⟨-, hall⟩ | ⟨j, t, hj, e, hall⟩
  · rw [hall q (by omega)] at hs; cases hs
  · rw [e]
    refine stp_on ha hb ?_
    rcases Nat.lt_or_ge q j with h1 | h1
    · rw [hall q h1] at hs; cases hs
    · omega
end

end Go.Proofs.Ytjpahccpkonjkaa
