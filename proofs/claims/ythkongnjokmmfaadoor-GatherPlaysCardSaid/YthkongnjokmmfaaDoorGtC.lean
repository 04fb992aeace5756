/- Stage 13, plain: the counts, and how many parts there are, stay small. -/
import Derived.Test.YthkongnjokmmfaaDoorGtB
set_option maxRecDepth 20000
namespace Go.Proofs.YthkongnjokmmfaaDoor

theorem bump_sum : ∀ (c : List Nat) (k n : Nat), k < c.length → (bump c k n).sum = c.sum + n
  | [], k, _, h => absurd h (Nat.not_lt_zero _)
  | x :: r, 0, n, _ => by
    show (x + n) + r.sum = x + r.sum + n
    omega
  | x :: r, k + 1, n, h => by
    have := bump_sum r k n (by simpa using h)
    show x + (bump r k n).sum = x + r.sum + n
    omega
theorem bump_at (c : List Nat) (k n j : Nat) (h : j < c.length) : (bump c k n).getD j 0 = if j = k then c.getD k 0 + n else c.getD j 0 := by
  unfold bump
  rw [List.getD_eq_getElem?_getD]
  by_cases e : j = k
  · subst e
    rw [if_pos rfl, List.getElem?_set_self h]
    rfl
  · rw [if_neg e, List.getElem?_set_ne (fun h => e h.symm), ← List.getD_eq_getElem?_getD]
theorem getD_le_sum : ∀ (c : List Nat) (k : Nat), c.getD k 0 ≤ c.sum
  | [], _ => Nat.le_refl _
  | x :: r, 0 => by show x ≤ x + r.sum; omega
  | x :: r, k + 1 => by
    have := getD_le_sum r k
    show r.getD k 0 ≤ x + r.sum
    omega
theorem evict_len (room size : Nat) (l : List Part) : (evict room size l).1.length + (evict room size l).2 = l.length := by
  obtain ⟨a, e1, e2⟩ := evict_sub room size l
  have := congrArg List.length e1
  rw [List.length_append] at this
  omega

/-- How much is counted, and held. -/
def Gm.weight (g : Gm) : Nat := g.counts.sum + g.l.length
section
variable {g : Gm}
theorem putAt_weight (i : Nat) (F : Fr) (h6 : g.counts.length = 6) : (g.putAt i F).1.weight ≤ g.weight + 1 := by
  unfold Gm.putAt Gm.weight
  split
  · rename_i h
    split
    · show (bump g.counts 5 1).sum + (g.l.eraseIdx i).length ≤ _
      rw [bump_sum _ _ _ (by omega), List.length_eraseIdx, if_pos h]
      omega
    · show (bump g.counts 4 1).sum + (g.l.set i _).length ≤ _
      rw [bump_sum _ _ _ (by omega), List.length_set]
      omega
  · show g.counts.sum + g.l.length ≤ g.counts.sum + g.l.length + 1
    omega
theorem put_weight (may : Bool) (F : Fr) (h6 : g.counts.length = 6) : (g.put may F).1.weight ≤ g.weight + 2 := by
  unfold Gm.put
  split
  · split
    · split
      · show (bump g.counts 1 1).sum + g.l.length ≤ g.counts.sum + g.l.length + 2
        rw [bump_sum _ _ _ (by omega)]; omega
      · split
        · show (bump g.counts 2 1).sum + g.l.length ≤ g.counts.sum + g.l.length + 2
          rw [bump_sum _ _ _ (by omega)]; omega
        · have := putAt_weight (g := g) (idxP g.l F.id) F h6
          omega
    · split
      · show (bump g.counts 3 1).sum + g.l.length ≤ g.counts.sum + g.l.length + 2
        rw [bump_sum _ _ _ (by omega)]; omega
      · have h1 := putAt_weight (g := { g with l := (evict g.room F.size g.l).1 ++ [newPart F.id F.size F.of_], counts := bump g.counts 3 (evict g.room F.size g.l).2 }) (evict g.room F.size g.l).1.length F (by show (bump g.counts 3 _).length = 6; rw [bump_len]; exact h6)
        have h2 : Gm.weight { g with l := (evict g.room F.size g.l).1 ++ [newPart F.id F.size F.of_], counts := bump g.counts 3 (evict g.room F.size g.l).2 } ≤ g.weight + 1 := by
          show (bump g.counts 3 (evict g.room F.size g.l).2).sum + ((evict g.room F.size g.l).1 ++ [newPart F.id F.size F.of_]).length ≤ g.counts.sum + g.l.length + 1
          rw [bump_sum _ _ _ (by omega), List.length_append, List.length_singleton]
          have := evict_len g.room F.size g.l
          omega
        omega
  · show (bump g.counts 1 1).sum + g.l.length ≤ g.counts.sum + g.l.length + 2
    rw [bump_sum _ _ _ (by omega)]; omega
theorem drop_weight (x : Id) : (g.drop x).1.weight ≤ g.weight := by
  unfold Gm.drop
  split
  · show g.counts.sum + (g.l.eraseIdx _).length ≤ g.counts.sum + g.l.length
    rw [List.length_eraseIdx]
    split <;> omega
  · exact Nat.le_refl _

/-- A new gatherer. -/
def newG (chunk most room : Int) : Gm := { chunk := (max 1 (min chunk 65536)).toNat, most := (max 0 (min most 1048576)).toNat, room := (max room (max 0 (min most 1048576))).toNat, l := [], wanted := zid, counts := [0, 0, 0, 0, 0, 0] }
theorem newG_ok (chunk most room : Int) : (newG chunk most room).Ok where
  chunk1 := by show 1 ≤ (max 1 (min chunk 65536)).toNat; omega
  chunk2 := by show (max 1 (min chunk 65536)).toNat ≤ 65536; omega
  most := by show (max 0 (min most 1048576)).toNat ≤ 1048576; omega
  room := by show (max 0 (min most 1048576)).toNat ≤ (max room (max 0 (min most 1048576))).toNat; omega
  used := Nat.zero_le _
  parts := fun _ h => by cases h
  small := fun _ h => by cases h
  ids := List.Pairwise.nil
  six := rfl
end

end Go.Proofs.YthkongnjokmmfaaDoor
