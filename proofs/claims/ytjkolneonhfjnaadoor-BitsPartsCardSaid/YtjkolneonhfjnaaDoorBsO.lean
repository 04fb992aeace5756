/- Stage 11: an empty set has none; where a missing place stands among the missing ones. -/
import Derived.Test.YtjkolneonhfjnaaDoorBsN
namespace Go.Proofs.YtjkolneonhfjnaaDoor
open Go.RowKit

theorem cnt_none (n : Nat) : cntS (List.replicate n false) = 0 := by unfold cntS; rw [List.count_replicate]; rfl

theorem miss_at {m : List Bool} {i a : Nat} (hi : i < m.length) (hv : m.getD i false = false) (ha : (upTo m 0 i).length = a) :
    a < (upTo m 0 m.length).length ∧ (kvs (upTo m 0 m.length))[a]? = some (.int .i64 (i : Int)) ∧ (upTo m 0 (i + 1)).length = a + 1 := by
  have hy : upTo m 0 (i + 1) = upTo m 0 i ++ [i] := upTo_yes (by rw [msP_in hi, hv]; simp)
  have hl : (upTo m 0 (i + 1)).length = a + 1 := by rw [hy, List.length_append, ha]; rfl
  obtain ⟨t, ht⟩ := upTo_front (m := m) (f := 0) (r := i + 1) (r' := m.length) hi
  have hget : (upTo m 0 m.length)[a]? = some i := by
    rw [← ht, List.getElem?_append_left (by omega), hy, List.getElem?_append_right (by omega), ha]
    simp
  refine ⟨?_, ?_, hl⟩
  · rw [← ht, List.length_append]; omega
  · unfold kvs
    rw [List.getElem?_map, hget]
    rfl
theorem miss_no {m : List Bool} {i a : Nat} (hi : i < m.length) (hv : m.getD i false = true) (ha : (upTo m 0 i).length = a) : (upTo m 0 (i + 1)).length = a := by
  rw [upTo_no (by rw [msP_in hi, hv]; simp), ha]

end Go.Proofs.YtjkolneonhfjnaaDoor
