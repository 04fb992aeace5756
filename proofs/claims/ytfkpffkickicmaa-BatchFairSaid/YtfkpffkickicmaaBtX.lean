/- The base behind the batch that is built. -/
import Derived.Test.YtfkpffkickicmaaBtU
import Derived.Test.YtfkpffkickicmaaBtV
namespace Go.Proofs.Ytfkpffkickicmaa

theorem next_has {base held : List Nat} {R i : Nat} (hR : R ≤ 4096) (h : 0 < num (endN base held R).1 i) : runAt base (endN base held R).1 i ∈ nextL base held R := by
  have hi : i < (endN base held R).1.length := by
    rcases Nat.lt_or_ge i (endN base held R).1.length with h1 | h1
    · exact h1
    · rw [num_out h1] at h; omega
  have hs := end_small base held R i
  unfold nextL
  refine List.mem_filter.2 ⟨?_, ?_⟩
  · unfold rowOf
    exact List.mem_map.2 ⟨i, List.mem_range.2 hi, rfl⟩
  · unfold hasIds
    have ec : (runAt base (endN base held R).1 i).c = num (endN base held R).1 i := by show num (endN base held R).1 i % 18446744073709551616 = _; omega
    rw [ec, decide_eq_false (by omega)]
    rfl

theorem next_after (base held : List Nat) (R : Nat) (hR : R ≤ 4096) (i : Nat) : num (afterL base (nextL base held R)) i = num base i + num (endN base held R).1 i := by
  by_cases hne : nextL base held R = []
  · have h0 : num (endN base held R).1 i = 0 := by
      rcases Nat.eq_zero_or_pos (num (endN base held R).1 i) with h | h
      · exact h
      · have := next_has hR h
        rw [hne] at this
        simp at this
    rw [hne, h0]
    unfold afterL
    rw [batB_none, if_neg (by decide)]
    rfl
  · have hb := next_batch base held R hR hne
    have h1 := (batB_iff _ _ _).1 hb
    have hb4 : batB base 4096 (nextL base held R) = true := (batB_iff _ _ _).2 ⟨h1.1, h1.2.1, by omega⟩
    have hst := addTo_st h1.1
    unfold afterL
    rw [if_pos hb4]
    rcases Nat.eq_zero_or_pos (num (endN base held R).1 i) with h | h
    · rw [h, hst.other i]
      · rfl
      · intro t ht e
        obtain ⟨j, _, _, hp, hf, _⟩ := next_mem hR (List.getElem_mem ht)
        rw [hf] at e
        subst e
        omega
    · obtain ⟨t, ht, e⟩ := List.mem_iff_getElem.1 (next_has hR h)
      have h2 := hst.at_ t ht
      rw [if_neg (by omega), Nat.min_eq_left (longR_each ht), e] at h2
      have hs := end_small base held R i
      have ef : (runAt base (endN base held R).1 i).f = i := by
        obtain ⟨j, hj, hx, _, hf, _⟩ := next_mem hR (next_has hR h)
        have hi : i < (endN base held R).1.length := by
          rcases Nat.lt_or_ge i (endN base held R).1.length with h1 | h1
          · exact h1
          · rw [num_out h1] at h; omega
        rw [end_length] at hi
        show i % 256 = i
        omega
      have ec : (runAt base (endN base held R).1 i).c = num (endN base held R).1 i := by show num (endN base held R).1 i % 18446744073709551616 = _; omega
      rw [ef, ec] at h2
      exact h2

end Go.Proofs.Ytfkpffkickicmaa
