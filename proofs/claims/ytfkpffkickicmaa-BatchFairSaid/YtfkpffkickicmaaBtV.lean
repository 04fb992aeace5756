/- The batch that is built is fair, as plain mathematics. -/
import Derived.Test.YtfkpffkickicmaaBtN
import Derived.Test.YtfkpffkickicmaaBtI
namespace Go.Proofs.Ytfkpffkickicmaa

/-! The last pass takes nothing. -/
theorem passes_left {base held : List Nat} {m R : Nat} {s : List Nat × Nat} (hs : s.2 ≤ R) : ∀ k, (passes base held m s k).2 + k ≤ R ∨ passN base held (passes base held m s k) m = passes base held m s k
  | 0 => .inl hs
  | k + 1 => by
    rcases passes_left (base := base) (held := held) (m := m) hs k with h | h
    · by_cases e : (passN base held (passes base held m s k) m).2 = (passes base held m s k).2
      · right
        have := pass_same e
        rw [passes, this, this]
      · left
        have := pass_le base held (passes base held m s k) m
        rw [passes]
        omega
    · right
      rw [passes, h, h]
theorem end_fix (base held : List Nat) (R : Nat) (hR : R ≤ 4096) : passN base held (endN base held R) (min base.length 64) = endN base held R := by
  unfold endN
  rcases passes_left (base := base) (held := held) (m := min base.length 64) (R := R) (s := startN base R) (Nat.le_refl _) 4096 with h | h
  · exact pass_none (by omega) _
  · exact h

/-! How many were taken. -/
theorem sum_set : ∀ (l : List Nat) (i v : Nat), i < l.length → (l.set i v).sum + num l i = l.sum + v
  | [], i, v, h => absurd h (by simp)
  | x :: t, 0, v, _ => by simp [num]; omega
  | x :: t, i + 1, v, h => by
    have := sum_set t i v (by simpa using h)
    simp only [List.set_cons_succ, List.sum_cons]
    have e : num (x :: t) (i + 1) = num t i := by simp [num]
    omega
theorem step_sum {base held : List Nat} {i : Nat} {s : List Nat × Nat} (hi : i < s.1.length) : (stepN base held i s).1.sum + (stepN base held i s).2 = s.1.sum + s.2 := by
  unfold stepN
  split
  · next h =>
    have := sum_set s.1 i (num s.1 i + 1) hi
    dsimp only
    omega
  · rfl
theorem pass_sum {base held : List Nat} {s : List Nat × Nat} : ∀ i, i ≤ s.1.length → (passN base held s i).1.sum + (passN base held s i).2 = s.1.sum + s.2
  | 0, _ => rfl
  | i + 1, h => by rw [passN, step_sum (by rw [pass_length]; omega), pass_sum i (by omega)]
theorem passes_sum {base held : List Nat} {m : Nat} {s : List Nat × Nat} (hm : s.1.length = m) : ∀ k, (passes base held m s k).1.sum + (passes base held m s k).2 = s.1.sum + s.2
  | 0 => rfl
  | k + 1 => by rw [passes, pass_sum _ (by rw [passes_length]; omega), passes_sum hm k]
theorem start_length (base : List Nat) (R : Nat) : (startN base R).1.length = min base.length 64 := by simp [startN]
theorem end_sum (base held : List Nat) (R : Nat) : (endN base held R).1.sum + (endN base held R).2 = R := by
  unfold endN
  rw [passes_sum (start_length base R)]
  unfold startN
  simp

/-! Fair by passes. -/
def FairAt (base held : List Nat) (m K : Nat) (s : List Nat × Nat) : Prop :=
  (∀ j, num s.1 j ≤ K) ∧ (∀ j, j < m → moreB base held j (num s.1 j) = true → K ≤ num s.1 j + 1) ∧ (0 < s.2 → ∀ j, j < m → moreB base held j (num s.1 j) = true → num s.1 j = K)

theorem more_down {base held : List Nat} {j c : Nat} (h : moreB base held j (c + 1) = true) : moreB base held j c = true := by
  rw [moreB_iff] at h ⊢
  omega

/-- What i turns of a pass leave. -/
structure Turns (base held : List Nat) (s t : List Nat × Nat) (i : Nat) : Prop where
  len : t.1.length = s.1.length
  le : t.2 ≤ s.2
  behind : ∀ j, i ≤ j → num t.1 j = num s.1 j
  some_ : ∀ j, num t.1 j = num s.1 j ∨ (moreB base held j (num s.1 j) = true ∧ num t.1 j = num s.1 j + 1)
  all_ : 0 < t.2 → ∀ j, j < i → moreB base held j (num s.1 j) = true → num t.1 j = num s.1 j + 1

theorem turns {base held : List Nat} {s : List Nat × Nat} : ∀ i, i ≤ s.1.length → Turns base held s (passN base held s i) i
  | 0, _ => ⟨rfl, Nat.le_refl _, fun _ _ => rfl, fun _ => .inl rfl, fun _ j hj => absurd hj (by omega)⟩
  | i + 1, hi => by
    have h := turns (base := base) (held := held) (s := s) i (by omega)
    have hlen := h.len
    rw [passN]
    by_cases hc : 0 < (passN base held s i).2 ∧ moreB base held i (num (passN base held s i).1 i) = true
    · rw [step_yes hc.1 hc.2]
      have hb := h.behind i (Nat.le_refl _)
      have hmore : moreB base held i (num s.1 i) = true := by rw [← hb]; exact hc.2
      have hle := h.le
      refine ⟨by simpa using hlen, by dsimp only; omega, fun j hj => ?_, fun j => ?_, fun h0 j hj hm => ?_⟩
      · dsimp only
        rw [num_set, if_neg (by omega)]
        exact h.behind j (by omega)
      · dsimp only
        rw [num_set]
        by_cases e : i = j
        · subst e
          rw [if_pos ⟨rfl, by omega⟩]
          right
          exact ⟨hmore, by rw [hb]⟩
        · rw [if_neg (fun hh => e hh.1)]
          exact h.some_ j
      · dsimp only
        rw [num_set]
        by_cases e : i = j
        · subst e
          rw [if_pos ⟨rfl, by omega⟩, hb]
        · rw [if_neg (fun hh => e hh.1)]
          exact h.all_ hc.1 j (by omega) hm
    · rw [step_no hc]
      refine ⟨hlen, h.le, fun j hj => h.behind j (by omega), h.some_, fun h0 j hj hm => ?_⟩
      by_cases e : j = i
      · subst e
        exact absurd ⟨h0, by rw [h.behind j (Nat.le_refl _)]; exact hm⟩ hc
      · exact h.all_ h0 j (by omega) hm

theorem fair_pass {base held : List Nat} {m K : Nat} {s : List Nat × Nat} (hm : s.1.length = m) (h : FairAt base held m K s) : ∃ K', FairAt base held m K' (passN base held s m) := by
  by_cases h0 : s.2 = 0
  · exact ⟨K, by rw [pass_none h0]; exact h⟩
  · have ht := turns (base := base) (held := held) (s := s) m (by omega)
    obtain ⟨h1, h2, h3⟩ := h
    refine ⟨K + 1, fun j => ?_, fun j hj hmo => ?_, fun hp j hj hmo => ?_⟩
    · have := h1 j
      rcases ht.some_ j with e | ⟨_, e⟩ <;> omega
    · rcases ht.some_ j with e | ⟨q, e⟩
      · rw [e] at hmo ⊢
        have := h3 (by omega) j hj hmo
        omega
      · have := h3 (by omega) j hj q
        omega
    · rcases ht.some_ j with e | ⟨q, e⟩
      · rw [e] at hmo
        have := ht.all_ hp j hj hmo
        omega
      · have := h3 (by omega) j hj q
        omega
theorem fair_passes {base held : List Nat} {m : Nat} {s : List Nat × Nat} (hm : s.1.length = m) (h : FairAt base held m 0 s) : ∀ k, ∃ K, FairAt base held m K (passes base held m s k)
  | 0 => ⟨0, h⟩
  | k + 1 => by
    obtain ⟨K, hK⟩ := fair_passes hm h k
    rw [passes]
    exact fair_pass (by rw [passes_length]; exact hm) hK
theorem end_fair (base held : List Nat) (R : Nat) : ∃ K, FairAt base held (min base.length 64) K (endN base held R) := by
  unfold endN
  refine fair_passes (start_length base R) ⟨fun j => ?_, fun j _ _ => ?_, fun _ j _ _ => ?_⟩ 4096
  · rw [start_num]; exact Nat.le_refl _
  · omega
  · rw [start_num]

/-! The list. -/
theorem end_length (base held : List Nat) (R : Nat) : (endN base held R).1.length = min base.length 64 := by unfold endN; rw [passes_length, start_length]
theorem end_good (base held : List Nat) (R : Nat) : Good base held (endN base held R) := passes_good (start_good base held R) _
theorem end_small (base held : List Nat) (R : Nat) : Small (endN base held R) R := passes_small (start_small base R) _

theorem satC_sum : ∀ (l : List Rn) (n : Nat), n + (l.map (·.c)).sum ≤ 4611686018427387904 → satC n l = n + (l.map (·.c)).sum
  | [], n, _ => by simp [satC]
  | r :: t, n, h => by
    simp only [List.map_cons, List.sum_cons] at h ⊢
    rw [satC, if_neg (by omega), satC_sum t (n + r.c) (by omega)]
    omega

theorem sum_range : ∀ (cs : List Nat), ((List.range cs.length).map (num cs)).sum = cs.sum := by
  intro cs
  have : (List.range cs.length).map (num cs) = cs := by
    refine List.ext_getElem (by simp) fun j h1 h2 => ?_
    rw [List.getElem_map, List.getElem_range, num_in h2]
  rw [this]

theorem sum_hasIds : ∀ (l : List Rn), ((l.filter hasIds).map (·.c)).sum = (l.map (·.c)).sum
  | [] => rfl
  | r :: t => by
    rw [List.filter_cons]
    have := sum_hasIds t
    by_cases h : hasIds r = true
    · rw [if_pos h]
      simp only [List.map_cons, List.sum_cons]
      omega
    · rw [if_neg h]
      have : r.c = 0 := by
        unfold hasIds at h
        simpa using h
      simp only [List.map_cons, List.sum_cons]
      omega

theorem next_mem {base held : List Nat} {R : Nat} (hR : R ≤ 4096) {x : Rn} (hx : x ∈ nextL base held R) :
    ∃ i, i < min base.length 64 ∧ x = runAt base (endN base held R).1 i ∧ 0 < num (endN base held R).1 i ∧ x.f = i ∧ x.a = num base i + 1 ∧ x.c = num (endN base held R).1 i ∧ num base i + x.c ≤ num held i ∧ num base i + x.c ≤ 4611686018427387904 := by
  unfold nextL at hx
  obtain ⟨h1, h2⟩ := List.mem_filter.1 hx
  unfold rowOf at h1
  obtain ⟨i, hi, rfl⟩ := List.mem_map.1 h1
  rw [List.mem_range, end_length] at hi
  have hs := end_small base held R i
  have ec : (runAt base (endN base held R).1 i).c = num (endN base held R).1 i := by show num (endN base held R).1 i % 18446744073709551616 = _; omega
  have hp : 0 < num (endN base held R).1 i := by
    unfold hasIds at h2
    rw [ec] at h2
    simp at h2
    omega
  have hg := end_good base held R i hp
  refine ⟨i, hi, rfl, hp, ?_, ?_, ec, by rw [ec]; exact hg.1, by rw [ec]; exact hg.2⟩
  · show i % 256 = i
    omega
  · show (num base i + 1) % 18446744073709551616 = _
    omega

theorem next_run {base held : List Nat} {R : Nat} (hR : R ≤ 4096) {x : Rn} (hx : x ∈ nextL base held R) : standsB base x = true ∧ heldOne held x = true := by
  obtain ⟨i, hi, _, hp, hf, ha, hc, h1, h2⟩ := next_mem hR hx
  have hrun : runB x = true := by
    rw [runB_iff, hf, ha]
    omega
  refine ⟨?_, ?_⟩
  · rw [standsB_iff, hf, ha]
    exact ⟨hrun, by omega, rfl⟩
  · unfold heldOne
    rw [hrun, Bool.true_and, decide_eq_true_eq, lastN_is hrun, hf, ha]
    omega

theorem next_rising {base held : List Nat} {R : Nat} : (nextL base held R).Pairwise fun x y => x.f < y.f := by
  unfold nextL
  refine List.Pairwise.filter _ ?_
  unfold rowOf
  rw [List.pairwise_map]
  refine List.Pairwise.imp_of_mem ?_ List.pairwise_lt_range
  intro i j hi hj hij
  rw [List.mem_range, end_length] at hi hj
  show i % 256 < j % 256
  omega

theorem next_count (base held : List Nat) (R : Nat) (hR : R ≤ 4096) : cntN (nextL base held R) + (endN base held R).2 = R := by
  have hs := end_sum base held R
  have e1 : (nextL base held R).filter runB = nextL base held R := List.filter_eq_self.2 fun x hx => ((standsB_iff _ _).1 (next_run hR hx).1).1
  have e2 : ((nextL base held R).map (·.c)).sum = (endN base held R).1.sum := by
    unfold nextL
    rw [sum_hasIds]
    unfold rowOf
    rw [List.map_map]
    have : (List.range (endN base held R).1.length).map ((fun x : Rn => x.c) ∘ runAt base (endN base held R).1) = (List.range (endN base held R).1.length).map (num (endN base held R).1) := by
      refine List.map_congr_left fun i _ => ?_
      have := end_small base held R i
      show num (endN base held R).1 i % 18446744073709551616 = _
      omega
    rw [this, sum_range]
  unfold cntN
  rw [e1, satC_sum _ _ (by rw [e2]; omega), e2]
  omega

theorem next_batch (base held : List Nat) (R : Nat) (hR : R ≤ 4096) (hne : nextL base held R ≠ []) : batB base R (nextL base held R) = true := by
  rw [batB_iff]
  refine ⟨fun i _ hi => ⟨(next_run hR (List.getElem_mem hi)).1, fun hp => ?_⟩, hne, by have := next_count base held R hR; omega⟩
  exact List.pairwise_iff_getElem.1 next_rising (i - 1) i (by omega) hi (by omega)
theorem next_held (base held : List Nat) (R : Nat) (hR : R ≤ 4096) : heldB held (nextL base held R) = true := by
  unfold heldB
  rw [List.all_eq_true]
  exact fun x hx => (next_run hR hx).2

theorem next_longest {base held : List Nat} {R K : Nat} (hR : R ≤ 4096) (h : ∀ j, num (endN base held R).1 j ≤ K) : longR (nextL base held R) ≤ K := by
  refine long_bound _ 0 K (by omega) fun x hx => ?_
  obtain ⟨i, _, _, _, _, _, hc, _⟩ := next_mem hR hx
  rw [hc]
  exact h i

/-- Who has more that is held: there is no room left, and no other one gets more, but for one. -/
theorem next_fair {base held : List Nat} {R i : Nat} (hR : R ≤ 4096) (hi : i < min base.length 64) (hm : moreB base held i (num (endN base held R).1 i) = true) :
    R ≤ cntN (nextL base held R) ∧ longR (nextL base held R) ≤ num (endN base held R).1 i + 1 := by
  have hz : (endN base held R).2 = 0 := by
    rcases Nat.eq_zero_or_pos (endN base held R).2 with h | h
    · exact h
    · have ht := turns (base := base) (held := held) (s := endN base held R) (min base.length 64) (by rw [end_length]; exact Nat.le_refl _)
      rw [end_fix base held R hR] at ht
      have := ht.all_ h i hi hm
      omega
  refine ⟨by have := next_count base held R hR; omega, ?_⟩
  obtain ⟨K, h1, h2, _⟩ := end_fair base held R
  exact Nat.le_trans (next_longest hR h1) (h2 i hi hm)

end Go.Proofs.Ytfkpffkickicmaa
