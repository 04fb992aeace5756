/- The order of a batch, as plain mathematics: each id is the next one of its sender, and behind all of them stands the base behind the batch. -/
import Derived.Test.YtfkpffkickicmaaBtI
import Derived.Test.YtfkpffkickicmaaBtK
namespace Go.Proofs.Ytfkpffkickicmaa

def goStep (b : List Nat) (x : Id) : List Nat := b.set x.f (num b x.f + 1)
def goTo (base : List Nat) (ids : List Id) (i : Nat) : List Nat := (ids.take i).foldl goStep base

/-- Each id is the next one of its sender. -/
def Walks : List Nat → List Id → List Nat → Prop
  | b, [], b' => b = b'
  | b, x :: t, b' => x.f < b.length ∧ x.s = num b x.f + 1 ∧ Walks (goStep b x) t b'

theorem goStep_length (b : List Nat) (x : Id) : (goStep b x).length = b.length := by simp [goStep]
theorem goTo_zero (base : List Nat) (ids : List Id) : goTo base ids 0 = base := rfl
theorem goTo_next {ids : List Id} {i : Nat} (base : List Nat) (h : i < ids.length) : goTo base ids (i + 1) = goStep (goTo base ids i) ids[i] := by
  unfold goTo
  rw [List.take_succ_eq_append_getElem h, List.foldl_append]
  rfl
theorem goTo_length (base : List Nat) (ids : List Id) (i : Nat) : (goTo base ids i).length = base.length := by
  unfold goTo
  generalize ids.take i = t
  induction t generalizing base with
  | nil => rfl
  | cons x t ih => rw [List.foldl_cons, ih, goStep_length]

theorem Walks.snoc : ∀ {b : List Nat} {s : List Id} {m : List Nat} {x : Id}, Walks b s m → x.f < m.length → x.s = num m x.f + 1 → Walks b (s ++ [x]) (goStep m x)
  | _, [], _, _, h, h1, h2 => by
    have h : _ = _ := h
    subst h
    exact ⟨h1, h2, rfl⟩
  | _, _ :: _, _, _, h, h1, h2 => ⟨h.1, h.2.1, h.2.2.snoc h1 h2⟩
theorem Walks.all : ∀ {b : List Nat} {s : List Id} {b' : List Nat}, Walks b s b' → goTo b s s.length = b' ∧ ∀ i (hi : i < s.length), s[i].f < b.length ∧ s[i].s = num (goTo b s i) s[i].f + 1
  | _, [], _, h => ⟨h, fun i hi => absurd hi (by simp)⟩
  | b, x :: t, _, h => by
    obtain ⟨h1, h2, h3⟩ := h
    obtain ⟨q1, q2⟩ := h3.all
    refine ⟨q1, fun i hi => ?_⟩
    rcases i with _ | i
    · exact ⟨h1, h2⟩
    · have := q2 i (by simpa using hi)
      rw [goStep_length] at this
      exact this

/-- Where the walk stands within pass k, ahead of the run i. -/
structure St (base : List Nat) (l : List Rn) (b : List Nat) (k i : Nat) : Prop where
  len : b.length = base.length
  at_ : ∀ t (h : t < l.length), num b l[t].f = num base l[t].f + min l[t].c (if t < i then k + 1 else k)
  other : ∀ j, (∀ t (h : t < l.length), l[t].f ≠ j) → num b j = num base j

section
variable {base : List Nat} {l : List Rn} {b : List Nat} {k i : Nat}

theorem St.start (base : List Nat) (l : List Rn) : St base l base 0 0 := ⟨rfl, fun t h => by simp, fun _ _ => rfl⟩
theorem St.skip (h : St base l b k i) (hi : i < l.length) (hc : ¬ k < l[i].c) : St base l b k (i + 1) := by
  refine ⟨h.len, fun t ht => ?_, h.other⟩
  rw [h.at_ t ht]
  by_cases e : t = i
  · subst e
    rw [if_neg (by omega), if_pos (by omega)]
    omega
  · by_cases e2 : t < i
    · rw [if_pos e2, if_pos (by omega)]
    · rw [if_neg e2, if_neg (by omega)]
theorem St.wrap (h : St base l b k i) (hi : l.length ≤ i) : St base l b (k + 1) 0 := by
  refine ⟨h.len, fun t ht => ?_, h.other⟩
  rw [h.at_ t ht, if_pos (by omega), if_neg (by omega)]
theorem St.step (hB : BatchTo base l l.length) (h : St base l b k i) (hi : i < l.length) (hc : k < l[i].c) :
    (idAt l[i] k).f < b.length ∧ (idAt l[i] k).s = num b (idAt l[i] k).f + 1 ∧ St base l (goStep b (idAt l[i] k)) k (i + 1) := by
  have h2 := (standsB_iff _ _).1 (hB i hi hi).1
  have h3 := (runB_iff _).1 h2.1
  have hat := h.at_ i hi
  rw [if_neg (by omega), Nat.min_eq_right (by omega)] at hat
  have hf : l[i].f < b.length := by rw [h.len]; exact h2.2.1
  refine ⟨hf, ?_, ?_⟩
  · show (l[i].a + k) % 18446744073709551616 = num b l[i].f + 1
    rw [hat, h2.2.2]
    have := h2.2.2
    omega
  · have hne : ∀ t (ht : t < l.length), t ≠ i → l[i].f ≠ l[t].f := fun t ht hti => by
      rcases Nat.lt_or_gt_of_ne hti with h4 | h4
      · exact Nat.ne_of_gt (hB.rising i t h4 hi hi ht)
      · exact Nat.ne_of_lt (hB.rising t i h4 ht ht hi)
    refine ⟨by rw [goStep_length]; exact h.len, fun t ht => ?_, fun j hj => ?_⟩
    · show num (b.set l[i].f (num b l[i].f + 1)) l[t].f = _
      rw [num_set]
      by_cases e : t = i
      · subst e
        rw [if_pos ⟨rfl, hf⟩, hat, if_pos (by omega), Nat.min_eq_right (by omega)]
        omega
      · rw [if_neg (fun hh => hne t ht e hh.1), h.at_ t ht]
        by_cases e2 : t < i
        · rw [if_pos e2, if_pos (by omega)]
        · rw [if_neg e2, if_neg (by omega)]
    · show num (b.set l[i].f (num b l[i].f + 1)) j = _
      rw [num_set, if_neg (fun hh => hj i hi hh.1)]
      exact h.other j hj
end

theorem walk_pass {base : List Nat} {l : List Rn} (hB : BatchTo base l l.length) (k : Nat) {b : List Nat} (hw : Walks base (ordTo l k 0) b) (hs : St base l b k 0) : ∀ i, i ≤ l.length → ∃ b', Walks base (ordTo l k i) b' ∧ St base l b' k i
  | 0, _ => ⟨b, hw, hs⟩
  | i + 1, hi => by
    obtain ⟨b1, h1, h2⟩ := walk_pass hB k hw hs i (by omega)
    by_cases hc : k < l[i].c
    · obtain ⟨q1, q2, q3⟩ := h2.step hB (by omega) hc
      exact ⟨_, by rw [ordTo_in (by omega) hc]; exact h1.snoc q1 q2, q3⟩
    · exact ⟨b1, by rw [ordTo_out (by omega) hc]; exact h1, h2.skip (by omega) hc⟩
theorem walk_passes {base : List Nat} {l : List Rn} (hB : BatchTo base l l.length) : ∀ k, ∃ b, Walks base (ordTo l k 0) b ∧ St base l b k 0
  | 0 => ⟨base, rfl, St.start base l⟩
  | k + 1 => by
    obtain ⟨b, h1, h2⟩ := walk_passes hB k
    obtain ⟨b', h3, h4⟩ := walk_pass hB k h1 h2 l.length (Nat.le_refl _)
    exact ⟨b', by rw [← ordTo_wrap (Nat.le_refl _)]; exact h3, h4.wrap (Nat.le_refl _)⟩

theorem longR_each {l : List Rn} {t : Nat} (ht : t < l.length) : l[t].c ≤ longR l := by
  unfold longR
  have key : ∀ (s : List Rn) (m : Nat), m ≤ s.foldl (fun m x => max m x.c) m ∧ ∀ x ∈ s, x.c ≤ s.foldl (fun m x => max m x.c) m := by
    intro s
    induction s with
    | nil => intro m; exact ⟨Nat.le_refl _, by simp⟩
    | cons y s ih =>
      intro m
      rw [List.foldl_cons]
      have := ih (max m y.c)
      refine ⟨by omega, fun x hx => ?_⟩
      rcases List.mem_cons.1 hx with rfl | hx
      · omega
      · exact this.2 x hx
  exact (key l 0).2 _ (List.getElem_mem ht)

theorem addTo_st {base : List Nat} {l : List Rn} (hB : BatchTo base l l.length) : St base l (addTo base l l.length) (longR l) 0 := by
  refine ⟨addTo_length _ _ _, fun t ht => ?_, fun j hj => ?_⟩
  · rw [if_neg (by omega), Nat.min_eq_left (longR_each ht)]
    have h2 := (standsB_iff _ _).1 (hB t ht ht).1
    have e : addTo base l l.length = (l.drop (t + 1)).foldl addC (addTo base l (t + 1)) := by
      unfold addTo
      rw [List.take_length, ← List.foldl_append, List.take_append_drop]
    rw [e, num_other _ _ _ (fun x hx => ?_), addTo_next base ht, num_addC, if_pos ⟨rfl, by rw [addTo_length]; exact h2.2.1⟩, addTo_num hB ht ht]
    obtain ⟨q, hq, rfl⟩ := List.mem_iff_getElem.1 hx
    rw [List.getElem_drop]
    have hq' : t + 1 + q < l.length := by rw [List.length_drop] at hq; omega
    exact Nat.ne_of_gt (hB.rising (t + 1 + q) t (by omega) hq' hq' ht)
  · unfold addTo
    rw [List.take_length]
    refine num_other _ _ _ fun x hx => ?_
    obtain ⟨q, hq, rfl⟩ := List.mem_iff_getElem.1 hx
    exact hj q hq

theorem St.same {base : List Nat} {l : List Rn} {b b' : List Nat} {k i : Nat} (h : St base l b k i) (h' : St base l b' k i) : b = b' := by
  refine num_ext (h.len.trans h'.len.symm) fun j => ?_
  by_cases hj : ∃ t, ∃ ht : t < l.length, l[t].f = j
  · obtain ⟨t, ht, rfl⟩ := hj
    rw [h.at_ t ht, h'.at_ t ht]
  · have : ∀ t (h : t < l.length), l[t].f ≠ j := fun t ht e => hj ⟨t, ht, e⟩
    rw [h.other j this, h'.other j this]

theorem batch_order {base : List Nat} {l : List Rn} (h : batB base 4096 l = true) : Walks base (orderL l) (afterL base l) := by
  have h1 := (batB_iff _ _ _).1 h
  have hall : l.all runB = true := by
    rw [List.all_eq_true]
    intro x hx
    obtain ⟨q, hq, rfl⟩ := List.mem_iff_getElem.1 hx
    exact ((standsB_iff _ _).1 (h1.1 q hq hq).1).1
  obtain ⟨b, h2, h3⟩ := walk_passes h1.1 (longR l)
  have e : b = afterL base l := by
    unfold afterL
    rw [if_pos h]
    exact h3.same (addTo_st h1.1)
  unfold orderL
  rw [if_pos ⟨hall, h1.2.2⟩, ← e]
  exact h2

end Go.Proofs.Ytfkpffkickicmaa
