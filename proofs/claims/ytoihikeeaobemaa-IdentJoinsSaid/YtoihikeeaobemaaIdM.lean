/- Plain mathematics of layer 3: ids in order, each once. -/
import Derived.Test.YtoihikeeaobemaaIdH
namespace Go.Proofs.Ytoihikeeaobemaa

def lt (x y : Id) : Prop := x.f < y.f ∨ (x.f = y.f ∧ x.s < y.s)

theorem lt_irrefl (x : Id) : ¬ lt x x := by unfold lt; omega
theorem lt_trans {x y z : Id} (h1 : lt x y) (h2 : lt y z) : lt x z := by unfold lt at *; omega
theorem lt_asymm {x y : Id} (h1 : lt x y) : ¬ lt y x := by unfold lt at *; omega
theorem lt_total (x y : Id) : lt x y ∨ x = y ∨ lt y x := by
  by_cases h : x = y
  · exact .inr (.inl h)
  · have : ¬ (x.f = y.f ∧ x.s = y.s) := fun ⟨h1, h2⟩ => h (Id.same h1 h2)
    unfold lt
    omega
theorem ltB_lt (x y : Id) : ltB x y = true ↔ lt x y := ltB_iff x y
theorem ltB_not (x y : Id) : ltB x y = false ↔ ¬ lt x y := by rw [← ltB_lt]; simp

theorem strict_ext : ∀ (a b : List Id), a.Pairwise lt → b.Pairwise lt → (∀ x, x ∈ a ↔ x ∈ b) → a = b
  | [], [], _, _, _ => rfl
  | [], y :: _, _, _, h => absurd ((h y).2 (by simp)) (by simp)
  | x :: _, [], _, _, h => absurd ((h x).1 (by simp)) (by simp)
  | x :: a, y :: b, ha, hb, h => by
    rw [List.pairwise_cons] at ha hb
    have hxy : x = y := by
      have h1 := (h x).1 (by simp)
      have h2 := (h y).2 (by simp)
      rw [List.mem_cons] at h1 h2
      rcases h1 with h1 | h1
      · exact h1
      · rcases h2 with h2 | h2
        · exact h2.symm
        · exact absurd (hb.1 x h1) (lt_asymm (ha.1 y h2))
    subst hxy
    congr 1
    refine strict_ext a b ha.2 hb.2 fun z => ⟨fun hz => ?_, fun hz => ?_⟩
    · have := (h z).1 (by simp [hz])
      rw [List.mem_cons] at this
      rcases this with rfl | h'
      · exact absurd (ha.1 z hz) (lt_irrefl z)
      · exact h'
    · have := (h z).2 (by simp [hz])
      rw [List.mem_cons] at this
      rcases this with rfl | h'
      · exact absurd (hb.1 z hz) (lt_irrefl z)
      · exact h'

theorem cptFrom_strict : ∀ (l : List Id) (p : Id), (p :: l).Pairwise (fun x y => ¬ lt y x) → (p :: cptFrom p l).Pairwise lt
  | [], p, _ => by simp [cptFrom]
  | x :: r, p, h => by
    rw [List.pairwise_cons] at h
    have ih := cptFrom_strict r x h.2
    have hpx := h.1 x (by simp)
    simp only [cptFrom]
    split
    · next he => rw [← he]; exact ih
    · next hne =>
      have hlt : lt p x := by
        rcases lt_total p x with h1 | h1 | h1
        · exact h1
        · exact absurd h1.symm hne
        · exact absurd h1 hpx
      refine List.pairwise_cons.2 ⟨fun y hy => ?_, ih⟩
      rw [List.mem_cons] at hy
      rcases hy with rfl | hy
      · exact hlt
      · exact lt_trans hlt ((List.pairwise_cons.1 ih).1 y hy)

theorem cptFrom_mem (x : Id) : ∀ (l : List Id) (p : Id), (x = p ∨ x ∈ cptFrom p l) ↔ (x = p ∨ x ∈ l)
  | [], p => by simp [cptFrom]
  | y :: r, p => by
    have ih := cptFrom_mem x r y
    simp only [cptFrom]
    split
    · next he =>
      subst he
      rw [ih, List.mem_cons]
      constructor
      · rintro (h | h) <;> simp [h]
      · rintro (h | h | h) <;> simp [h]
    · rw [List.mem_cons, List.mem_cons, ih]

theorem cpt_mem (x : Id) (l : List Id) : x ∈ cpt l ↔ x ∈ l := by
  rcases l with _ | ⟨y, r⟩
  · simp [cpt]
  · rw [cpt, List.mem_cons, List.mem_cons]
    exact cptFrom_mem x r y

theorem sortI_sorted (l : List Id) : (sortI l).Pairwise (fun x y => ¬ lt y x) := by
  have h := List.pairwise_mergeSort (le := fun x y => !ltB y x) (by
    intro a b c h1 h2
    simp only [Bool.not_eq_true'] at *
    rw [ltB_not] at *
    intro h
    rcases lt_total a b with h3 | h3 | h3
    · exact h2 (lt_trans h h3)
    · subst h3; exact h2 h
    · exact h1 h3) (by
    intro a b
    simp only [Bool.or_eq_true, Bool.not_eq_true']
    rw [ltB_not, ltB_not]
    by_cases h : lt b a
    · exact .inr (lt_asymm h)
    · exact .inl h) l
  refine List.Pairwise.imp ?_ h
  intro a b h
  simp only [Bool.not_eq_true'] at h
  exact (ltB_not b a).1 h

theorem sortI_mem (x : Id) (l : List Id) : x ∈ sortI l ↔ x ∈ l := (List.mergeSort_perm l _).mem_iff

/-- Ids that may be, each once, in order. -/
def orderedI (l : List Id) : List Id := cpt (sortI (l.filter mayB))

theorem ordered_strict (l : List Id) : (orderedI l).Pairwise lt := by
  unfold orderedI
  have h := sortI_sorted (l.filter mayB)
  generalize sortI (l.filter mayB) = s at h
  rcases s with _ | ⟨y, r⟩
  · simp [cpt]
  · exact cptFrom_strict r y h

theorem ordered_mem (x : Id) (l : List Id) : x ∈ orderedI l ↔ x ∈ l ∧ mayB x = true := by
  unfold orderedI
  rw [cpt_mem, sortI_mem, List.mem_filter]

theorem ordered_is {l s : List Id} (hs : s.Pairwise lt) (hm : ∀ x, x ∈ s ↔ x ∈ l ∧ mayB x = true) : orderedI l = s :=
  strict_ext _ _ (ordered_strict l) hs fun x => by rw [ordered_mem, hm]

theorem joinOf_eq (l : List Id) : joinOf l = rowsOf (orderedI l) := rfl

def mkI (f s : Nat) (hf : f < 256 := by decide) (hs : s < 18446744073709551616 := by decide) : Id := ⟨f, s, hf, hs⟩

theorem join_example : joinOf [mkI 0 2, mkI 0 1, mkI 0 5] = [⟨0, 1, 2, by decide, by decide, by decide⟩, ⟨0, 5, 1, by decide, by decide, by decide⟩] := by
  have : orderedI [mkI 0 2, mkI 0 1, mkI 0 5] = [mkI 0 1, mkI 0 2, mkI 0 5] := by
    apply ordered_is
    · simp [lt, mkI]
    · intro x
      simp only [List.mem_cons, List.not_mem_nil, or_false]
      constructor
      · rintro (rfl | rfl | rfl) <;> simp [mayB, mkI]
      · rintro ⟨rfl | rfl | rfl, _⟩ <;> simp
  rw [joinOf_eq, this]
  decide

end Go.Proofs.Ytoihikeeaobemaa
