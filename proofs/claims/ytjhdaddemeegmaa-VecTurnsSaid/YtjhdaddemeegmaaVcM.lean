/- Plain mathematics of vectors: their least and greatest numbers, and by how much one falls short. -/
import Derived.Test.YtjhdaddemeegmaaVcB
import Derived.Test.YtjhdaddemeegmaaVcC
import Derived.Test.YtjhdaddemeegmaaVcD
namespace Go.Proofs.Ytjhdaddemeegmaa

theorem long_fold_le (ls : List (List Nat)) (m M : Nat) : ls.foldl (fun m l => max m l.length) m ≤ M ↔ m ≤ M ∧ ∀ l ∈ ls, l.length ≤ M := by
  induction ls generalizing m with
  | nil => simp
  | cons x t ih =>
    rw [List.foldl_cons, ih]
    simp only [List.mem_cons, forall_eq_or_imp, Nat.max_le, and_assoc]
theorem long_le (ls : List (List Nat)) (M : Nat) : longN ls ≤ M ↔ ∀ l ∈ ls, l.length ≤ M := by
  unfold longN
  rw [long_fold_le]
  simp
theorem le_long {ls : List (List Nat)} {l : List Nat} (h : l ∈ ls) : l.length ≤ longN ls := (long_le ls _).1 (Nat.le_refl _) l h

theorem max_fold_le (t : List (List Nat)) (i x z : Nat) : t.foldl (fun n a => max n (num a i)) x ≤ z ↔ x ≤ z ∧ ∀ a ∈ t, num a i ≤ z := by
  induction t generalizing x with
  | nil => simp
  | cons y t ih =>
    rw [List.foldl_cons, ih]
    simp only [List.mem_cons, forall_eq_or_imp, Nat.max_le, and_assoc]
theorem min_fold_le (t : List (List Nat)) (i x z : Nat) : z ≤ t.foldl (fun n a => min n (num a i)) x ↔ z ≤ x ∧ ∀ a ∈ t, z ≤ num a i := by
  induction t generalizing x with
  | nil => simp
  | cons y t ih =>
    rw [List.foldl_cons, ih]
    simp only [List.mem_cons, forall_eq_or_imp, Nat.le_min, and_assoc]

theorem maxN_le (ls : List (List Nat)) (i z : Nat) : foldN max ls i ≤ z ↔ ∀ a ∈ ls, num a i ≤ z := by
  unfold foldN
  rw [max_fold_le]
  rcases ls with _ | ⟨x, t⟩
  · simp [num]
  · simp
theorem le_minN (ls : List (List Nat)) (i z : Nat) (hne : ls ≠ []) : z ≤ foldN min ls i ↔ ∀ a ∈ ls, z ≤ num a i := by
  unfold foldN
  rw [min_fold_le]
  rcases ls with _ | ⟨x, t⟩
  · exact absurd rfl hne
  · simp

theorem num_front (op : Nat → Nat → Nat) (ls : List (List Nat)) (m i : Nat) (h : i < m) : num (frontV op ls m) i = foldN op ls i := by
  rw [num_in (by rw [frontV_length]; exact h)]
  simp [frontV]

theorem num_max (ls : List (List Nat)) (i : Nat) : num (foldV max ls) i = foldN max ls i := by
  by_cases h : i < longN ls
  · exact num_front max ls _ i h
  · rw [num_out (by rw [foldV_length]; omega)]
    have : foldN max ls i ≤ 0 := (maxN_le ls i 0).2 fun a ha => by
      rw [num_out (by have := le_long ha; omega)]; omega
    omega
theorem num_min (ls : List (List Nat)) (i : Nat) : num (foldV min ls) i = foldN min ls i := by
  by_cases h : i < longN ls
  · exact num_front min ls _ i h
  · rw [num_out (by rw [foldV_length]; omega)]
    rcases ls with _ | ⟨x, t⟩
    · rfl
    · have h2 := (le_minN (x :: t) i (foldN min (x :: t) i) (by simp)).1 (Nat.le_refl _) x (by simp)
      rw [num_out (l := x) (by have := le_long (ls := x :: t) (l := x) (by simp); omega)] at h2
      omega

/-- Vectors that have the same ones among them have the same least and greatest numbers. -/
theorem max_same {ls ms : List (List Nat)} (h1 : ∀ l ∈ ls, l ∈ ms) (h2 : ∀ l ∈ ms, l ∈ ls) : foldV max ls = foldV max ms := by
  refine num_ext ?_ fun k => ?_
  · rw [foldV_length, foldV_length]
    exact Nat.le_antisymm ((long_le ls _).2 fun l hl => le_long (h1 l hl)) ((long_le ms _).2 fun l hl => le_long (h2 l hl))
  · rw [num_max, num_max]
    exact Nat.le_antisymm ((maxN_le ls k _).2 fun l hl => (maxN_le ms k _).1 (Nat.le_refl _) l (h1 l hl)) ((maxN_le ms k _).2 fun l hl => (maxN_le ls k _).1 (Nat.le_refl _) l (h2 l hl))
theorem min_same {ls ms : List (List Nat)} (hn : ls ≠ []) (hm : ms ≠ []) (h1 : ∀ l ∈ ls, l ∈ ms) (h2 : ∀ l ∈ ms, l ∈ ls) : foldV min ls = foldV min ms := by
  refine num_ext ?_ fun k => ?_
  · rw [foldV_length, foldV_length]
    exact Nat.le_antisymm ((long_le ls _).2 fun l hl => le_long (h1 l hl)) ((long_le ms _).2 fun l hl => le_long (h2 l hl))
  · rw [num_min, num_min]
    exact Nat.le_antisymm ((le_minN ms k _ hm).2 fun l hl => (le_minN ls k _ hn).1 (Nat.le_refl _) l (h2 l hl)) ((le_minN ls k _ hn).2 fun l hl => (le_minN ms k _ hm).1 (Nat.le_refl _) l (h1 l hl))

/-- The greatest numbers, by parts. -/
theorem max_parts (front rest : List (List Nat)) : foldV max (foldV max front :: rest) = foldV max (front ++ rest) := by
  refine num_ext ?_ fun k => ?_
  · rw [foldV_length, foldV_length]
    refine Nat.le_antisymm ((long_le _ _).2 fun l hl => ?_) ((long_le _ _).2 fun l hl => ?_)
    · rcases List.mem_cons.1 hl with rfl | hl
      · rw [foldV_length]; exact (long_le _ _).2 fun x hx => le_long (by simp [hx])
      · exact le_long (by simp [hl])
    · rcases List.mem_append.1 hl with hl | hl
      · refine Nat.le_trans (le_long hl) ?_
        rw [← foldV_length max front]
        exact le_long (by simp)
      · exact le_long (by simp [hl])
  · rw [num_max, num_max]
    refine Nat.le_antisymm ((maxN_le _ k _).2 fun l hl => ?_) ((maxN_le _ k _).2 fun l hl => ?_)
    · rcases List.mem_cons.1 hl with rfl | hl
      · rw [num_max]; exact (maxN_le _ k _).2 fun x hx => (maxN_le _ k _).1 (Nat.le_refl _) x (by simp [hx])
      · exact (maxN_le _ k _).1 (Nat.le_refl _) l (by simp [hl])
    · rcases List.mem_append.1 hl with hl | hl
      · refine Nat.le_trans ((maxN_le front k _).1 (Nat.le_refl _) l hl) ?_
        rw [← num_max]
        exact (maxN_le _ k _).1 (Nat.le_refl _) _ (by simp)
      · exact (maxN_le _ k _).1 (Nat.le_refl _) l (by simp [hl])

/-! ### Least and greatest vectors -/
theorem covers_most {ls : List (List Nat)} {l : List Nat} (h : l ∈ ls) : coversB (foldV max ls) [l] = true := by
  rw [coversB_iff]
  intro b hb i
  simp at hb
  subst hb
  rw [num_max]
  exact (maxN_le ls i _).1 (Nat.le_refl _) _ h
theorem covers_least {ls : List (List Nat)} {l : List Nat} (h : l ∈ ls) : coversB l [foldV min ls] = true := by
  rw [coversB_iff]
  intro b hb i
  simp at hb
  subst hb
  rw [num_min]
  exact (le_minN ls i _ (by intro h0; rw [h0] at h; cases h)).1 (Nat.le_refl _) _ h
theorem bool_ext {a b : Bool} (h : a = true ↔ b = true) : a = b := by
  cases a <;> cases b <;> simp_all
theorem most_least (a : List Nat) (ls : List (List Nat)) : coversB a [foldV max ls] = coversB a ls := by
  refine bool_ext ?_
  rw [coversB_iff, coversB_iff]
  simp only [List.mem_singleton, forall_eq]
  constructor
  · intro h b hb i
    exact Nat.le_trans ((maxN_le ls i _).1 (Nat.le_refl _) b hb) (by rw [← num_max]; exact h i)
  · intro h i
    rw [num_max]
    exact (maxN_le ls i _).2 fun b hb => h b hb i
theorem least_most (a : List Nat) (ls : List (List Nat)) (hne : ls ≠ []) : coversB (foldV min ls) [a] = true ↔ ∀ b ∈ ls, coversB b [a] = true := by
  rw [coversB_iff]
  simp only [List.mem_singleton, forall_eq]
  constructor
  · intro h b hb
    rw [coversB_iff]
    simp only [List.mem_singleton, forall_eq]
    intro i
    have := h i
    rw [num_min] at this
    exact (le_minN ls i _ hne).1 this b hb
  · intro h i
    rw [num_min]
    refine (le_minN ls i _ hne).2 fun b hb => ?_
    have := h b hb
    rw [coversB_iff] at this
    exact this a (by simp) i

/-! ### Falling short -/
theorem lackTo_zero (a b : List Nat) (k : Nat) : lackTo a b k = 0 ↔ ∀ i, i < k → num b i ≤ num a i := by
  induction k with
  | zero => simp [lackTo]
  | succ k ih =>
    simp only [lackTo]
    constructor
    · intro h i hi
      by_cases e : i = k
      · subst e; omega
      · exact ih.1 (by omega) i (by omega)
    · intro h
      have h1 := ih.2 fun i hi => h i (by omega)
      have h2 := h k (by omega)
      omega
theorem lack_zero (a b : List Nat) : lackN a b = 0 ↔ coversB a [b] = true := by
  have e : lackN a b = 0 ↔ lackTo a b b.length = 0 := by unfold lackN; omega
  rw [e, lackTo_zero, coversB_iff]
  simp only [List.mem_singleton, forall_eq]
  constructor
  · intro h i
    by_cases hi : i < b.length
    · exact h i hi
    · rw [num_out (l := b) (by omega)]; omega
  · intro h i _
    exact h i
theorem lackTo_more (a b : List Nat) (m : Nat) (h : b.length ≤ m) : lackTo a b m = lackTo a b b.length := by
  induction m with
  | zero => have e : b.length = 0 := by omega
            rw [e]
  | succ m ih =>
    by_cases e : b.length = m + 1
    · rw [e]
    · simp only [lackTo]
      rw [ih (by omega), num_out (l := b) (by omega)]
      omega
theorem num_max2 (a b : List Nat) (i : Nat) : num (foldV max [a, b]) i = max (num a i) (num b i) := by
  rw [num_max]; rfl
theorem lackTo_max (a b : List Nat) (k : Nat) : lackTo a (foldV max [a, b]) k = lackTo a b k := by
  induction k with
  | zero => rfl
  | succ k ih =>
    simp only [lackTo]
    rw [ih, num_max2]
    omega
theorem lack_max (a b : List Nat) : lackN a (foldV max [a, b]) = lackN a b := by
  unfold lackN
  rw [lackTo_max, lackTo_more a b _ (by rw [foldV_length]; exact le_long (by simp))]
theorem lack_by_max (a b : List Nat) : lackN (foldV max [a, b]) b = 0 := by
  rw [lack_zero, coversB_iff]
  intro x hx i
  simp at hx
  subst hx
  rw [num_max2]
  omega
theorem num_lt {l : List Nat} (h : ∀ x ∈ l, x < 18446744073709551616) (i : Nat) : num l i < 18446744073709551616 := by
  by_cases hi : i < l.length
  · rw [num_in hi]; exact h _ (List.getElem_mem hi)
  · rw [num_out (by omega)]; omega
theorem max_lt {ls : List (List Nat)} (h : ∀ l ∈ ls, ∀ x ∈ l, x < 18446744073709551616) : ∀ x ∈ foldV max ls, x < 18446744073709551616 := by
  intro x hx
  obtain ⟨i, hi, rfl⟩ := List.getElem_of_mem hx
  rw [← num_in hi, num_max]
  have : foldN max ls i ≤ 18446744073709551615 := (maxN_le ls i _).2 fun a ha => by have := num_lt (h a ha) i; omega
  omega

end Go.Proofs.Ytjhdaddemeegmaa
