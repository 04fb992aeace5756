/- The batch that is built next, as plain mathematics: passes over the senders, one id of each, till there is no room, or no more is held. -/
import Derived.Test.YtfkpffkickicmaaBtK
import Derived.Test.YtfkpffkickicmaaBtH
namespace Go.Proofs.Ytfkpffkickicmaa

/-- Of the sender i more is held, behind c ids. -/
def moreB (base held : List Nat) (i c : Nat) : Bool := decide (num base i + c < num held i) && decide (num base i + c < 4611686018427387904)

theorem moreB_iff (base held : List Nat) (i c : Nat) : moreB base held i c = true ↔ num base i + c < num held i ∧ num base i + c < 4611686018427387904 := by
  simp only [moreB, Bool.and_eq_true, decide_eq_true_eq]

/-- One sender's turn: how many ids each has so far, and how many there is room for. -/
def stepN (base held : List Nat) (i : Nat) (s : List Nat × Nat) : List Nat × Nat := if 0 < s.2 ∧ moreB base held i (num s.1 i) = true then (s.1.set i (num s.1 i + 1), s.2 - 1) else s
def passN (base held : List Nat) (s : List Nat × Nat) : Nat → List Nat × Nat
  | 0 => s
  | i + 1 => stepN base held i (passN base held s i)
def passes (base held : List Nat) (m : Nat) (s : List Nat × Nat) : Nat → List Nat × Nat
  | 0 => s
  | k + 1 => passN base held (passes base held m s k) m

theorem step_yes {base held : List Nat} {i : Nat} {s : List Nat × Nat} (h1 : 0 < s.2) (h2 : moreB base held i (num s.1 i) = true) : stepN base held i s = (s.1.set i (num s.1 i + 1), s.2 - 1) := by unfold stepN; rw [if_pos ⟨h1, h2⟩]
theorem step_no {base held : List Nat} {i : Nat} {s : List Nat × Nat} (h : ¬ (0 < s.2 ∧ moreB base held i (num s.1 i) = true)) : stepN base held i s = s := by unfold stepN; rw [if_neg h]

theorem step_length (base held : List Nat) (i : Nat) (s : List Nat × Nat) : (stepN base held i s).1.length = s.1.length := by unfold stepN; split <;> simp
theorem pass_length (base held : List Nat) (s : List Nat × Nat) : ∀ i, (passN base held s i).1.length = s.1.length
  | 0 => rfl
  | i + 1 => by rw [passN, step_length, pass_length base held s i]
theorem passes_length (base held : List Nat) (m : Nat) (s : List Nat × Nat) : ∀ k, (passes base held m s k).1.length = s.1.length
  | 0 => rfl
  | k + 1 => by rw [passes, pass_length, passes_length base held m s k]

theorem step_le (base held : List Nat) (i : Nat) (s : List Nat × Nat) : (stepN base held i s).2 ≤ s.2 := by unfold stepN; split <;> simp
theorem pass_le (base held : List Nat) (s : List Nat × Nat) : ∀ i, (passN base held s i).2 ≤ s.2
  | 0 => Nat.le_refl _
  | i + 1 => by rw [passN]; exact Nat.le_trans (step_le _ _ _ _) (pass_le base held s i)
theorem step_same {base held : List Nat} {i : Nat} {s : List Nat × Nat} (h : (stepN base held i s).2 = s.2) : stepN base held i s = s := by
  unfold stepN at h ⊢
  split
  · next hc => rw [if_pos hc] at h; simp at h; omega
  · rfl
theorem pass_same {base held : List Nat} {s : List Nat × Nat} : ∀ {i}, (passN base held s i).2 = s.2 → passN base held s i = s
  | 0, _ => rfl
  | i + 1, h => by
    rw [passN] at h ⊢
    have h1 := step_le base held i (passN base held s i)
    have h2 := pass_le base held s i
    have h3 : (passN base held s i).2 = s.2 := by omega
    have h4 := pass_same h3
    rw [h4] at h ⊢
    exact step_same h
theorem pass_none {base held : List Nat} {s : List Nat × Nat} (h : s.2 = 0) (i : Nat) : passN base held s i = s := pass_same (by have := pass_le base held s i; omega)

theorem passes_fix {base held : List Nat} {m : Nat} {s : List Nat × Nat} {k : Nat} (h : passN base held (passes base held m s k) m = passes base held m s k) : ∀ j, passes base held m s (k + j) = passes base held m s k
  | 0 => rfl
  | j + 1 => by rw [← Nat.add_assoc, passes, passes_fix h j, h]
theorem passes_end {base held : List Nat} {m : Nat} {s : List Nat × Nat} {k N : Nat} (h : passN base held (passes base held m s k) m = passes base held m s k) (hk : k ≤ N) : passes base held m s N = passes base held m s k := by
  have := passes_fix h (N - k)
  rwa [show k + (N - k) = N by omega] at this

/-! What holds all the way. -/
def Small (s : List Nat × Nat) (R : Nat) : Prop := ∀ j, num s.1 j + s.2 ≤ R
def Good (base held : List Nat) (s : List Nat × Nat) : Prop := ∀ j, 0 < num s.1 j → num base j + num s.1 j ≤ num held j ∧ num base j + num s.1 j ≤ 4611686018427387904

theorem step_small {base held : List Nat} {i R : Nat} {s : List Nat × Nat} (h : Small s R) : Small (stepN base held i s) R := fun j => by
  unfold stepN
  split
  · next hc =>
    have := h j
    rw [num_set]
    split
    · next h2 => rw [h2.1]; dsimp only; omega
    · dsimp only; omega
  · exact h j
theorem step_good {base held : List Nat} {i : Nat} {s : List Nat × Nat} (h : Good base held s) : Good base held (stepN base held i s) := fun j => by
  unfold stepN
  split
  · next hc =>
    intro hj
    dsimp only at hj ⊢
    rw [num_set] at hj ⊢
    split
    · next h2 =>
      obtain ⟨rfl, _⟩ := h2
      have := (moreB_iff _ _ _ _).1 hc.2
      omega
    · next h2 =>
      rw [if_neg h2] at hj
      exact h j hj
  · exact h j
theorem pass_small {base held : List Nat} {R : Nat} {s : List Nat × Nat} (h : Small s R) : ∀ i, Small (passN base held s i) R
  | 0 => h
  | i + 1 => by rw [passN]; exact step_small (pass_small h i)
theorem pass_good {base held : List Nat} {s : List Nat × Nat} (h : Good base held s) : ∀ i, Good base held (passN base held s i)
  | 0 => h
  | i + 1 => by rw [passN]; exact step_good (pass_good h i)
theorem passes_small {base held : List Nat} {m R : Nat} {s : List Nat × Nat} (h : Small s R) : ∀ k, Small (passes base held m s k) R
  | 0 => h
  | k + 1 => by rw [passes]; exact pass_small (passes_small h k) m
theorem passes_good {base held : List Nat} {m : Nat} {s : List Nat × Nat} (h : Good base held s) : ∀ k, Good base held (passes base held m s k)
  | 0 => h
  | k + 1 => by rw [passes]; exact pass_good (passes_good h k) m

def startN (base : List Nat) (R : Nat) : List Nat × Nat := (List.replicate (min base.length 64) 0, R)
theorem start_num (base : List Nat) (R j : Nat) : num (startN base R).1 j = 0 := by
  unfold startN num
  rw [List.getD_eq_getElem?_getD, List.getElem?_replicate]
  split <;> rfl
theorem start_small (base : List Nat) (R : Nat) : Small (startN base R) R := fun j => by rw [start_num]; show 0 + R ≤ R; omega
theorem start_good (base held : List Nat) (R : Nat) : Good base held (startN base R) := fun j h => by rw [start_num] at h; omega

def endN (base held : List Nat) (R : Nat) : List Nat × Nat := passes base held (min base.length 64) (startN base R) 4096

def runAt (base cs : List Nat) (i : Nat) : Rn := ⟨i % 256, (num base i + 1) % 18446744073709551616, num cs i % 18446744073709551616, Nat.mod_lt _ (by decide), Nat.mod_lt _ (by decide), Nat.mod_lt _ (by decide)⟩
def rowOf (base cs : List Nat) : List Rn := (List.range cs.length).map (runAt base cs)
def hasIds (x : Rn) : Bool := !decide (x.c = 0)
/-- The batch that is built of what is held. -/
def nextL (base held : List Nat) (R : Nat) : List Rn := (rowOf base (endN base held R).1).filter hasIds

theorem rowOf_length (base cs : List Nat) : (rowOf base cs).length = cs.length := by simp [rowOf]
theorem rowOf_at {base cs : List Nat} {i : Nat} (_h : i < cs.length) (h' : i < (rowOf base cs).length) : (rowOf base cs)[i] = runAt base cs i := by simp [rowOf]

theorem held_more {base held cs : List Nat} {i : Nat} (hi : i < 64) (hb : num base i < 18446744073709551616) (hc : num cs i ≤ 4096) : heldOne held (longerR (runAt base cs i)) = moreB base held i (num cs i) := by
  rw [Bool.eq_iff_iff, moreB_iff]
  unfold heldOne
  rw [Bool.and_eq_true, decide_eq_true_eq]
  have e1 : (longerR (runAt base cs i)).f = i := by show i % 256 = i; omega
  have e2 : (longerR (runAt base cs i)).c = num cs i + 1 := by show (num cs i % 18446744073709551616 + 1) % 18446744073709551616 = _; omega
  have e3 : (longerR (runAt base cs i)).a = (num base i + 1) % 18446744073709551616 := rfl
  constructor
  · rintro ⟨h1, h2⟩
    rw [lastN_is h1, e1, e2, e3] at h2
    have h3 := (runB_iff _).1 h1
    rw [e1, e2, e3] at h3
    omega
  · rintro ⟨h1, h2⟩
    have h3 : runB (longerR (runAt base cs i)) = true := by
      rw [runB_iff, e1, e2, e3]
      omega
    refine ⟨h3, ?_⟩
    rw [lastN_is h3, e1, e2, e3]
    omega

theorem rowOf_set {base cs : List Nat} {i : Nat} (h : i < cs.length) (_hc : num cs i ≤ 4096) : (rowOf base cs).set i (longerR (runAt base cs i)) = rowOf base (cs.set i (num cs i + 1)) := by
  refine List.ext_getElem (by simp [rowOf_length]) fun j h1 h2 => ?_
  have hj : j < cs.length := by simpa [rowOf_length] using h1
  rw [List.getElem_set, rowOf_at (by simpa using hj) h2]
  by_cases e : i = j
  · subst e
    rw [if_pos rfl]
    refine Rn.same rfl rfl ?_
    show (num cs i % 18446744073709551616 + 1) % 18446744073709551616 = num (cs.set i (num cs i + 1)) i % 18446744073709551616
    rw [num_set, if_pos ⟨rfl, h⟩]
    omega
  · rw [if_neg e, rowOf_at hj (by rw [rowOf_length]; exact hj)]
    refine Rn.same rfl rfl ?_
    show num cs j % 18446744073709551616 = num (cs.set i (num cs i + 1)) j % 18446744073709551616
    rw [num_set, if_neg (fun hh => e hh.1)]

end Go.Proofs.Ytfkpffkickicmaa
