/- Stage 14: a store as plain data: what it has, what is put in, what is dropped, what it holds of each. -/
import Derived.Test.YtnpdjlcekmpmoaaSoB
namespace Go.Proofs.Ytnpdjlcekmpmoaa
open Go.RowKit Go.Sort

/-- A payload that is held. -/
structure Hp where
  id : Id
  b : List UInt8
/-- A store. -/
structure Sm where
  n : Nat
  room : Nat
  l : List Hp
  fl : List Nat

def useL (l : List Hp) : Nat := (l.map fun h => h.b.length).sum
def hasS (l : List Hp) (f s : Nat) : Bool := l.any fun h => decide (h.id.f = f ∧ h.id.s = s)
def hasL (l : List Hp) (x : Id) : Bool := hasS l x.f x.s
def getL (l : List Hp) (x : Id) : List UInt8 := match l.find? fun h => decide (h.id = x) with
  | some h => h.b
  | none => []
theorem hasL_iff {l : List Hp} {x : Id} : hasL l x = true ↔ ∃ h ∈ l, h.id = x := by
  unfold hasL hasS
  rw [List.any_eq_true]
  refine exists_congr fun h => and_congr_right fun _ => ?_
  rw [decide_eq_true_iff]
  exact ⟨fun h => Id.same h.1 h.2, fun h => by rw [h]; exact ⟨rfl, rfl⟩⟩
theorem hasL_no {l : List Hp} {x : Id} : hasL l x = false ↔ ∀ h ∈ l, h.id ≠ x := by
  rw [← Bool.not_eq_true, hasL_iff]
  exact ⟨fun h y hy e => h ⟨y, hy, e⟩, fun h ⟨y, hy, e⟩ => h y hy e⟩
theorem useL_append (a b : List Hp) : useL (a ++ b) = useL a + useL b := by simp [useL]
theorem hasS_append (a b : List Hp) (f s : Nat) : hasS (a ++ b) f s = (hasS a f s || hasS b f s) := by simp [hasS]
theorem useL_nil : useL [] = 0 := rfl
theorem useL_one (x : Hp) : useL [x] = x.b.length := by simp [useL]
theorem useL_cons (x : Hp) (l : List Hp) : useL (x :: l) = x.b.length + useL l := by simp [useL]

/-- In order from n on, as long as p. -/
def upN (p : Nat → Bool) : Nat → Nat → Nat
  | 0, n => n
  | k + 1, n => if p (n + 1) then upN p k (n + 1) else n
/-- What is held of a sender, from its floor on. -/
def heldN (l : List Hp) (f n : Nat) : Nat := upN (hasS l f) l.length n

theorem upN_ge (p : Nat → Bool) : ∀ k n, n ≤ upN p k n
  | 0, n => Nat.le_refl _
  | k + 1, n => by
    unfold upN
    split
    · exact Nat.le_trans (Nat.le_succ n) (upN_ge p k (n + 1))
    · exact Nat.le_refl _
theorem upN_le (p : Nat → Bool) : ∀ k n, upN p k n ≤ n + k
  | 0, n => Nat.le_refl _
  | k + 1, n => by
    unfold upN
    split
    · have := upN_le p k (n + 1); omega
    · omega
theorem upN_all (p : Nat → Bool) : ∀ k n s, n < s → s ≤ upN p k n → p s = true
  | 0, n, s, h1, h2 => by unfold upN at h2; omega
  | k + 1, n, s, h1, h2 => by
    unfold upN at h2
    split at h2
    · rename_i hp
      by_cases e : s = n + 1
      · rw [e]; exact hp
      · exact upN_all p k (n + 1) s (by omega) h2
    · omega
/-- Either it stopped, or all k were there. -/
theorem upN_end (p : Nat → Bool) : ∀ k n, p (upN p k n + 1) = false ∨ upN p k n = n + k
  | 0, n => .inr rfl
  | k + 1, n => by
    unfold upN
    split
    · rcases upN_end p k (n + 1) with h | h
      · exact .inl h
      · exact .inr (by omega)
    · rename_i hp
      exact .inl (by simpa using hp)

/-- As many as these are there, if each is. -/
theorem count_run (l : List Hp) (f n : Nat) : ∀ k, (∀ s, n < s → s ≤ n + k → hasS l f s = true) → k ≤ (l.filter fun h => decide (h.id.f = f ∧ n < h.id.s ∧ h.id.s ≤ n + k)).length
  | 0, _ => Nat.zero_le _
  | k + 1, h => by
    have ih := count_run l f n k fun s h1 h2 => h s h1 (by omega)
    have hk := h (n + k + 1) (by omega) (by omega)
    have e : ∀ m : List Hp, (m.filter fun h => decide (h.id.f = f ∧ n < h.id.s ∧ h.id.s ≤ n + (k + 1))).length = (m.filter fun h => decide (h.id.f = f ∧ n < h.id.s ∧ h.id.s ≤ n + k)).length + (m.filter fun h => decide (h.id.f = f ∧ h.id.s = n + k + 1)).length := by
      intro m
      induction m with
      | nil => rfl
      | cons x r ihm =>
        simp only [List.filter_cons]
        by_cases h1 : x.id.f = f
        · by_cases h2 : x.id.s = n + k + 1
          · have a1 : decide (x.id.f = f ∧ n < x.id.s ∧ x.id.s ≤ n + (k + 1)) = true := decide_eq_true ⟨h1, by omega, by omega⟩
            have a2 : decide (x.id.f = f ∧ n < x.id.s ∧ x.id.s ≤ n + k) = false := decide_eq_false (by omega)
            have a3 : decide (x.id.f = f ∧ x.id.s = n + k + 1) = true := decide_eq_true ⟨h1, h2⟩
            rw [a1, a2, a3]
            simp only [if_true, Bool.false_eq_true, if_false, List.length_cons]
            omega
          · by_cases h3 : n < x.id.s ∧ x.id.s ≤ n + k
            · have a1 : decide (x.id.f = f ∧ n < x.id.s ∧ x.id.s ≤ n + (k + 1)) = true := decide_eq_true ⟨h1, by omega, by omega⟩
              have a2 : decide (x.id.f = f ∧ n < x.id.s ∧ x.id.s ≤ n + k) = true := decide_eq_true ⟨h1, h3⟩
              have a3 : decide (x.id.f = f ∧ x.id.s = n + k + 1) = false := decide_eq_false (by omega)
              rw [a1, a2, a3]
              simp only [if_true, Bool.false_eq_true, if_false, List.length_cons]
              omega
            · have a1 : decide (x.id.f = f ∧ n < x.id.s ∧ x.id.s ≤ n + (k + 1)) = false := decide_eq_false (by omega)
              have a2 : decide (x.id.f = f ∧ n < x.id.s ∧ x.id.s ≤ n + k) = false := decide_eq_false (by omega)
              have a3 : decide (x.id.f = f ∧ x.id.s = n + k + 1) = false := decide_eq_false (by omega)
              rw [a1, a2, a3]
              simp only [Bool.false_eq_true, if_false]
              exact ihm
        · have a1 : decide (x.id.f = f ∧ n < x.id.s ∧ x.id.s ≤ n + (k + 1)) = false := decide_eq_false (by omega)
          have a2 : decide (x.id.f = f ∧ n < x.id.s ∧ x.id.s ≤ n + k) = false := decide_eq_false (by omega)
          have a3 : decide (x.id.f = f ∧ x.id.s = n + k + 1) = false := decide_eq_false (by omega)
          rw [a1, a2, a3]
          simp only [Bool.false_eq_true, if_false]
          exact ihm
    have hpos : 0 < (l.filter fun h => decide (h.id.f = f ∧ h.id.s = n + k + 1)).length := by
      unfold hasS at hk
      obtain ⟨x, hx, hp⟩ := List.any_eq_true.1 hk
      exact List.length_pos_of_mem (List.mem_filter.2 ⟨hx, hp⟩)
    have := e l
    omega
theorem run_le {l : List Hp} {f n k : Nat} (h : ∀ s, n < s → s ≤ n + k → hasS l f s = true) : k ≤ l.length := Nat.le_trans (count_run l f n k h) (List.length_filter_le _ _)

theorem heldN_ge (l : List Hp) (f n : Nat) : n ≤ heldN l f n := upN_ge _ _ _
theorem heldN_all {l : List Hp} {f n s : Nat} (h1 : n < s) (h2 : s ≤ heldN l f n) : hasS l f s = true := upN_all _ _ _ _ h1 h2
theorem heldN_stop (l : List Hp) (f n : Nat) : hasS l f (heldN l f n + 1) = false := by
  unfold heldN
  rcases upN_end (hasS l f) l.length n with h | h
  · exact h
  · cases hq : hasS l f (upN (hasS l f) l.length n + 1)
    · rfl
    · have h2 : l.length + 1 ≤ l.length := run_le (l := l) (f := f) (n := n) (k := l.length + 1) fun s h1 h2 => by
        by_cases e : s = upN (hasS l f) l.length n + 1
        · rw [e]; exact hq
        · exact upN_all (hasS l f) l.length n s h1 (by omega)
      omega
/-- It is the only one so. -/
theorem heldN_is {l : List Hp} {f n r : Nat} (h1 : n ≤ r) (h2 : ∀ s, n < s → s ≤ r → hasS l f s = true) (h3 : hasS l f (r + 1) = false) : heldN l f n = r := by
  have a := heldN_ge l f n
  rcases Nat.lt_trichotomy (heldN l f n) r with h | h | h
  · have := h2 (heldN l f n + 1) (by omega) (by omega)
    rw [heldN_stop] at this
    cases this
  · exact h
  · have := heldN_all (l := l) (f := f) (n := n) (s := r + 1) (by omega) (by omega)
    rw [h3] at this
    cases this
/-- What is held depends on what is there, and on nothing else. -/
theorem heldN_congr {l l' : List Hp} {f n : Nat} (h : ∀ s, hasS l f s = hasS l' f s) : heldN l f n = heldN l' f n :=
  heldN_is (heldN_ge _ _ _) (fun s h1 h2 => by rw [h]; exact heldN_all h1 h2) (by rw [h]; exact heldN_stop _ _ _)
theorem heldN_le (l : List Hp) (f n : Nat) : heldN l f n ≤ n + l.length := upN_le _ _ _

/-! ### What a store does -/
def MaxS : Nat := 4611686018427387904
def Sm.may (m : Sm) (x : Id) : Bool := decide (x.f < m.n) && mayB x
def Sm.lacks (m : Sm) (x : Id) : Bool := m.may x && (decide (num m.fl x.f < x.s) && !hasL m.l x)
def Sm.takes (m : Sm) (x : Id) (b : List UInt8) : Bool := m.lacks x && decide (useL m.l + b.length ≤ m.room)
def Sm.put (m : Sm) (x : Id) (b : List UInt8) : Sm := if m.takes x b = true then { m with l := m.l ++ [⟨x, b⟩] } else m
def flN (fl told : List Nat) : List Nat := (List.range fl.length).map fun i => max (num fl i) (min (num told i) MaxS)
def keptB (fl : List Nat) (h : Hp) : Bool := decide (num fl h.id.f < h.id.s)
def Sm.drop (m : Sm) (told : List Nat) : Sm := { m with fl := flN m.fl told, l := m.l.filter (keptB (flN m.fl told)) }
def Sm.held (m : Sm) : List Nat := (List.range m.n).map fun i => heldN m.l i (num m.fl i)
def inN (n : Int) : Nat := if n < 1 then 1 else if 64 < n then 64 else n.toNat
def Sm.new (n room : Int) : Sm := { n := inN n, room := room.toNat, l := [], fl := List.replicate (inN n) 0 }

/-- What holds of each store. -/
structure Sm.Ok (m : Sm) : Prop where
  n1 : 1 ≤ m.n
  n2 : m.n ≤ 64
  fl : m.fl.length = m.n
  top : ∀ x ∈ m.fl, x ≤ MaxS
  each : ∀ h ∈ m.l, m.may h.id = true
  apart : m.l.Pairwise fun a b => a.id ≠ b.id
  use : useL m.l ≤ m.room
  room : m.room ≤ 9223372036854775807

theorem inN_le (n : Int) : 1 ≤ inN n ∧ inN n ≤ 64 := by
  unfold inN
  split
  · omega
  · split <;> omega
theorem Sm.new_ok (n room : Int) (hr : room ≤ 9223372036854775807) : (Sm.new n room).Ok where
  n1 := (inN_le n).1
  n2 := (inN_le n).2
  fl := by simp [Sm.new]
  top := fun x hx => by
    have := List.eq_of_mem_replicate hx
    omega
  each := fun h hh => absurd hh (by simp [Sm.new])
  apart := List.Pairwise.nil
  use := Nat.zero_le _
  room := by show room.toNat ≤ _; omega

theorem num_le {fl : List Nat} {B : Nat} (h : ∀ x ∈ fl, x ≤ B) (i : Nat) : num fl i ≤ B := by
  by_cases hi : i < fl.length
  · rw [num_in hi]; exact h _ (List.getElem_mem hi)
  · rw [num_out (by omega)]; omega
theorem Sm.takes_iff {m : Sm} {x : Id} {b : List UInt8} : m.takes x b = true ↔ m.may x = true ∧ num m.fl x.f < x.s ∧ hasL m.l x = false ∧ useL m.l + b.length ≤ m.room := by
  unfold Sm.takes Sm.lacks
  simp only [Bool.and_eq_true, decide_eq_true_eq, Bool.not_eq_true']
  exact ⟨fun ⟨⟨h1, h2, h3⟩, h4⟩ => ⟨h1, h2, h3, h4⟩, fun ⟨h1, h2, h3, h4⟩ => ⟨⟨h1, h2, h3⟩, h4⟩⟩
theorem Sm.Ok.put {m : Sm} (h : m.Ok) (x : Id) (b : List UInt8) : (m.put x b).Ok := by
  unfold Sm.put
  split
  · rename_i ht
    obtain ⟨h1, -, h3, h4⟩ := Sm.takes_iff.1 ht
    refine ⟨h.n1, h.n2, h.fl, h.top, fun y hy => ?_, ?_, ?_, h.room⟩
    · rcases List.mem_append.1 hy with hy | hy
      · exact h.each y hy
      · obtain rfl := List.mem_singleton.1 hy
        exact h1
    · refine List.pairwise_append.2 ⟨h.apart, List.pairwise_singleton _ _, fun a ha b hb => ?_⟩
      obtain rfl := List.mem_singleton.1 hb
      exact hasL_no.1 h3 a ha
    · show useL (m.l ++ [_]) ≤ m.room
      rw [useL_append, useL_one]
      exact h4
  · exact h
theorem flN_length (fl told : List Nat) : (flN fl told).length = fl.length := by simp [flN]
theorem flN_num {fl told : List Nat} {i : Nat} (h : i < fl.length) : num (flN fl told) i = max (num fl i) (min (num told i) MaxS) := by
  rw [num_in (by rw [flN_length]; exact h)]
  simp [flN]
theorem flN_ge (fl told : List Nat) (i : Nat) : num fl i ≤ num (flN fl told) i := by
  by_cases h : i < fl.length
  · rw [flN_num h]; omega
  · rw [num_out (by omega), num_out (by rw [flN_length]; omega)]; exact Nat.le_refl _
theorem useL_filter (p : Hp → Bool) : ∀ l : List Hp, useL (l.filter p) + useL (l.filter fun h => !p h) = useL l
  | [] => rfl
  | x :: r => by
    have := useL_filter p r
    rw [useL_cons]
    cases hp : p x
    · simp only [List.filter_cons, hp, Bool.not_false, if_true, Bool.false_eq_true, if_false, useL_cons]; omega
    · simp only [List.filter_cons, hp, Bool.not_true, if_true, Bool.false_eq_true, if_false, useL_cons]; omega
theorem Sm.Ok.drop {m : Sm} (h : m.Ok) (told : List Nat) : (m.drop told).Ok where
  n1 := h.n1
  n2 := h.n2
  fl := by show (flN m.fl told).length = m.n; rw [flN_length]; exact h.fl
  top := fun x hx => by
    obtain ⟨i, hi, rfl⟩ := List.mem_map.1 hx
    have := num_le h.top i
    omega
  each := fun y hy => h.each y (List.mem_filter.1 hy).1
  apart := h.apart.filter _
  use := by
    have := useL_filter (keptB (flN m.fl told)) m.l
    have := h.use
    show useL (m.l.filter _) ≤ m.room
    omega
  room := h.room

theorem Sm.held_length (m : Sm) : m.held.length = m.n := by simp [Sm.held]
theorem Sm.held_num {m : Sm} {i : Nat} (h : i < m.n) : num m.held i = heldN m.l i (num m.fl i) := by
  rw [num_in (by rw [Sm.held_length]; exact h)]
  simp [Sm.held]
theorem Sm.Ok.seq {m : Sm} (h : m.Ok) {f s : Nat} (hs : hasS m.l f s = true) : f < m.n ∧ 1 ≤ s ∧ s ≤ MaxS := by
  obtain ⟨y, hy, hp⟩ := List.any_eq_true.1 hs
  obtain ⟨rfl, rfl⟩ := of_decide_eq_true hp
  have := h.each y hy
  unfold Sm.may mayB at this
  simp only [Bool.and_eq_true, decide_eq_true_eq] at this
  exact ⟨this.1, this.2.1.2, this.2.2⟩
theorem Sm.Ok.held_le {m : Sm} (h : m.Ok) (f : Nat) : heldN m.l f (num m.fl f) ≤ MaxS := by
  by_cases e : heldN m.l f (num m.fl f) = num m.fl f
  · rw [e]; exact num_le h.top f
  · have a := heldN_ge m.l f (num m.fl f)
    exact (h.seq (heldN_all (l := m.l) (f := f) (n := num m.fl f) (by omega) (Nat.le_refl _))).2.2

end Go.Proofs.Ytnpdjlcekmpmoaa
