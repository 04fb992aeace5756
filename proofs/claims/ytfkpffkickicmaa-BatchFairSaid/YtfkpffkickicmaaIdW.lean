/- Words for layer 3: ids and runs, and lists of them as cells of memory; slices of the call's own that hold them. -/
import Derived.Test.YtfkpffkickicmaaRows
import Derived.Test.YtfkpffkickicmaaOpen
import Derived.Laws.OwnMore
import Derived.WalkKit
import Derived.Lib.Hide
import Derived.WalkSpells
import Derived.WalkLawsBesides
namespace Go.Proofs.Ytfkpffkickicmaa
open Go.RowKit

/-- An id: its sender and its number. -/
structure Id where
  f : Nat
  s : Nat
  hf : f < 256
  hs : s < 18446744073709551616
deriving DecidableEq

instance : Inhabited Id := ⟨⟨0, 0, by decide, by decide⟩⟩

/-- A run: its sender, its first number, how many. -/
structure Rn where
  f : Nat
  a : Nat
  c : Nat
  hf : f < 256
  ha : a < 18446744073709551616
  hc : c < 18446744073709551616
deriving DecidableEq

instance : Inhabited Rn := ⟨⟨0, 0, 0, by decide, by decide, by decide⟩⟩

theorem Id.same {x y : Id} (h1 : x.f = y.f) (h2 : x.s = y.s) : x = y := by cases x; cases y; simp_all
theorem Rn.same {x y : Rn} (h1 : x.f = y.f) (h2 : x.a = y.a) (h3 : x.c = y.c) : x = y := by cases x; cases y; simp_all

def encId (x : Id) : List Value := [.int .u8 (x.f : Int), .int .u64 (x.s : Int)]
def encRn (x : Rn) : List Value := [.int .u8 (x.f : Int), .int .u64 (x.a : Int), .int .u64 (x.c : Int)]
def valId (x : Id) : Value := .agg #[.int .u8 (x.f : Int), .int .u64 (x.s : Int)]
def valRn (x : Rn) : Value := .agg #[.int .u8 (x.f : Int), .int .u64 (x.a : Int), .int .u64 (x.c : Int)]

theorem encId_len (x : Id) : (encId x).length = 2 := rfl
theorem encRn_len (x : Rn) : (encRn x).length = 3 := rfl
theorem encId_one (x : Id) : ∀ v ∈ encId x, v.oneCell' = true := by
  intro v hv
  simp [encId] at hv
  rcases hv with rfl | rfl <;> rfl
theorem encRn_one (x : Rn) : ∀ v ∈ encRn x, v.oneCell' = true := by
  intro v hv
  simp [encRn] at hv
  rcases hv with rfl | rfl | rfl <;> rfl

section
variable {α : Type} {enc : α → List Value} {k : Nat}

/-- The cells of a list, one behind the other. -/
def flat (enc : α → List Value) (l : List α) : List Value := l.flatMap enc

theorem flat_nil : flat enc [] = [] := rfl
theorem flat_cons (x : α) (l : List α) : flat enc (x :: l) = enc x ++ flat enc l := by simp [flat]
theorem flat_append (a b : List α) : flat enc (a ++ b) = flat enc a ++ flat enc b := by simp [flat]
theorem flat_length (hk : ∀ x, (enc x).length = k) (l : List α) : (flat enc l).length = l.length * k := by
  induction l with
  | nil => simp [flat]
  | cons x l ih => rw [flat_cons, List.length_append, hk, ih, List.length_cons, Nat.succ_mul]; omega

theorem flat_one (h1 : ∀ x, ∀ v ∈ enc x, v.oneCell' = true) (l : List α) : ∀ v ∈ flat enc l, v.oneCell' = true := by
  intro v hv
  simp only [flat, List.mem_flatMap] at hv
  obtain ⟨x, _, hx⟩ := hv
  exact h1 x v hx

theorem flat_at (hk : ∀ x, (enc x).length = k) : ∀ (l : List α) (i j : Nat), j < k → (h : i < l.length) → (flat enc l)[i * k + j]? = (enc l[i])[j]?
  | [], i, j, _, h => by simp at h
  | x :: l, 0, j, hj, _ => by
    rw [flat_cons, Nat.zero_mul, Nat.zero_add, List.getElem?_append_left (by rw [hk]; exact hj)]
    rfl
  | x :: l, i + 1, j, hj, h => by
    rw [flat_cons, List.getElem?_append_right (by rw [hk, Nat.succ_mul]; omega), hk, show (i + 1) * k + j - k = i * k + j by rw [Nat.succ_mul]; omega]
    exact flat_at hk l i j hj (by simpa using h)

theorem flat_take (hk : ∀ x, (enc x).length = k) (l : List α) (m : Nat) (h : m ≤ l.length) : (flat enc l).take (m * k) = flat enc (l.take m) := by
  conv => lhs; rw [← List.take_append_drop m l, flat_append]
  rw [List.take_left']
  rw [flat_length hk, List.length_take, Nat.min_eq_left h]

theorem flat_drop (hk : ∀ x, (enc x).length = k) (l : List α) (m : Nat) (h : m ≤ l.length) : (flat enc l).drop (m * k) = flat enc (l.drop m) := by
  conv => lhs; rw [← List.take_append_drop m l, flat_append]
  rw [List.drop_left']
  rw [flat_length hk, List.length_take, Nat.min_eq_left h]

end

theorem ids_set (l : List Id) (i : Nat) (x : Id) (h : i < l.length) : ((flat encId l).set (i * 2) (.int .u8 (x.f : Int))).set (i * 2 + 1) (.int .u64 (x.s : Int)) = flat encId (l.set i x) := by
  induction l generalizing i with
  | nil => simp at h
  | cons y l ih =>
    rcases i with _ | i
    · simp [flat_cons, encId]
    · have := ih i (by simpa using h)
      rw [List.set_cons_succ, flat_cons, flat_cons, ← this]
      simp [encId, Nat.succ_mul]

theorem rns_set (l : List Rn) (i : Nat) (x : Rn) (h : i < l.length) : (((flat encRn l).set (i * 3) (.int .u8 (x.f : Int))).set (i * 3 + 1) (.int .u64 (x.a : Int))).set (i * 3 + 2) (.int .u64 (x.c : Int)) = flat encRn (l.set i x) := by
  induction l generalizing i with
  | nil => simp at h
  | cons y l ih =>
    rcases i with _ | i
    · simp [flat_cons, encRn]
    · have := ih i (by simpa using h)
      rw [List.set_cons_succ, flat_cons, flat_cons, ← this]
      simp [encRn, Nat.succ_mul]

theorem ids_at0 (l : List Id) (i : Nat) (h : i < l.length) : (flat encId l)[i * 2]? = some (.int .u8 (l[i].f : Int)) := by have := flat_at encId_len l i 0 (by decide) h; simpa [encId] using this
theorem ids_at1 (l : List Id) (i : Nat) (h : i < l.length) : (flat encId l)[i * 2 + 1]? = some (.int .u64 (l[i].s : Int)) := by have := flat_at encId_len l i 1 (by decide) h; simpa [encId] using this
theorem rns_at0 (l : List Rn) (i : Nat) (h : i < l.length) : (flat encRn l)[i * 3]? = some (.int .u8 (l[i].f : Int)) := by have := flat_at encRn_len l i 0 (by decide) h; simpa [encRn] using this
theorem rns_at1 (l : List Rn) (i : Nat) (h : i < l.length) : (flat encRn l)[i * 3 + 1]? = some (.int .u64 (l[i].a : Int)) := by have := flat_at encRn_len l i 1 (by decide) h; simpa [encRn] using this
theorem rns_at2 (l : List Rn) (i : Nat) (h : i < l.length) : (flat encRn l)[i * 3 + 1 + 1]? = some (.int .u64 (l[i].c : Int)) := by have := flat_at encRn_len l i 2 (by decide) h; simpa [encRn] using this

theorem Lies.on {w w' : World} {A : Option Addr} {xs : List Value} (h : Lies w w.heap.size A xs) (hb : Below w.heap.size w w') : Lies w' w'.heap.size A xs := (h.below hb).more hb.size

/-- The ids that a slice reads as, cell by cell. -/
theorem Lies.id {w : World} {B : Nat} {A : Option Addr} {l : List Id} (h : Lies w B A (flat encId l)) {i : Nat} (hi : i < l.length) :
    ∃ b off, A = some ⟨b, off, none⟩ ∧ b < B ∧ w.cell? ⟨b, off + i * 2, none⟩ = some (.int .u8 (l[i].f : Int)) ∧ w.cell? ⟨b, off + i * 2 + 1, none⟩ = some (.int .u64 (l[i].s : Int)) := by
  obtain ⟨b, off, rfl, hb, hc⟩ := h (by intro h0; have := ids_at0 l i hi; rw [h0] at this; simp at this)
  exact ⟨b, off, rfl, hb, hc _ _ (ids_at0 l i hi), hc _ _ (ids_at1 l i hi)⟩

theorem Lies.rn {w : World} {B : Nat} {A : Option Addr} {l : List Rn} (h : Lies w B A (flat encRn l)) {i : Nat} (hi : i < l.length) :
    ∃ b off, A = some ⟨b, off, none⟩ ∧ b < B ∧ w.cell? ⟨b, off + i * 3, none⟩ = some (.int .u8 (l[i].f : Int)) ∧ w.cell? ⟨b, off + i * 3 + 1, none⟩ = some (.int .u64 (l[i].a : Int)) ∧ w.cell? ⟨b, off + i * 3 + 1 + 1, none⟩ = some (.int .u64 (l[i].c : Int)) := by
  obtain ⟨b, off, rfl, hb, hc⟩ := h (by intro h0; have := rns_at0 l i hi; rw [h0] at this; simp at this)
  exact ⟨b, off, rfl, hb, hc _ _ (rns_at0 l i hi), hc _ _ (rns_at1 l i hi), hc _ _ (rns_at2 l i hi)⟩

/-- A slice of the call's own reads as what it holds. -/
theorem Lies.of_ownK {w : World} {A : Option Addr} {xs : List Value} {base n c k : Nat} {e : TypeId} (h : w.ownsRow base e k (.slice A n c) n xs) : Lies w w.heap.size A xs := fun hn => by
  have hl := h.1
  have hpos : 0 < n := by
    rcases Nat.eq_zero_or_pos n with h0 | h0
    · subst h0; exact absurd (List.eq_nil_of_length_eq_zero (by simpa using hl)) hn
    · exact h0
  obtain ⟨g, cap, hv, _, hlt⟩ := h.form hpos
  have hA : A = some ⟨g, 0, none⟩ := by injection hv
  subst hA
  refine ⟨g, 0, rfl, hlt, fun i u hu => ?_⟩
  have := h.cells (g := g) rfl i u hu
  rwa [add_plain] at this

theorem own_sliceK {w : World} {base k : Nat} {e : TypeId} {v : Value} {n : Nat} {xs : List Value} (h : w.ownsRow base e k v n xs) :
    ∃ A c, v = .slice A n c ∧ n ≤ c ∧ c ≤ maxLen := by
  rcases h.2 with ⟨rfl, rfl⟩ | ⟨g, cap, cur, rfl, _, _, hc, hm, _⟩
  · exact ⟨none, 0, rfl, Nat.le_refl _, Nat.zero_le _⟩
  · exact ⟨_, cap, rfl, hc, hm⟩

/-- What stands in front of such a slice. -/
theorem own_front {w : World} {base k : Nat} {e : TypeId} {A : Option Addr} {n c m : Nat} {xs : List Value} (h : w.ownsRow base e k (.slice A n c) n xs) (hm : m ≤ n) : w.ownsRow base e k (.slice A m c) m (xs.take (m * k)) := by
  refine ⟨?_, ?_⟩
  · rw [List.length_take, h.1, Nat.min_eq_left (Nat.mul_le_mul_right k hm)]
  · rcases h.2 with ⟨h0, rfl⟩ | ⟨g, cap, cur, hv, hb, hg, hc, hcm, hcs, ht⟩
    · injection h0 with e1 e2 e3
      subst e1 e3
      have : m = 0 := by omega
      subst this
      exact .inl ⟨rfl, rfl⟩
    · injection hv with e1 e2 e3
      subst e1 e3
      refine .inr ⟨g, c, cur, rfl, hb, hg, by omega, hcm, hcs, ?_⟩
      rw [← ht, List.take_take, Nat.min_eq_left (Nat.mul_le_mul_right k hm)]

/-- A block that the call has just laid. -/
theorem own_lit {k : Nat} (w : World) (cs : Array Value) (e : TypeId) (n base : Nat) (hb : base ≤ w.heap.size) (hn : n ≤ maxLen) (hs : cs.size = n * k) : (w.alloc (.cells cs e)).ownsRow base e k (.slice (some ⟨w.heap.size, 0, none⟩) n n) n cs.toList :=
  World.ownsRow_lit w cs n hb hn hs

end Go.Proofs.Ytfkpffkickicmaa
