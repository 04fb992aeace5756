/- Stage 17: grants as plain data. -/
import Derived.Test.YtenaoinkjdaoeaaGrA
set_option maxRecDepth 20000
namespace Go.Proofs.Ytenaoinkjdaoeaa
open Go.RowKit Go.Sort

/-- What a process told, and whether it is gone. -/
structure Wd where
  t : Nat
  h : Bool

def zeroW : Wd := ⟨0, false⟩
instance : Inhabited Wd := ⟨zeroW⟩
def encW (x : Wd) : List Value := [.int .u64 (x.t : Int), .bool x.h]
theorem encW_len (x : Wd) : (encW x).length = 2 := rfl
theorem encW_one (x : Wd) : ∀ v ∈ encW x, v.oneCell' = true := by
  intro v hv
  simp only [encW, List.mem_cons, List.not_mem_nil, or_false] at hv
  rcases hv with rfl | rfl <;> rfl

theorem made_ws (z : Array Value) (hz : z = #[.int .u64 0, .bool false]) (m : Nat) : (madeCells z (m * 2)).toList = flat encW (List.replicate m zeroW) := by
  subst hz
  refine List.ext_getElem? fun j => ?_
  by_cases h : j < m * 2
  · obtain ⟨q, r, hr, rfl⟩ : ∃ q r, r < 2 ∧ j = q * 2 + r := ⟨j / 2, j % 2, by omega, by omega⟩
    have hi : q < (List.replicate m zeroW).length := by simp; omega
    rw [flat_at encW_len _ q r hr hi, List.getElem_replicate]
    have hs : (q * 2 + r) % 2 = r := by omega
    simp only [madeCells, Array.toList_map, List.getElem?_map, Array.toList_range, List.getElem?_range h, Option.map_some]
    show some ((#[Value.int .u64 0, .bool false])[(q * 2 + r) % 2]!) = _
    rw [hs]
    rcases (show r = 0 ∨ r = 1 by omega) with rfl | rfl <;> rfl
  · rw [List.getElem?_eq_none (by simp [madeCells]; omega), List.getElem?_eq_none (by rw [flat_length encW_len]; simp; omega)]

/-- The process at a place. -/
def wat (l : List Wd) (i : Nat) : Wd := l.getD i zeroW
theorem wat_in {l : List Wd} {i : Nat} (h : i < l.length) : wat l i = l[i] := by simp [wat, h]
theorem wat_mem {l : List Wd} {i : Nat} (h : i < l.length) : wat l i ∈ l := by rw [wat_in h]; exact List.getElem_mem h
theorem wat_set {l : List Wd} {i : Nat} (h : i < l.length) (x : Wd) (j : Nat) : wat (l.set i x) j = if i = j then x else wat l j := by
  unfold wat
  rw [List.getD_eq_getElem?_getD, List.getElem?_set, List.getD_eq_getElem?_getD]
  by_cases e : i = j
  · subst e; simp [h]
  · simp [e]
theorem wd_t {l : List Wd} {i : Nat} (h : i < l.length) : (flat encW l)[i * 2]? = some (.int .u64 ((wat l i).t : Int)) := by
  have := flat_at encW_len l i 0 (by decide) h
  rw [Nat.add_zero] at this
  rw [this, wat_in h]; rfl
theorem wd_h {l : List Wd} {i : Nat} (h : i < l.length) : (flat encW l)[i * 2 + 1]? = some (.bool (wat l i).h) := by
  rw [flat_at encW_len l i 1 (by decide) h, wat_in h]; rfl
theorem set_t : ∀ {l : List Wd} {i : Nat} (_ : i < l.length) (u : Nat), (flat encW l).set (i * 2) (.int .u64 (u : Int)) = flat encW (l.set i ⟨u, (wat l i).h⟩)
  | x :: l, 0, _, u => rfl
  | x :: l, i + 1, h, u => by
    have ih := set_t (l := l) (i := i) (by simpa using h) u
    rw [List.set_cons_succ, flat_cons, flat_cons, show wat (x :: l) (i + 1) = wat l i from rfl, ← ih, show (i + 1) * 2 = i * 2 + 1 + 1 by omega]
    rfl
theorem set_h : ∀ {l : List Wd} {i : Nat} (_ : i < l.length) (b : Bool), (flat encW l).set (i * 2 + 1) (.bool b) = flat encW (l.set i ⟨(wat l i).t, b⟩)
  | x :: l, 0, _, u => rfl
  | x :: l, i + 1, h, u => by
    have ih := set_h (l := l) (i := i) (by simpa using h) u
    rw [List.set_cons_succ, flat_cons, flat_cons, show wat (x :: l) (i + 1) = wat l i from rfl, ← ih, show (i + 1) * 2 + 1 = i * 2 + 1 + 1 + 1 by omega]
    rfl

/-! ### Grants as plain data -/
def hasB (l : List Wd) (P : Int) : Bool := decide (0 ≤ P) && decide (P.toNat < l.length)
theorem hasB_iff {l : List Wd} {P : Int} : hasB l P = true ↔ ∃ k : Nat, P = (k : Int) ∧ k < l.length := by
  unfold hasB
  rw [Bool.and_eq_true, decide_eq_true_iff, decide_eq_true_iff]
  constructor
  · rintro ⟨h1, h2⟩
    exact ⟨P.toNat, by omega, h2⟩
  · rintro ⟨k, rfl, h⟩
    exact ⟨by omega, by simpa using h⟩
theorem hasB_nat {l : List Wd} {k : Nat} (h : k < l.length) : hasB l (k : Int) = true := hasB_iff.2 ⟨k, rfl, h⟩
def ofN (l : List Wd) (P : Int) : Nat := if hasB l P then (wat l P.toNat).t else 0
def tellB (l : List Wd) (P : Int) (u : Nat) : Bool := hasB l P && decide ((wat l P.toNat).t < u)
def tellL (l : List Wd) (P : Int) (u : Nat) : List Wd := if tellB l P u then l.set P.toNat ⟨u, (wat l P.toNat).h⟩ else l
def goneB (l : List Wd) (me : Nat) (P : Int) : Bool := hasB l P && decide (P.toNat ≠ me) && !(wat l P.toNat).h
def goneL (l : List Wd) (me : Nat) (P : Int) : List Wd := if goneB l me P then l.set P.toNat ⟨(wat l P.toNat).t, true⟩ else l
def goneN (l : List Wd) (me : Nat) (P : Int) : Nat := if goneB l me P then 1 else 0

def limF (m : Nat) (x : Wd) : Nat := if x.h then m else min m x.t
def lim (l : List Wd) : Nat := l.foldl limF 18446744073709551615
theorem lim_next {l : List Wd} {k : Nat} (h : k < l.length) : lim (l.take (k + 1)) = if (wat l k).h then lim (l.take k) else min (lim (l.take k)) (wat l k).t := by
  unfold lim
  rw [List.take_succ_eq_append_getElem h, List.foldl_append, wat_in h]
  rfl

theorem tellL_len (l : List Wd) (P : Int) (u : Nat) : (tellL l P u).length = l.length := by unfold tellL; split <;> simp
theorem goneL_len (l : List Wd) (me : Nat) (P : Int) : (goneL l me P).length = l.length := by unfold goneL; split <;> simp

/-- What each process told and whether it is gone, behind one that tells; behind one that goes. -/
theorem tellL_at (l : List Wd) (P : Int) (u j : Nat) (hj : j < l.length) : wat (tellL l P u) j = if P = (j : Int) ∧ (wat l j).t < u then ⟨u, (wat l j).h⟩ else wat l j := by
  unfold tellL tellB
  by_cases hP : hasB l P = true
  · obtain ⟨k, rfl, hk⟩ := hasB_iff.1 hP
    rw [hP, Bool.true_and, Int.toNat_natCast]
    by_cases h : (wat l k).t < u
    · rw [decide_eq_true h, if_pos rfl, wat_set hk]
      by_cases e : k = j
      · subst e; rw [if_pos rfl, if_pos ⟨rfl, h⟩]
      · rw [if_neg e, if_neg (fun h => e (by have := h.1; omega))]
    · rw [decide_eq_false h, if_neg (by decide)]
      rw [if_neg]
      rintro ⟨e, h'⟩
      have : k = j := by omega
      subst this
      exact h h'
  · rw [Bool.not_eq_true] at hP
    rw [hP, Bool.false_and, if_neg (by decide), if_neg]
    rintro ⟨rfl, -⟩
    rw [hasB_nat hj] at hP
    cases hP
theorem goneL_at (l : List Wd) (me : Nat) (P : Int) (j : Nat) (hj : j < l.length) : wat (goneL l me P) j = if P = (j : Int) ∧ j ≠ me then ⟨(wat l j).t, true⟩ else wat l j := by
  unfold goneL goneB
  by_cases hP : hasB l P = true
  · obtain ⟨k, rfl, hk⟩ := hasB_iff.1 hP
    rw [hP, Bool.true_and, Int.toNat_natCast]
    by_cases hm : k = me
    · rw [decide_eq_false (by simpa using hm), Bool.false_and, if_neg (by decide), if_neg]
      rintro ⟨e, h'⟩
      omega
    · rw [decide_eq_true hm, Bool.true_and]
      cases hh : (wat l k).h
      · rw [if_pos (show (!false) = true from rfl), wat_set hk]
        by_cases e : k = j
        · subst e; rw [if_pos rfl, if_pos ⟨rfl, hm⟩]
        · rw [if_neg e, if_neg (fun h => e (by have := h.1; omega))]
      · rw [if_neg (by decide)]
        by_cases e : (k : Int) = (j : Int) ∧ j ≠ me
        · rw [if_pos e]
          have : k = j := by have := e.1; omega
          subst this
          rw [← hh]
        · rw [if_neg e]
  · rw [Bool.not_eq_true] at hP
    rw [hP, Bool.false_and, Bool.false_and, if_neg (by decide), if_neg]
    rintro ⟨rfl, -⟩
    rw [hasB_nat hj] at hP
    cases hP

/-- What stands of grants: there is a process, I am one, and not gone; numbers fit. -/
structure Gok (me : Nat) (l : List Wd) : Prop where
  len : l.length ≤ 64
  lt : me < l.length
  here : (wat l me).h = false
  t : ∀ j, j < l.length → (wat l j).t < 18446744073709551616

theorem Gok.tell {me : Nat} {l : List Wd} (h : Gok me l) (P : Int) {u : Nat} (hu : u < 18446744073709551616) : Gok me (tellL l P u) := by
  refine ⟨by rw [tellL_len]; exact h.len, by rw [tellL_len]; exact h.lt, ?_, fun j hj => ?_⟩
  · rw [tellL_at l P u me h.lt]
    split
    · exact h.here
    · exact h.here
  · rw [tellL_len] at hj
    rw [tellL_at l P u j hj]
    split
    · exact hu
    · exact h.t j hj
theorem Gok.gone {me : Nat} {l : List Wd} (h : Gok me l) (P : Int) : Gok me (goneL l me P) := by
  refine ⟨by rw [goneL_len]; exact h.len, by rw [goneL_len]; exact h.lt, ?_, fun j hj => ?_⟩
  · rw [goneL_at l me P me h.lt, if_neg (by simp)]
    exact h.here
  · rw [goneL_len] at hj
    rw [goneL_at l me P j hj]
    split
    · exact h.t j hj
    · exact h.t j hj
def clampN (n : Int) : Nat := (max 1 (min n 64)).toNat
def clampM (n me : Int) : Nat := (max 0 (min me ((clampN n : Int) - 1))).toNat
theorem clampN_pos (n : Int) : 0 < clampN n ∧ clampN n ≤ 64 := by unfold clampN; omega
theorem clampM_lt (n me : Int) : clampM n me < clampN n := by unfold clampM; have := clampN_pos n; omega
theorem wat_new (n j : Nat) : wat (List.replicate n zeroW) j = zeroW := by
  unfold wat
  rw [List.getD_eq_getElem?_getD, List.getElem?_replicate]
  split <;> rfl
theorem Gok.new (n me : Int) : Gok (clampM n me) (List.replicate (clampN n) zeroW) := by
  refine ⟨by simpa using (clampN_pos n).2, by simpa using clampM_lt n me, by rw [wat_new]; rfl, fun j _ => by rw [wat_new]; decide⟩

/-- The limit: none of those that aren't gone told less; it is what one of them told. -/
theorem lim_le {l : List Wd} : ∀ k, k ≤ l.length → lim (l.take k) ≤ 18446744073709551615 ∧ ∀ j, j < k → (wat l j).h = false → lim (l.take k) ≤ (wat l j).t
  | 0, _ => ⟨Nat.le_refl _, fun j h => absurd h (Nat.not_lt_zero _)⟩
  | k + 1, hk => by
    obtain ⟨h1, h2⟩ := lim_le (l := l) k (by omega)
    rw [lim_next (by omega)]
    by_cases hh : (wat l k).h = true
    · rw [if_pos hh]
      refine ⟨h1, fun j hj hf => ?_⟩
      rcases Nat.lt_or_eq_of_le (Nat.lt_succ_iff.1 hj) with h | rfl
      · exact h2 j h hf
      · rw [hh] at hf; cases hf
    · rw [if_neg hh]
      refine ⟨by omega, fun j hj hf => ?_⟩
      rcases Nat.lt_or_eq_of_le (Nat.lt_succ_iff.1 hj) with h | rfl
      · have := h2 j h hf; omega
      · omega
theorem lim_of {l : List Wd} {j : Nat} (hj : j < l.length) (hf : (wat l j).h = false) : lim l ≤ (wat l j).t := by
  have := (lim_le (l := l) l.length (Nat.le_refl _)).2 j hj hf
  rwa [List.take_of_length_le (Nat.le_refl _)] at this
theorem lim_ge {l : List Wd} {x : Nat} (hx : x ≤ 18446744073709551615) : ∀ k, k ≤ l.length → (∀ j, j < l.length → (wat l j).h = false → x ≤ (wat l j).t) → x ≤ lim (l.take k)
  | 0, _, _ => hx
  | k + 1, hk, h => by
    have ih := lim_ge (l := l) hx k (by omega) h
    rw [lim_next (by omega)]
    by_cases hh : (wat l k).h = true
    · rw [if_pos hh]; exact ih
    · rw [if_neg hh]
      have := h k (by omega) (by simpa using hh)
      omega
theorem lim_least {l : List Wd} {x : Nat} (hx : x ≤ 18446744073709551615) (h : ∀ j, j < l.length → (wat l j).h = false → x ≤ (wat l j).t) : x ≤ lim l := by
  have := lim_ge (l := l) hx l.length (Nat.le_refl _) h
  rwa [List.take_of_length_le (Nat.le_refl _)] at this
theorem lim_max (l : List Wd) : lim l ≤ 18446744073709551615 := by
  have := (lim_le (l := l) l.length (Nat.le_refl _)).1
  rwa [List.take_of_length_le (Nat.le_refl _)] at this

/-- P17.2: the limit never falls. -/
theorem lim_tell (l : List Wd) (P : Int) (u : Nat) : lim l ≤ lim (tellL l P u) := by
  refine lim_least (lim_max l) fun j hj hf => ?_
  rw [tellL_len] at hj
  rw [tellL_at l P u j hj] at hf ⊢
  split
  · next h =>
    rw [if_pos h] at hf
    have := lim_of hj hf
    simp only
    omega
  · next h =>
    rw [if_neg h] at hf
    exact lim_of hj hf
theorem lim_gone (l : List Wd) (me : Nat) (P : Int) : lim l ≤ lim (goneL l me P) := by
  refine lim_least (lim_max l) fun j hj hf => ?_
  rw [goneL_len] at hj
  rw [goneL_at l me P j hj] at hf ⊢
  split
  · next h =>
    rw [if_pos h] at hf
    cases hf
  · next h =>
    rw [if_neg h] at hf
    exact lim_of hj hf

/-- Lists that read the same are one. -/
theorem wat_ext {a b : List Wd} (hl : a.length = b.length) (h : ∀ j, j < a.length → wat a j = wat b j) : a = b := by
  refine List.ext_getElem hl fun j h1 h2 => ?_
  have := h j h1
  rwa [wat_in h1, wat_in h2] at this

end Go.Proofs.Ytenaoinkjdaoeaa
