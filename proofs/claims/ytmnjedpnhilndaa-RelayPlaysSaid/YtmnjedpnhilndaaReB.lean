/- Stage 16: vectors (picked out of elder texts). -/
import Derived.Test.YtmnjedpnhilndaaReA
namespace Go.Proofs.Ytmnjedpnhilndaa
open Go.RowKit Go.Sort Go.ChangeShapes Go.WideShapes Go.ChangeAt

/-- A value that is a slice of just these numbers, below block B. -/
def Vec (w : World) (B : Nat) (v : Value) (l : List Nat) : Prop := ∃ A n c, v = .slice A n c ∧ l.length = n ∧ n ≤ c ∧ c ≤ maxLen ∧ Lies w B A (uvs l)

theorem Vec.later {w w' : World} {v : Value} {l : List Nat} (h : Vec w w.heap.size v l) (hb : Below w.heap.size w w') : Vec w' w'.heap.size v l := by
  obtain ⟨A, n, c, rfl, h1, h2, h3, h4⟩ := h
  exact ⟨A, n, c, rfl, h1, h2, h3, h4.later hb⟩

/-- A slice of rows of numbers: its cells, and of each what it reads as. -/
def VecRows (w : World) (B : Nat) (vs : List Value) (ls : List (List Nat)) : Prop := vs.length = ls.length ∧ ∀ i, (h : i < vs.length) → (h' : i < ls.length) → Vec w B vs[i] ls[i]

theorem VecRows.later {w w' : World} {vs : List Value} {ls : List (List Nat)} (h : VecRows w w.heap.size vs ls) (hb : Below w.heap.size w w') : VecRows w' w'.heap.size vs ls :=
  ⟨h.1, fun i h1 h2 => (h.2 i h1 h2).later hb⟩

theorem VecRows.nil {w : World} {B : Nat} : VecRows w B [] [] := ⟨rfl, fun i h => absurd h (by simp)⟩

theorem VecRows.cons {w : World} {B : Nat} {v : Value} {l : List Nat} {vs : List Value} {ls : List (List Nat)} (h : Vec w B v l) (t : VecRows w B vs ls) : VecRows w B (v :: vs) (l :: ls) :=
  ⟨by simp [t.1], fun i h1 h2 => by
    rcases i with _ | i
    · exact h
    · exact t.2 i (by simpa using h1) (by simpa using h2)⟩

/-- The number of a process. -/
def num (l : List Nat) (k : Nat) : Nat := l.getD k 0

theorem num_in {l : List Nat} {k : Nat} (h : k < l.length) : num l k = l[k] := by simp [num, h]

theorem num_out {l : List Nat} {k : Nat} (h : l.length ≤ k) : num l k = 0 := by unfold num; rw [List.getD_eq_getElem?_getD, List.getElem?_eq_none h]; rfl

section
variable {H : Type} {enc : TypeId × Value → H} {P : Program} {w : World} {base : Nat} {spare : Nat → Bool} {held : Bool}

theorem open_numRows {t e e' : TypeId} {fuel : Nat} {v : Value} {x : DataW H × List MemPlace} (ht : P.underlying t = some (.slice e)) (hc : P.cellsOf e = 1) (he : P.underlying e = some (.slice e')) (he' : P.underlying e' = some (.int .u64)) (hc' : P.cellsOf e' = 1)
    (h : DataW.trod enc P w base spare held fuel t [v] = some x) : ∃ ls vs A n c, v = .slice A n c ∧ vs.length = n ∧ n ≤ c ∧ c ≤ maxLen ∧ Lies w w.heap.size A vs ∧ VecRows w w.heap.size vs ls := by
  rcases Deep.open_slice1 ht hc h with ⟨hcs, _⟩ | ⟨a, len, cap, m, n, V, D, Pl, hcs, _, hl, hm, hmm, _, hx⟩
  · injection hcs with hcs
    subst hcs
    exact ⟨[], [], none, 0, 0, rfl, rfl, Nat.le_refl _, Nat.zero_le _, Lies.nil, rfl, by simp⟩
  · injection hcs with hcs
    subst hcs
    have hlm : len ≤ m := by rw [hmm]; split <;> omega
    obtain ⟨L, hL⟩ := Deep.choose_lt (α := List Nat) (n := len) (p := fun i l => Vec w w.heap.size (V i) l) (fun i hi => by
      obtain ⟨l, A, n, c, h1, h2, h3, h4, h5, _⟩ := open_nums he he' hc' (hx i (by omega)).2
      exact ⟨l, A, n, c, h1, h2, h3, h4, h5⟩)
    refine ⟨(List.range len).map L, (List.range len).map V, some a, len, cap, rfl, by simp, hl, hm, ?_, by simp, ?_⟩
    · intro hn
      have hp : 0 < len := by
        rcases Nat.eq_zero_or_pos len with h0 | h0
        · subst h0; simp at hn
        · exact h0
      have h0 := (hx 0 (by omega)).1
      obtain ⟨b, off, spot⟩ := a
      have hspot : spot = none := by simpa [Addr.add] using World.cell?_spot h0
      subst hspot
      refine ⟨b, off, rfl, ?_, fun i u hu => ?_⟩
      · have := World.block_lt_of_cell? w _ h0
        rwa [Go.Proofs.Ytmnjedpnhilndaa.add_plain] at this
      · rw [List.getElem?_map, Option.map_eq_some_iff] at hu
        obtain ⟨j, hj, rfl⟩ := hu
        obtain ⟨hi, rfl⟩ := List.getElem?_eq_some_iff.1 hj
        have := (hx i (by simp at hi; omega)).1
        rw [Go.Proofs.Ytmnjedpnhilndaa.add_plain] at this
        simpa using this
    · intro i h1 _
      have := hL i (by simpa using h1)
      simpa using this

end

/-- The number of a process, whatever the place. -/
def atI (l : List Nat) (i : Int) : Nat := if i < 0 then 0 else num l i.toNat

theorem atI_nat (l : List Nat) (k : Nat) : atI l (k : Int) = num l k := by unfold atI; rw [if_neg (by omega)]; rfl

set_option maxHeartbeats 400000 in
theorem at_any (A : Option Addr) (n c : Nat) (i : Int) (B : Nat) (l : List Nat) (w : World) (hl : l.length = n) (h : Lies w B A (uvs l)) :
    Calls Try.prog 31 #[.slice A n c, .int .i64 i] w fun e w' => e = .returned (.int .u64 (atI l i : Int)) ∧ w = w' := by
  by_cases h0 : i < 0
  · have e0 : atI l i = 0 := by unfold atI; rw [if_pos h0]
    rw [e0]
    go_enter Try.func31, Try.ntmps31
    go_wp2
    go_ret
    exact ⟨rfl, rfl⟩
  · obtain ⟨k, rfl⟩ : ∃ k : Nat, i = (k : Int) := ⟨i.toNat, by omega⟩
    rw [atI_nat]
    by_cases hk : k < n
    · have hk1 : k < l.length := by rw [hl]; exact hk
      rw [num_in hk1]
      obtain ⟨b, off, rfl, hb, hc⟩ := h.at_ (uvs_at hk1)
      generalize (l[k] : Int) = x at hc
      clear hl
      go_enter Try.func31, Try.ntmps31
      go_wp2
      go_ret
      exact ⟨rfl, rfl⟩
    · rw [num_out (by omega)]
      clear hl
      go_enter Try.func31, Try.ntmps31
      go_wp2
      go_ret
      exact ⟨rfl, rfl⟩

theorem at_nat (A : Option Addr) (n c : Nat) (k : Nat) (B : Nat) (l : List Nat) (w : World) (hl : l.length = n) (h : Lies w B A (uvs l)) :
    Calls Try.prog 31 #[.slice A n c, .int .i64 (k : Int)] w fun e w' => e = .returned (.int .u64 (num l k : Int)) ∧ w = w' := by
  rw [← atI_nat]
  exact at_any A n c k B l w hl h

set_option maxHeartbeats 400000 in
theorem refAt_any (A : Option Addr) (n c : Nat) (i : Int) (B : Nat) (l : List Nat) (w : World) (hl : l.length = n) (h : Lies w B A (uvs l)) :
    Calls Try.prog 26 #[.slice A n c, .int .i64 i] w fun e w' => e = .returned (.int .u64 (atI l i : Int)) ∧ w = w' := by
  by_cases h0 : i < 0
  · have e0 : atI l i = 0 := by unfold atI; rw [if_pos h0]
    rw [e0]
    go_enter Try.func26, Try.ntmps26
    go_wp2
    go_ret
    exact ⟨rfl, rfl⟩
  · obtain ⟨k, rfl⟩ : ∃ k : Nat, i = (k : Int) := ⟨i.toNat, by omega⟩
    rw [atI_nat]
    by_cases hk : k < n
    · have hk1 : k < l.length := by rw [hl]; exact hk
      rw [num_in hk1]
      obtain ⟨b, off, rfl, hb, hc⟩ := h.at_ (uvs_at hk1)
      generalize (l[k] : Int) = x at hc
      clear hl
      go_enter Try.func26, Try.ntmps26
      go_wp2
      go_ret
      exact ⟨rfl, rfl⟩
    · rw [num_out (by omega)]
      clear hl
      go_enter Try.func26, Try.ntmps26
      go_wp2
      go_ret
      exact ⟨rfl, rfl⟩

theorem refAt_nat (A : Option Addr) (n c : Nat) (k : Nat) (B : Nat) (l : List Nat) (w : World) (hl : l.length = n) (h : Lies w B A (uvs l)) :
    Calls Try.prog 26 #[.slice A n c, .int .i64 (k : Int)] w fun e w' => e = .returned (.int .u64 (num l k : Int)) ∧ w = w' := by
  rw [← atI_nat]
  exact refAt_any A n c k B l w hl h

end Go.Proofs.Ytmnjedpnhilndaa
