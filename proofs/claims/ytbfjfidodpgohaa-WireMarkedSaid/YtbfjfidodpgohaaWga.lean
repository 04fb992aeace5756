/- The document's takeNums: numbers that stand next. -/
import Derived.Test.YtbfjfidodpgohaaT33

namespace Go.Proofs.Ytbfjfidodpgohaa
open Go.RowKit Go.Sort

theorem rN_bad {m : Nat} {s : Rs} (h : s.2 ≠ 0) : rN m s = (0, s) := by
  unfold rN
  have : rnum s.1 s.2 m = (0, s.1, s.2) := by simp [rnum, h]
  rw [this]

/-- Behind an error nothing is read. -/
theorem rVec_stop {k n : Nat} {s : Rs} (h : (rVec k s).2.2 ≠ 0) (hk : k ≤ n) : (rVec n s).2 = (rVec k s).2 := by
  induction n with
  | zero =>
    have : k = 0 := by omega
    subst this
    rfl
  | succ n ih =>
    by_cases e : k = n + 1
    · subst e; rfl
    · have h1 := ih (by omega)
      show (rN top (rVec n s).2).2 = _
      rw [rN_bad (by rw [h1]; exact h)]
      exact h1

theorem rRuns_stop {k n : Nat} {s : Rs} (h : (rRuns k s).2.2 ≠ 0) (hk : k ≤ n) : (rRuns n s).2 = (rRuns k s).2 := by
  induction n with
  | zero =>
    have : k = 0 := by omega
    subst this
    rfl
  | succ n ih =>
    by_cases e : k = n + 1
    · subst e; rfl
    · have h1 := ih (by omega)
      have h2 : (rRuns n s).2.2 ≠ 0 := by rw [h1]; exact h
      show (rN top (rN top (rN 255 (rRuns n s).2).2).2).2 = _
      rw [rN_bad h2, rN_bad h2, rN_bad h2]
      exact h1

/-- A reader of the document's: what stands behind it, and its error; it lies below B. -/
def RAt (w : World) (B : Nat) (s : Rs) (v : Value) : Prop := ∃ A n c, v = .agg #[.slice A n c, .int .i64 (s.2 : Int)] ∧ s.1.length = n ∧ n ≤ c ∧ Lies w B A (bvs s.1)
theorem RAt.below {w w' : World} {B : Nat} {s : Rs} {v : Value} (h : RAt w B s v) (hb : RowKit.Below B w w') : RAt w' B s v := by
  obtain ⟨A, n, c, e, h1, h2, h3⟩ := h
  exact ⟨A, n, c, e, h1, h2, h3.below hb⟩

/-- R.Num, over a reader as a value. -/
theorem rNum_v {w : World} {B : Nat} {s : Rs} {v : Value} (most : Nat) (h : RAt w B s v) (hB : B ≤ w.heap.size) (hl : s.1.length ≤ 4000) :
    Calls Try.prog 23 #[v, .int .u64 (most : Int)] w fun e w' => ∃ v', e = .returned (.tuple #[.int .u64 ((rN most s).1 : Int), v']) ∧ RAt w' B (rN most s).2 v' ∧ RowKit.Below w.heap.size w w' := by
  obtain ⟨A, n, c, rfl, h1, h2, h3⟩ := h
  refine (refRNum_any A B n c s.2 most s.1 w h1 h2 h3 hB (by omega)).mono ?_
  rintro e w' ⟨A', n', c', rfl, hn', hc', hL', hb', -⟩
  exact ⟨_, rfl, ⟨A', n', c', rfl, hn'.out, hc', hL'⟩, hb'⟩

/-- R.Row, over a reader as a value. -/
theorem rRow_v {w : World} {B : Nat} {s : Rs} {v : Value} (h : RAt w B s v) (hB : B ≤ w.heap.size) (hl : s.1.length ≤ 4000) :
    Calls Try.prog 51 #[v, .int .i64 65536] w fun e w' => ∃ Ar nr cr v', e = .returned (.tuple #[.slice Ar nr cr, v']) ∧ (rRow s).1.length = nr ∧ Lies w' B Ar (bvs (rRow s).1) ∧ RAt w' B (rRow s).2 v' ∧ RowKit.Below w.heap.size w w' := by
  obtain ⟨A, n, c, rfl, h1, h2, h3⟩ := h
  refine (refRRow_any A B n c s.2 65536 s.1 w h1 h2 h3 hB (by omega) (by omega)).mono ?_
  rintro e w' ⟨Ar, nr, cr, A', n', c', rfl, hnr, hLr, hn', hc', hL', hb'⟩
  exact ⟨Ar, nr, cr, _, rfl, hnr.out, hLr, ⟨A', n', c', rfl, hn'.out, hc', hL'⟩, hb'⟩

end Go.Proofs.Ytbfjfidodpgohaa
