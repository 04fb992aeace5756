/- Stage 15: the program's and the document's calls answer the same, at all arguments. -/
import Derived.Test.YtjpahccpkonjkaaRnE
set_option maxRecDepth 20000
namespace Go.Proofs.Ytjpahccpkonjkaa
open Go.RowKit Go.Sort

/-- A process of a ring, or none. -/
theorem ring_cases (n p : Int) : (∃ N P : Nat, n = (N : Int) ∧ p = (P : Int) ∧ P < N ∧ N ≤ 64) ∨ ¬ (n ≤ 64 ∧ 0 ≤ p ∧ p < n) := by
  by_cases h : n ≤ 64 ∧ 0 ≤ p ∧ p < n
  · exact .inl ⟨n.toNat, p.toNat, by omega, by omega, by omega, by omega⟩
  · exact .inr h

section
variable (n p : Int) (A : Option Addr) (m c : Nat) (l : List Int) (w : World) (hl : l.length = m) (hm : m ≤ 1000) (hL : Lies w w.heap.size A (zvs l))
include hl hm hL

theorem next_both : ∃ v : Int, ∀ W, RowKit.Below w.heap.size w W →
    (Calls Try.prog 7 #[.int .i64 n, .int .i64 p, .slice A m c] W fun e w' => e = .returned (.int .i64 v) ∧ RowKit.Below W.heap.size W w') ∧
    (Calls Try.prog 8 #[.int .i64 n, .int .i64 p, .slice A m c] W fun e w' => e = .returned (.int .i64 v) ∧ RowKit.Below W.heap.size W w') := by
  rcases ring_cases n p with ⟨N, P, rfl, rfl, h1, h2⟩ | h
  · exact ⟨_, fun W hW => ⟨next_any N P h1 h2 A m c l W hl hm (hL.on hW), refNext_any N P h1 h2 A m c l W hl hm (hL.on hW)⟩⟩
  · exact ⟨-1, fun W _ => ⟨(next_no n p _ h W).mono fun _ _ ⟨he, e⟩ => ⟨he, e ▸ RowKit.Below.refl _ _⟩, (refNext_no n p _ h W).mono fun _ _ ⟨he, e⟩ => ⟨he, e ▸ RowKit.Below.refl _ _⟩⟩⟩

theorem way_both : ∃ L : List Nat, L.length ≤ 64 ∧ ∀ W, RowKit.Below w.heap.size w W →
    (Calls Try.prog 10 #[.int .i64 n, .int .i64 p, .slice A m c] W fun e w' => OwnedK W W.heap.size L e w') ∧
    (Calls Try.prog 11 #[.int .i64 n, .int .i64 p, .slice A m c] W fun e w' => OwnedK W W.heap.size L e w') := by
  rcases ring_cases n p with ⟨N, P, rfl, rfl, h1, h2⟩ | h
  · exact ⟨_, Nat.le_trans way_len (by omega), fun W hW => ⟨way_any N P h1 h2 A m c l W hl hm (hL.on hW), refWay_any N P h1 h2 A m c l W hl hm (hL.on hW)⟩⟩
  · exact ⟨[], by simp, fun W _ => ⟨way_no n p _ h W, refWay_no n p _ h W⟩⟩
end

theorem steps_both (n a b : Int) : ∃ v : Int, ∀ W,
    (Calls Try.prog 12 #[.int .i64 n, .int .i64 a, .int .i64 b] W fun e w' => e = .returned (.int .i64 v) ∧ W = w') ∧
    (Calls Try.prog 13 #[.int .i64 n, .int .i64 a, .int .i64 b] W fun e w' => e = .returned (.int .i64 v) ∧ W = w') := by
  rcases ring_cases n a with ⟨N, P, rfl, rfl, h1, h2⟩ | h
  · rcases ring_cases N b with ⟨N', Q, hN, rfl, h3, h4⟩ | h'
    · obtain rfl : N = N' := by omega
      exact ⟨_, fun W => ⟨steps_any N P Q h1 h3 h2 W, refSteps_any N P Q h1 h3 h2 W⟩⟩
    · exact ⟨-1, fun W => ⟨steps_no _ _ _ (.inr h') W, refSteps_no _ _ _ (.inr h') W⟩⟩
  · exact ⟨-1, fun W => ⟨steps_no _ _ _ (.inl h) W, refSteps_no _ _ _ (.inl h) W⟩⟩

end Go.Proofs.Ytjpahccpkonjkaa
