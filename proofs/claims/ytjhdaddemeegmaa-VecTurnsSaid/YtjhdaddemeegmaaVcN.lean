/- Covers of one vector, in a list that has just been laid for the call; and what great tells. -/
import Derived.Test.YtjhdaddemeegmaaVcF
import Derived.Test.YtjhdaddemeegmaaVcM
namespace Go.Proofs.Ytjhdaddemeegmaa
open Go.RowKit

theorem Vec.parts {w : World} {B : Nat} {A : Option Addr} {n c : Nat} {l : List Nat} (h : Vec w B (.slice A n c) l) : l.length = n ∧ n ≤ c ∧ c ≤ maxLen ∧ Lies w B A (uvs l) := by
  obtain ⟨A', n', c', he, h1, h2, h3, h4⟩ := h
  injection he with e1 e2 e3
  subst e1 e2 e3
  exact ⟨h1, h2, h3, h4⟩

theorem covers_one {w W : World} (hb : Below w.heap.size w W) {A : Option Addr} {n c : Nat} {x : List Nat} {A' : Option Addr} {n' c' : Nat} {y : List Nat} (hx : Vec w w.heap.size (.slice A n c) x) (hy : Vec w w.heap.size (.slice A' n' c') y) (hn : n ≤ 1000) (hn' : n' ≤ 1000) :
    Calls Try.prog 23 #[.slice A n c, .slice (some ⟨W.heap.size, 0, none⟩) 1 1] (W.alloc (.cells #[.slice A' n' c'] 22)) fun e w' => e = .returned (.bool (coversB x [y])) ∧ W.alloc (.cells #[.slice A' n' c'] 22) = w' := by
  obtain ⟨l1, _, _, h1⟩ := hx.parts
  obtain ⟨l2, _, _, _⟩ := hy.parts
  obtain ⟨r1, r2, r3⟩ := rows_laid (w := W) 22 (cs := #[.slice A' n' c']) rfl (VecRows.cons (hy.later hb) VecRows.nil)
  exact covers_any A n c _ x _ 1 1 _ _ _ hn (by omega) (by simp; omega) l1 ((h1.later hb).later r3) rfl r1 r2

theorem great_says {ls : List (List Nat)} (h : (ls.any fun x => decide (100 < x.length)) = false) : ∀ l ∈ ls, l.length ≤ 100 := by
  rw [List.any_eq_false] at h
  intro l hl
  have := h l hl
  simp at this
  omega

theorem vec_alloc {w W : World} (o : Obj) (hb : Below w.heap.size w W) : Below w.heap.size w (W.alloc o) := hb.alloc hb.size o

end Go.Proofs.Ytjhdaddemeegmaa
