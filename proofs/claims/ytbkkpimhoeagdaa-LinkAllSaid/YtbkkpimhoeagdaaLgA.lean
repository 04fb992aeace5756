/- A gate as plain data and in memory (as in stage 9). -/
import Derived.Test.YtbkkpimhoeagdaaSlNa
namespace Go.Proofs.Ytbkkpimhoeagdaa
open Go.RowKit Go.Sort
set_option maxRecDepth 20000

theorem uvs_len (l : List Nat) : (uvs l).length = l.length := List.length_map _
/-! ### A gate as plain data -/
/-- How many numbers were let in, were old, were ahead; whether word is owed. -/
structure Gt where
  u : Nat
  o : Nat
  a : Nat
  b : Bool

/-- What is made of a number behind u. -/
def kindN (u n : Nat) : Nat := if n ≤ u then 2 else if n = u + 1 then 1 else 3
theorem kindN_cases (u n : Nat) : kindN u n = 1 ∧ n = u + 1 ∨ kindN u n = 2 ∧ n ≤ u ∨ kindN u n = 3 ∧ u + 1 < n := by
  unfold kindN
  split
  · exact .inr (.inl ⟨rfl, by omega⟩)
  · split
    · exact .inl ⟨rfl, by omega⟩
    · exact .inr (.inr ⟨rfl, by omega⟩)
theorem kindN_one {u n : Nat} (h : n = u + 1) : kindN u n = 1 := by unfold kindN; rw [if_neg (by omega), if_pos h]
theorem kindN_two {u n : Nat} (h : n ≤ u) : kindN u n = 2 := by unfold kindN; rw [if_pos h]
theorem kindN_three {u n : Nat} (h : u + 1 < n) : kindN u n = 3 := by unfold kindN; rw [if_neg (by omega), if_neg (by omega)]

/-- One number comes. -/
def Gt.step (g : Gt) (n : Nat) : Gt := ⟨if n = g.u + 1 then g.u + 1 else g.u, if n ≤ g.u then g.o + 1 else g.o, if g.u + 1 < n then g.a + 1 else g.a, true⟩
theorem step_one {g : Gt} {n : Nat} (h : n = g.u + 1) : g.step n = ⟨g.u + 1, g.o, g.a, true⟩ := by unfold Gt.step; rw [if_pos h, if_neg (by omega), if_neg (by omega)]
theorem step_two {g : Gt} {n : Nat} (h : n ≤ g.u) : g.step n = ⟨g.u, g.o + 1, g.a, true⟩ := by unfold Gt.step; rw [if_neg (by omega), if_pos h, if_neg (by omega)]
theorem step_three {g : Gt} {n : Nat} (h : g.u + 1 < n) : g.step n = ⟨g.u, g.o, g.a + 1, true⟩ := by unfold Gt.step; rw [if_neg (by omega), if_neg (by omega), if_pos h]
/-- Numbers come: what is made of the last one, and the gate. -/
def takes (g : Gt) (l : List Nat) : Nat × Gt := l.foldl (fun s n => (kindN s.2.u n, s.2.step n)) (0, g)
theorem takes_nil (g : Gt) : takes g [] = (0, g) := rfl
theorem takes_snoc (g : Gt) (l : List Nat) (n : Nat) : takes g (l ++ [n]) = (kindN (takes g l).2.u n, (takes g l).2.step n) := by
  unfold takes
  rw [List.foldl_append]
  rfl
theorem takes_next (g : Gt) (l : List Nat) (k : Nat) (h : k < l.length) : takes g (l.take (k + 1)) = (kindN (takes g (l.take k)).2.u l[k], (takes g (l.take k)).2.step l[k]) := by
  rw [List.take_succ_eq_append_getElem h, takes_snoc]
def Gt.sum (g : Gt) : Nat := g.u + g.o + g.a
theorem step_sum (g : Gt) (n : Nat) : (g.step n).sum = g.sum + 1 := by
  rcases Nat.lt_trichotomy n (g.u + 1) with h | h | h
  · rw [step_two (by omega)]; unfold Gt.sum; simp only; omega
  · rw [step_one h]; unfold Gt.sum; simp only; omega
  · rw [step_three h]; unfold Gt.sum; simp only; omega
theorem takes_sum (g : Gt) (l : List Nat) : (takes g l).2.sum = g.sum + l.length := by
  suffices h : ∀ k, k ≤ l.length → (takes g (l.take k)).2.sum = g.sum + k by
    have := h l.length (Nat.le_refl _)
    rwa [List.take_of_length_le (Nat.le_refl _)] at this
  intro k
  induction k with
  | zero => intro _; simp [takes_nil]
  | succ k ih =>
    intro hk
    rw [takes_next g l k hk, step_sum, ih (by omega)]
    omega
/-- How many came of which that was made. -/
def Gt.cnt (g : Gt) (k : Nat) : Nat := if k = 1 then g.u else if k = 2 then g.o else if k = 3 then g.a else 0

/-! ### A gate in memory -/
def Gt.cells (g : Gt) : Array Value := #[.int .u64 0, .int .u64 (g.u : Int), .int .u64 (g.o : Int), .int .u64 (g.a : Int), .bool g.b]
def GateAt (w : World) (p : Nat) (g : Gt) : Prop := w.heap[p]? = some (.cells g.cells 95 (0, 0))

section
variable {w w' : World} {p : Nat} {g : Gt}
theorem GateAt.lt (h : GateAt w p g) : p < w.heap.size := (Array.getElem?_eq_some_iff.1 h).1
theorem GateAt.kept {D : Nat → Prop} (h : GateAt w p g) (ho : OnlyE w w' D) (hp : ¬ D p) : GateAt w' p g := (ho.same p h.lt hp).trans h
theorem GateAt.on (h : GateAt w p g) (hb : RowKit.Below w.heap.size w w') : GateAt w' p g := (hb.block p h.lt).trans h
theorem GateAt.c0 (h : GateAt w p g) : w.cell? ⟨p, 0, none⟩ = some (.int .u64 0) := cell_of_row w p 0 _ _ _ h
theorem GateAt.c1 (h : GateAt w p g) : w.cell? ⟨p, 1, none⟩ = some (.int .u64 (g.u : Int)) := cell_of_row w p 1 _ _ _ h
theorem GateAt.c2 (h : GateAt w p g) : w.cell? ⟨p, 2, none⟩ = some (.int .u64 (g.o : Int)) := cell_of_row w p 2 _ _ _ h
theorem GateAt.c3 (h : GateAt w p g) : w.cell? ⟨p, 3, none⟩ = some (.int .u64 (g.a : Int)) := cell_of_row w p 3 _ _ _ h
theorem GateAt.c4 (h : GateAt w p g) : w.cell? ⟨p, 4, none⟩ = some (.bool g.b) := cell_of_row w p 4 _ _ _ h
theorem GateAt.fr (h : GateAt w p g) (j : Nat) : w.frozen? ⟨p, j, none⟩ = false := frozen_of_row w p j _ _ h
theorem GateAt.set4 (h : GateAt w p g) (b : Bool) : GateAt (w.setCell ⟨p, 4, none⟩ (.bool b)) p ⟨g.u, g.o, g.a, b⟩ := heap_setCell_same w p 4 _ _ _ h
theorem GateAt.set1 (h : GateAt w p g) (n : Nat) : GateAt (w.setCell ⟨p, 1, none⟩ (.int .u64 (n : Int))) p ⟨n, g.o, g.a, g.b⟩ := heap_setCell_same w p 1 _ _ _ h
theorem GateAt.set2 (h : GateAt w p g) (n : Nat) : GateAt (w.setCell ⟨p, 2, none⟩ (.int .u64 (n : Int))) p ⟨g.u, n, g.a, g.b⟩ := heap_setCell_same w p 2 _ _ _ h
theorem GateAt.set3 (h : GateAt w p g) (n : Nat) : GateAt (w.setCell ⟨p, 3, none⟩ (.int .u64 (n : Int))) p ⟨g.u, g.o, n, g.b⟩ := heap_setCell_same w p 3 _ _ _ h
theorem GateAt.new (w : World) (t : Gt) : GateAt (w.alloc (.cells t.cells 95)) w.heap.size t := heap_alloc_new w _
end

end Go.Proofs.Ytbkkpimhoeagdaa
