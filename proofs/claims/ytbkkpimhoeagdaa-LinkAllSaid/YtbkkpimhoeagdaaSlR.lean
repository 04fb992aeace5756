/- The document's window as a value: New, First; its boxes. -/
import Derived.Test.YtbkkpimhoeagdaaSlO
namespace Go.Proofs.Ytbkkpimhoeagdaa
open Go.RowKit Go.Sort
set_option maxRecDepth 20000

def rCells (width : Nat) (v : Value) (last : Nat) : Array Value := #[.int .i64 (width : Int), v, .int .u64 (last : Int)]
def zeroW : Array Value := #[.int .i64 0, .slice none 0 0, .int .u64 0]
theorem infoW {cs : Array Value} (h : cs.size = 3) : (Try.prog.info? 29).map (·.size) = some cs.size := by
  rw [h]
  kernel_rfl
theorem load_rowW {W : World} {g : Nat} {cs : Array Value} (hg : W.heap[g]? = some (.cells cs 29 (0, 0))) (hs : cs.size = 3) : (loadVar 29 ⟨g, 0, none⟩).run Try.prog W = .ok (.agg cs) W :=
  run_loadVar_row W g _ _ cs (0, 0) _ hg Try.underlying29 rfl (infoW hs)

theorem refNew_any (r : Int) (w : World) : Calls Try.prog 26 #[.int .i64 r] w fun e w' =>
    e = .returned (.agg #[.int .i64 (widthN r : Int), .slice none 0 0, .int .u64 0]) ∧ RowKit.Below w.heap.size w w' := by
  have hb : ∀ o, RowKit.Below w.heap.size w (w.alloc o) := fun o => (RowKit.Below.refl _ _).alloc (Nat.le_refl _) _
  by_cases hlo : r < 1
  · have HE : Hid ((widthN r : Int) = 1) := by show _ = _; unfold widthN; omega
    rw [HE.out]
    go_enter Try.func26, Try.ntmps26
    go_wp2
    exact bodyPost_ret (results_cell_row rfl _ _ _ _ _ _ _ rfl (heap_alloc_new _ _) Try.underlying29 rfl (by kernel_rfl)) rfl ⟨rfl, hb _⟩
  · by_cases hhi : 64 < r
    · have HE : Hid ((widthN r : Int) = 64) := by show _ = _; unfold widthN; omega
      rw [HE.out]
      go_enter Try.func26, Try.ntmps26
      go_wp2
      exact bodyPost_ret (results_cell_row rfl _ _ _ _ _ _ _ rfl (heap_alloc_new _ _) Try.underlying29 rfl (by kernel_rfl)) rfl ⟨rfl, hb _⟩
    · have HE : Hid ((widthN r : Int) = r) := by show _ = _; unfold widthN; omega
      rw [HE.out]
      go_enter Try.func26, Try.ntmps26
      go_wp2
      exact bodyPost_ret (results_cell_row rfl _ _ _ _ _ _ _ rfl (heap_alloc_new _ _) Try.underlying29 rfl (by kernel_rfl)) rfl ⟨rfl, hb _⟩

/-- The answer's list reads as ys, wherever the argument's read as lm, outside of blocks that were there. -/
def KeepsP (w : World) (A : Option Addr) (lm : List Pf) (A' : Option Addr) (ys : List Pf) (w' : World) : Prop :=
  ∀ D : Nat → Prop, (∀ b, D b → b < w.heap.size) → LiesX w D A (flat encPf lm) → LiesX w' D A' (flat encPf ys)
theorem KeepsP.same {w w' : World} (A : Option Addr) (lm : List Pf) (hb : RowKit.Below w.heap.size w w') : KeepsP w A lm A lm w' := fun _ _ h => h.kept (OnlyE.of_below hb)
theorem KeepsP.new {w w' : World} {A A' : Option Addr} {lm ys : List Pf} {base n c : Nat} (h : w'.ownsRow base 44 16 (.slice A' n c) n (flat encPf ys)) (hb : w.heap.size ≤ base) : KeepsP w A lm A' ys w' := fun D hD _ =>
  LiesX.of_own h fun b hd => by have := hD b hd; omega

/-- What a call answers of the document's window: the window behind it, and how many. -/
def RGot (w : World) (A : Option Addr) (lm : List Pf) (width : Nat) (ys : List Pf) (last' : Nat) (k : Nat) (e : Ending) (w' : World) : Prop :=
  ∃ A' c', e = .returned (.tuple #[.agg (rCells width (.slice A' ys.length c') last'), .int .i64 (k : Int)]) ∧ ys.length ≤ c' ∧ c' ≤ maxLen ∧ KeepsP w A lm A' ys w' ∧ RowKit.Below w.heap.size w w'

/-- The two boxes of a call: its own window, and the answer. -/
structure RBox (w : World) (gs rs : Array Value) (W : World) : Prop where
  below : RowKit.Below w.heap.size w W
  box : W.heap[w.heap.size]? = some (.cells gs 29 (0, 0))
  res : W.heap[w.heap.size + 1]? = some (.cells rs 29 (0, 0))
theorem RBox.start {w W : World} {gs rs : Array Value} (h : (w.alloc (.cells gs 29)).alloc (.cells rs 29) = W) : RBox w gs rs W := by
  obtain ⟨h1, h2, h3⟩ := alloc2_blocks w _ _ h
  exact ⟨h3, h1, h2⟩
theorem RBox.lt {w W : World} {gs rs : Array Value} (h : RBox w gs rs W) : w.heap.size + 2 ≤ W.heap.size := (Array.getElem?_eq_some_iff.1 h.res).1
theorem RBox.up {w W W' : World} {gs rs : Array Value} (h : RBox w gs rs W) (hb : RowKit.Below (w.heap.size + 2) W W') : RBox w gs rs W' :=
  ⟨h.below.trans (hb.mono (by omega)), (hb.block _ (by omega)).trans h.box, (hb.block _ (by omega)).trans h.res⟩
theorem RBox.on {w W W' : World} {gs rs : Array Value} (h : RBox w gs rs W) (hb : RowKit.Below W.heap.size W W') : RBox w gs rs W' := h.up (hb.mono h.lt)
theorem RBox.setBox {w W : World} {gs rs : Array Value} (h : RBox w gs rs W) (i : Nat) (u : Value) : RBox w (gs.setIfInBounds i u) rs (W.setCell ⟨w.heap.size, i, none⟩ u) :=
  ⟨h.below.setCell (p := ⟨w.heap.size, i, none⟩) (Nat.le_refl _) u, heap_setCell_same W _ i _ _ u h.box, (heap_setCell_other W ⟨w.heap.size, i, none⟩ (w.heap.size + 1) u (by simp)).trans h.res⟩
theorem RBox.setRes {w W : World} {gs rs : Array Value} (h : RBox w gs rs W) (i : Nat) (u : Value) : RBox w gs (rs.setIfInBounds i u) (W.setCell ⟨w.heap.size + 1, i, none⟩ u) :=
  ⟨h.below.setCell (p := ⟨w.heap.size + 1, i, none⟩) (Nat.le_succ _) u, (heap_setCell_other W ⟨w.heap.size + 1, i, none⟩ w.heap.size u (by simp)).trans h.box, heap_setCell_same W _ i _ _ u h.res⟩
theorem RBox.cell {w W : World} {gs rs : Array Value} (h : RBox w gs rs W) (i : Nat) : W.cell? ⟨w.heap.size, i, none⟩ = gs[i]? := cell_of_row W _ i _ _ _ h.box
theorem RBox.cellR {w W : World} {gs rs : Array Value} (h : RBox w gs rs W) (i : Nat) : W.cell? ⟨w.heap.size + 1, i, none⟩ = rs[i]? := cell_of_row W _ i _ _ _ h.res
theorem RBox.fr {w W : World} {gs rs : Array Value} (h : RBox w gs rs W) (i : Nat) : W.frozen? ⟨w.heap.size, i, none⟩ = false := frozen_of_row W _ i _ _ h.box
theorem RBox.frR {w W : World} {gs rs : Array Value} (h : RBox w gs rs W) (i : Nat) : W.frozen? ⟨w.heap.size + 1, i, none⟩ = false := frozen_of_row W _ i _ _ h.res

end Go.Proofs.Ytbkkpimhoeagdaa
