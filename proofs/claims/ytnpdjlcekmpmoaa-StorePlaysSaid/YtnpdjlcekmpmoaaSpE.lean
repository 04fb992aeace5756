/- Stage 14: the boxes of the document's Put; append of payloads. -/
import Derived.Test.YtnpdjlcekmpmoaaSpC
set_option maxRecDepth 20000
namespace Go.Proofs.Ytnpdjlcekmpmoaa
open Go.RowKit Go.Sort Go.Maps

theorem Try.infoX : (Try.prog.info? 64).map (fun i => (i.zero, i.size, i.bytes)) = some (some (.agg #[.int .u8 0, .int .u64 0, .string ⟨#[]⟩]), 3, 32) := by kernel_rfl
theorem app_x {W : World} {base n B m c : Nat} {v : Value} {xs : List Value} {A : Option Addr} {ys : List Hp} (hown : W.ownsRow base 64 3 v n xs) (hl : ys.length = m) (hL : Lies W B A (flat encX ys)) (hb : base ≤ W.heap.size) (hn : n + m ≤ 1000000) :
    ∃ A' c' W', (Builtin.append_ #[26, 26] 26 #[v, .slice A m c]).run Try.prog W = .ok (.slice A' (n + m) c') W' ∧ W'.ownsRow base 64 3 (.slice A' (n + m) c') (n + m) (xs ++ flat encX ys) ∧
      W.grownBy W' v.ownBlock ∧ RowKit.Below base W W' ∧ n + m ≤ c' ∧ c' ≤ maxLen := by
  obtain ⟨i0, hi, hz0, hz1, hz2⟩ := info_parts Try.infoX
  obtain ⟨v', W', hrun, ho, hg, hk⟩ := run_append_lstK (P := Try.prog) base 3 (by decide) 26 26 64 i0 (.agg #[.int .u8 0, .int .u64 0, .string ⟨#[]⟩]) 32 Try.underlying26 hi hz0 hz1 hz2 rfl v n xs hown B A m c (flat encX ys)
    (by rw [flat_length encX_len, hl]) hL (flat_one encX_one _) (by unfold maxLen; omega) (by omega) hb
  obtain ⟨A', c', rfl, h1, h2⟩ := own_sliceK ho
  exact ⟨A', c', W', hrun, ho, hg, (RowKit.Below.refl _ _).grown hg hb (fun q hq => (hown.lt q hq).1), h1, h2⟩

/-- The three boxes of the document's Put. -/
structure PBox (w : World) (gs ids rs : Array Value) (W : World) : Prop where
  below : RowKit.Below w.heap.size w W
  box : W.heap[w.heap.size]? = some (.cells gs 29 (0, 0))
  idb : W.heap[w.heap.size + 1]? = some (.cells ids 33 (0, 0))
  res : W.heap[w.heap.size + 2]? = some (.cells rs 29 (0, 0))
theorem PBox.start {w W : World} {gs ids rs : Array Value} (h : ((w.alloc (.cells gs 29)).alloc (.cells ids 33)).alloc (.cells rs 29) = W) : PBox w gs ids rs W := by
  subst h
  refine ⟨(((RowKit.Below.refl _ _).alloc (Nat.le_refl _) _).alloc (by simp) _).alloc (by simp; omega) _, ?_, ?_, ?_⟩
  · exact (heap_alloc_old _ _ (by simp; omega)).trans ((heap_alloc_old _ _ (by simp)).trans (heap_alloc_new _ _))
  · refine (heap_alloc_old _ _ (by simp)).trans ?_
    have := heap_alloc_new (w.alloc (.cells gs 29)) (.cells ids 33)
    simpa using this
  · have := heap_alloc_new ((w.alloc (.cells gs 29)).alloc (.cells ids 33)) (.cells rs 29)
    simpa using this
section
variable {w W W' : World} {gs ids rs : Array Value}
theorem PBox.lt (h : PBox w gs ids rs W) : w.heap.size + 3 ≤ W.heap.size := (Array.getElem?_eq_some_iff.1 h.res).1
theorem PBox.up (h : PBox w gs ids rs W) (hb : RowKit.Below (w.heap.size + 3) W W') : PBox w gs ids rs W' :=
  ⟨h.below.trans (hb.mono (by omega)), (hb.block _ (by omega)).trans h.box, (hb.block _ (by omega)).trans h.idb, (hb.block _ (by omega)).trans h.res⟩
theorem PBox.on (h : PBox w gs ids rs W) (hb : RowKit.Below W.heap.size W W') : PBox w gs ids rs W' := h.up (hb.mono h.lt)
theorem PBox.setBox (h : PBox w gs ids rs W) (i : Nat) (u : Value) : PBox w (gs.setIfInBounds i u) ids rs (W.setCell ⟨w.heap.size, i, none⟩ u) :=
  ⟨h.below.setCell (p := ⟨w.heap.size, i, none⟩) (Nat.le_refl _) u, heap_setCell_same W _ i _ _ u h.box, (heap_setCell_other W ⟨w.heap.size, i, none⟩ (w.heap.size + 1) u (by simp)).trans h.idb, (heap_setCell_other W ⟨w.heap.size, i, none⟩ (w.heap.size + 2) u (by simp)).trans h.res⟩
theorem PBox.setRes (h : PBox w gs ids rs W) (i : Nat) (u : Value) : PBox w gs ids (rs.setIfInBounds i u) (W.setCell ⟨w.heap.size + 2, i, none⟩ u) :=
  ⟨h.below.setCell (p := ⟨w.heap.size + 2, i, none⟩) (Nat.le_add_right _ _) u, (heap_setCell_other W ⟨w.heap.size + 2, i, none⟩ w.heap.size u (by simp)).trans h.box, (heap_setCell_other W ⟨w.heap.size + 2, i, none⟩ (w.heap.size + 1) u (by simp)).trans h.idb, heap_setCell_same W _ i _ _ u h.res⟩
theorem PBox.c (h : PBox w gs ids rs W) {i : Nat} {u : Value} (hu : gs[i]? = some u) : W.cell? ⟨w.heap.size, i, none⟩ = some u := (cell_of_row W _ i _ _ _ h.box).trans hu
theorem PBox.ci (h : PBox w gs ids rs W) {i : Nat} {u : Value} (hu : ids[i]? = some u) : W.cell? ⟨w.heap.size + 1, i, none⟩ = some u := (cell_of_row W _ i _ _ _ h.idb).trans hu
theorem PBox.cr (h : PBox w gs ids rs W) {i : Nat} {u : Value} (hu : rs[i]? = some u) : W.cell? ⟨w.heap.size + 2, i, none⟩ = some u := (cell_of_row W _ i _ _ _ h.res).trans hu
theorem PBox.f (h : PBox w gs ids rs W) (i : Nat) : W.frozen? ⟨w.heap.size, i, none⟩ = false := frozen_of_row W _ i _ _ h.box
theorem PBox.fr (h : PBox w gs ids rs W) (i : Nat) : W.frozen? ⟨w.heap.size + 2, i, none⟩ = false := frozen_of_row W _ i _ _ h.res
end

/-- What the document's Put and Drop answer: the store behind it, as a value; its rows lie outside of whatever the old ones did. -/
def GotS (w : World) (A : Option Addr) (c : Nat) (A2 : Option Addr) (c2 : Nat) (m m' : Sm) (u : Value) (e : Ending) (w' : World) : Prop :=
  ∃ A' c' A2' c2', e = .returned (.tuple #[.agg (rsCells A' c' A2' c2' m'), u]) ∧ RowKit.Below w.heap.size w w' ∧ ∀ D, (∀ b, D b → b < w.heap.size) → RsAt w D A c A2 c2 m → RsAt w' D A' c' A2' c2' m'

theorem flat_singleX (z : Hp) : flat encX [z] = encX z := by simp [flat]

end Go.Proofs.Ytnpdjlcekmpmoaa
