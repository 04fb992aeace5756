/- What SlidePlays keeps: the window, and the document's in its box. -/
import Derived.Test.YtohlgjkblcopoaaSlW
namespace Go.Proofs.Ytohlgjkblcopoaa
open Go.ChangeShapes Go.WideShapes Go.ChangeAt Go.RowKit Go.Sort

/-- The window (what waits: lw, the last number: last), the document's in box q (lm, lastm). -/
structure SP (w : World) (p q width : Nat) (T : Value) (last : Nat) (lw : List Pf) (D : Nat → Prop) (Am : Option Addr) (cm : Nat) (lm : List Pf) (lastm : Nat) (W : World) : Prop where
  win : WinAt W w.heap.size p T width last lw D
  row : W.heap[q]? = some (.cells (rCells width (.slice Am lm.length cm) lastm) 29 (0, 0))
  dq : D q
  nq : ¬ WD p T q
  cg : lm.length ≤ cm
  cm : cm ≤ maxLen
  lies : LiesX W D Am (flat encPf lm)
  lx : ∀ z ∈ lm, z.X W (fun k => w.heap.size ≤ k)
  below : Below w.heap.size w W

section
variable {w W W' : World} {p q width : Nat} {T : Value} {last : Nat} {lw : List Pf} {D : Nat → Prop} {Am : Option Addr} {cm : Nat} {lm : List Pf} {lastm : Nat}

theorem WinAt.widen1 {base : Nat} (h : WinAt W base p T width last [] D) {D' : Nat → Prop} (h1 : ∀ b, WD p T b → D' b) (h2 : ∀ b, D' b → base ≤ b ∧ b < W.heap.size) : WinAt W base p T width last [] D' :=
  { box := h.box, row := h.row, frs := by simp, oks := by simp, seqs := by simp, dw := h1, din := h2, fit := h.fit, fit2 := h.fit2, wid1 := h.wid1, wid2 := h.wid2, low := h.low }

theorem SP.qlt (h : SP w p q width T last lw D Am cm lm lastm W) : q < W.heap.size := (h.win.din q h.dq).2
theorem SP.hq (h : SP w p q width T last lw D Am cm lm lastm W) : w.heap.size ≤ q := (h.win.din q h.dq).1
theorem SP.on (h : SP w p q width T last lw D Am cm lm lastm W) (hb : Below W.heap.size W W') : SP w p q width T last lw D Am cm lm lastm W' :=
  ⟨h.win.on hb, (hb.block q h.qlt).trans h.row, h.dq, h.nq, h.cg, h.cm, h.lies.kept (OnlyE.of_below hb), fun z hz => (h.lx z hz).on hb, h.below.trans (hb.mono h.below.size)⟩
theorem SP.c0 (h : SP w p q width T last lw D Am cm lm lastm W) : W.cell? ⟨q, 0, none⟩ = some (.int .i64 (width : Int)) := cell_of_row W q 0 _ _ _ h.row
theorem SP.c1 (h : SP w p q width T last lw D Am cm lm lastm W) : W.cell? ⟨q, 1, none⟩ = some (.slice Am lm.length cm) := cell_of_row W q 1 _ _ _ h.row
theorem SP.c2 (h : SP w p q width T last lw D Am cm lm lastm W) : W.cell? ⟨q, 2, none⟩ = some (.int .u64 (lastm : Int)) := cell_of_row W q 2 _ _ _ h.row
theorem SP.fr (h : SP w p q width T last lw D Am cm lm lastm W) (j : Nat) : W.frozen? ⟨q, j, none⟩ = false := frozen_of_row W q j _ _ h.row
theorem SP.frl (h : SP w p q width T last lw D Am cm lm lastm W) : ∀ z ∈ lm, FrL W z.F z.cs := fun z hz => (h.lx z hz).frl

/-- The document's window is stored anew. -/
theorem SP.mstep (h : SP w p q width T last lw D Am cm lm lastm W) {A' : Option Addr} {c' last' : Nat} {ys : List Pf} (hc : ys.length ≤ c') (hcm : c' ≤ maxLen) (hK : KeepsP W Am lm A' ys W') (hb : Below W.heap.size W W') (hy : ∀ z ∈ ys, z.X W (fun k => w.heap.size ≤ k)) {W3 : World} {o : Obj}
    (hW3 : (((W'.setCell ⟨q, 0, none⟩ (.int .i64 (width : Int))).setCell ⟨q, 1, none⟩ (.slice A' ys.length c')).setCell ⟨q, 2, none⟩ (.int .u64 (last' : Int))).alloc o = W3) :
    SP w p q width T last lw D A' c' ys last' W3 := by
  have hA := h.on hb
  have ho : OnlyE W' (((W'.setCell ⟨q, 0, none⟩ (.int .i64 (width : Int))).setCell ⟨q, 1, none⟩ (.slice A' ys.length c')).setCell ⟨q, 2, none⟩ (.int .u64 (last' : Int))) (fun k => k = q) :=
    (onlyE_set (D := fun k => k = q) rfl 0 _).trans ((onlyE_set (D := fun k => k = q) rfl 1 _).trans (onlyE_set (D := fun k => k = q) rfl 2 _))
  have hl1 : LiesX W' D A' (flat encPf ys) := hK _ (fun b hb => (h.win.din b hb).2) h.lies
  have h2 : SP w p q width T last lw D A' c' ys last' (((W'.setCell ⟨q, 0, none⟩ (.int .i64 (width : Int))).setCell ⟨q, 1, none⟩ (.slice A' ys.length c')).setCell ⟨q, 2, none⟩ (.int .u64 (last' : Int))) := by
    refine ⟨hA.win.kept ho (fun b hb e => h.nq (e ▸ hb)) fun b e => e ▸ h.dq, ?_, h.dq, h.nq, hc, hcm, ?_, fun z hz => ?_, hA.below.trans (ho.below (fun k e => e ▸ h.hq) hA.below.size)⟩
    · exact heap_setCell_same _ _ 2 _ _ _ (heap_setCell_same _ _ 1 _ _ _ (heap_setCell_same _ _ 0 _ _ _ hA.row))
    · exact hl1.kept (ho.mono fun k e => e ▸ h.dq)
    · exact ((hy z hz).on hb).kept (ho.mono fun k e => e ▸ h.hq)
  rw [← hW3]
  exact h2.on ((Below.refl _ _).alloc (Nat.le_refl _) _)
/-- .. and nothing else has turned. -/
theorem mstep_only {W' W3 : World} {q : Nat} {u0 u1 u2 : Value} {o : Obj} (hW3 : (((W'.setCell ⟨q, 0, none⟩ u0).setCell ⟨q, 1, none⟩ u1).setCell ⟨q, 2, none⟩ u2).alloc o = W3) : OnlyE W' W3 (fun k => k = q) := by
  rw [← hW3]
  exact ((onlyE_set (D := fun k => k = q) rfl 0 _).trans ((onlyE_set (D := fun k => k = q) rfl 1 _).trans (onlyE_set (D := fun k => k = q) rfl 2 _))).trans (OnlyE.of_below ((Below.refl _ _).alloc (Nat.le_refl _) _))

/-- The window's own step. -/
theorem SP.wstep (h : SP w p q width T last lw D Am cm lm lastm W) {T' : Value} {last' : Nat} {lw' : List Pf} {D' : Nat → Prop} (hW : WinAt W' w.heap.size p T' width last' lw' D') (ho : OnlyE W W' (WD p T)) (hd : ∀ b, D' b → D b ∨ W.heap.size ≤ b) (hd2 : ∀ b, D b → D' b) (ht : ∀ b, T'.ownBlock = some b → T.ownBlock = some b ∨ W.heap.size ≤ b) :
    SP w p q width T' last' lw' D' Am cm lm lastm W' := by
  have hq := h.qlt
  have hwd : ∀ b, WD p T b → D b := h.win.dw
  refine ⟨hW, (ho.same q hq h.nq).trans h.row, hd2 q h.dq, fun e => e.elim (fun e => h.nq (.inl e)) fun e => (ht q e).elim (fun e => h.nq (.inr e)) fun e => by omega, h.cg, h.cm, ?_, fun z hz => (h.lx z hz).kept (ho.mono fun k e => (h.win.din k (hwd k e)).1), h.below.trans (ho.below (fun k e => (h.win.din k (hwd k e)).1) h.below.size)⟩
  exact (h.lies.widen fun k hk => (hd k hk).symm).kept (ho.mono fun k e => hd2 k (hwd k e))

theorem SP.start {w1 w2 : World} (h : WinAt w1 w.heap.size p (.slice none 0 0) width 0 [] D) (hb : Below w1.heap.size w1 w2) (hB : Below w.heap.size w w1) :
    SP w p w2.heap.size width (.slice none 0 0) 0 [] (fun k => k = p ∨ k = w2.heap.size) none 0 [] 0 (w2.alloc (.cells #[.int .i64 (width : Int), .slice none 0 0, .int .u64 0] 29)) := by
  have hbA : Below w1.heap.size w1 (w2.alloc (.cells #[.int .i64 (width : Int), .slice none 0 0, .int .u64 0] 29)) := hb.alloc hb.size _
  have hp := h.plt
  have hpb := (h.din p h.dp).1
  have hs := hb.size
  have hsB := hB.size
  have hwd : ∀ b, WD p (.slice none 0 0) b → b = p := fun b hb => hb.elim id fun e => by simp [Value.ownBlock] at e
  refine ⟨(h.on hbA).widen1 (fun b hb => .inl (hwd b hb)) fun b hb => ?_, heap_alloc_new _ _, .inr rfl, fun e => by have := hwd _ e; omega, Nat.le_refl _, Nat.zero_le _, LiesX.nil, by simp, hB.trans (hbA.mono hsB)⟩
  rcases hb with e | e
  · subst e; simp; omega
  · subst e; simp; omega
end

end Go.Proofs.Ytohlgjkblcopoaa
