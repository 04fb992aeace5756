/- The document's Get: the words. -/
import Derived.Test.YtbfjfidodpgohaaWgh
import Derived.Test.YtbfjfidodpgohaaWcI
import Derived.Test.YtbfjfidodpgohaaT23

namespace Go.Proofs.Ytbfjfidodpgohaa
open Go.RowKit Go.Sort

/-- What the document's Get answers. -/
def RefGot (w : World) (r : Fr × Nat) (e : Ending) (w' : World) : Prop :=
  ∃ cs, e = .returned (.tuple #[.agg cs, .int .i64 (r.2 : Int)]) ∧ Hid (cs.size = 16) ∧ Hid (cs.all (·.oneCell') = true) ∧ FrL w' r.1 cs ∧ RowKit.Below w.heap.size w w'

/-- The blocks that the call has made for itself up to the frame's. -/
def DG (w : World) (gF k : Nat) : Prop := w.heap.size ≤ k ∧ k ≤ gF

/-- The two boxes of an error's answer. -/
structure GtZ (w : World) (V : World) : Prop where
  below : RowKit.Below w.heap.size w V
  z0 : V.heap[w.heap.size]? = some (.cells zeroCells 33 (0, 0))
  z1 : V.heap[w.heap.size + 1]? = some (.cells zeroCells 33 (0, 0))

theorem zero_one : zeroCells.all (·.oneCell') = true := by
  simp only [zeroCells, List.all_toArray, List.all_cons, List.all_nil, Bool.and_true]
  rfl

theorem GtZ.start {w W0 : World} (h : World.alloc (World.alloc w (.cells zeroCells 33)) (.cells zeroCells 33) = W0) : GtZ w W0 := by
  subst h
  refine ⟨((RowKit.Below.refl _ _).alloc (Nat.le_refl _) _).alloc (by simp) _, Below.heap_alloc_row (heap_alloc_new _ _), ?_⟩
  have := heap_alloc_new (w.alloc (.cells zeroCells 33)) (.cells zeroCells 33)
  simpa using this

theorem GtZ.lt {w V : World} (h : GtZ w V) : w.heap.size + 1 < V.heap.size := (Array.getElem?_eq_some_iff.1 h.z1).1

theorem GtZ.on {w V V' : World} (h : GtZ w V) (hb : RowKit.Below V.heap.size V V') : GtZ w V' :=
  ⟨h.below.trans (hb.mono h.below.size), (hb.block _ (Array.getElem?_eq_some_iff.1 h.z0).1).trans h.z0, (hb.block _ (Array.getElem?_eq_some_iff.1 h.z1).1).trans h.z1⟩

theorem GtZ.cell {w V : World} (h : GtZ w V) (g i : Nat) (hg : w.heap.size + 1 < g) (u : Value) : GtZ w (V.setCell ⟨g, i, none⟩ u) :=
  ⟨h.below.setCell (p := ⟨g, i, none⟩) (by show w.heap.size ≤ g; omega) u, row_setOther h.z0 (by omega) i u, row_setOther h.z1 (by omega) i u⟩
theorem GtZ.row {w V : World} (h : GtZ w V) (g : Nat) (hg : w.heap.size + 1 < g) (cs : Array Value) : GtZ w (V.setRow g cs) :=
  ⟨Below.setRow h.below (by omega) cs, (setRow_other _ _ _ _ (by omega)).trans h.z0, (setRow_other _ _ _ _ (by omega)).trans h.z1⟩

/-- An error is answered. -/
theorem GtZ.err {w V : World} (h : GtZ w V) (er : Nat) : (V.setRow w.heap.size zeroCells).heap[w.heap.size]? = some (.cells zeroCells 33 (0, 0)) ∧ RefGot w (Fr.zero, er) (.returned (.tuple #[.agg zeroCells, .int .i64 (er : Int)])) (V.setRow w.heap.size zeroCells) :=
  ⟨setRow_heap _ _ _ _ _ _ h.z0, _, rfl, rfl, zero_one, (zero_frv _ (fun _ => False)).slots, Below.setRow h.below (Nat.le_refl _) _⟩

theorem GtZ.zero {w V : World} (h : GtZ w V) : GtZ w (V.setRow w.heap.size zeroCells) :=
  ⟨Below.setRow h.below (Nat.le_refl _) _, setRow_heap _ _ _ _ _ _ h.z0, (setRow_other _ _ _ _ (by omega)).trans h.z1⟩
theorem GtZ.err' {w V : World} (h : GtZ w V) (er : Nat) : RefGot w (Fr.zero, er) (.returned (.tuple #[.agg zeroCells, .int .i64 (er : Int)])) V :=
  ⟨_, rfl, rfl, zero_one, (zero_frv _ (fun _ => False)).slots, h.below⟩

theorem endOf_zero {er n : Nat} (h : endOf er n = 0) : er = 0 := by
  unfold endOf at h
  split at h
  · exact h
  · rename_i h2
    simpa using h2

/-- What stands while the fields are taken: the frame's box, the reader's. -/
structure GtS (w : World) (gR gF : Nat) (F : Fr) (s : Rs) (cs rs : Array Value) (V : World) : Prop where
  z : GtZ w V
  lo : w.heap.size + 1 < gR ∧ gR < gF
  rd : V.heap[gR]? = some (.cells rs 59 (0, 0))
  fr : V.heap[gF]? = some (.cells cs 33 (0, 0))
  good : FrW V (DG w gF) F s.2 cs
  rat : RAt V w.heap.size s (.agg rs)

theorem GtS.on {w : World} {gR gF : Nat} {F : Fr} {s : Rs} {cs rs : Array Value} {V V' : World} (h : GtS w gR gF F s cs rs V) (hb : RowKit.Below V.heap.size V V') : GtS w gR gF F s cs rs V' :=
  ⟨h.z.on hb, h.lo, (hb.block _ (Array.getElem?_eq_some_iff.1 h.rd).1).trans h.rd, (hb.block _ (Array.getElem?_eq_some_iff.1 h.fr).1).trans h.fr, h.good.kept (OnlyE.of_below hb), h.rat.below (hb.mono h.z.below.size)⟩

/-- A field is taken: the frame is stored, then the reader. -/
theorem GtS.step {w : World} {gR gF : Nat} {F F' : Fr} {s s' : Rs} {cs rs cs' rs' : Array Value} {V : World} (h : GtS w gR gF F s cs rs V) (hg : FrW V (DG w gF) F' s'.2 cs') (hr : RAt V w.heap.size s' (.agg rs')) :
    (V.setRow gF cs').heap[gR]? = some (.cells rs 59 (0, 0)) ∧ GtS w gR gF F' s' cs' rs' ((V.setRow gF cs').setRow gR rs') := by
  have h1 := h.lo.1
  have h2 := h.lo.2
  have e1 : (V.setRow gF cs').heap[gR]? = some (.cells rs 59 (0, 0)) := (setRow_other _ _ _ _ (by omega)).trans h.rd
  refine ⟨e1, (h.z.row gF (by omega) cs').row gR (by omega) rs', h.lo, setRow_heap _ _ _ rs' _ _ e1, (setRow_other _ _ _ _ (by omega)).trans (setRow_heap _ _ _ cs' _ _ h.fr), ?_, ?_⟩
  · exact (hg.kept (onlyE_setRow (D := DG w gF) ⟨by omega, Nat.le_refl _⟩ cs')).kept (onlyE_setRow (D := DG w gF) ⟨by omega, by omega⟩ rs')
  · exact (hr.below (Below.setRow (RowKit.Below.refl _ _) (by omega) cs')).below (Below.setRow (RowKit.Below.refl _ _) (by omega) rs')

/-- The frame is answered. -/
theorem GtS.done {w : World} {gR gF : Nat} {F : Fr} {s : Rs} {cs rs : Array Value} {V : World} (h : GtS w gR gF F s cs rs V) (he : s.2 = 0) :
    (V.setRow w.heap.size cs).heap[w.heap.size]? = some (.cells cs 33 (0, 0)) ∧ RefGot w (F, 0) (.returned (.tuple #[.agg cs, .int .i64 ((0 : Nat) : Int)])) (V.setRow w.heap.size cs) := by
  have h1 := h.lo.1
  have h2 := h.lo.2
  refine ⟨setRow_heap _ _ _ _ _ _ h.z.z0, _, rfl, h.good.1, h.good.2.1, ?_, Below.setRow h.z.below (Nat.le_refl _) _⟩
  exact ((h.good.2.2 he).kept (onlyE_setRow (D := DG w gF) ⟨Nat.le_refl _, by omega⟩ cs)).toL

/-- The head is stored, and the bytes behind it. -/
theorem GtS.start {w V : World} {gR gF n c : Nat} {A : Option Addr} (hZ : GtZ w V) (hlo : w.heap.size + 1 < gR ∧ gR < gF) (hrd : V.heap[gR]? = some (.cells #[.slice A n c, .int .i64 0] 59 (0, 0))) (hfr : V.heap[gF]? = some (.cells zeroCells 33 (0, 0)))
    (a b d : Nat) (t : List UInt8) (A3 : Option Addr) (n3 c3 : Nat) (hl3 : t.length = n3) (hc3 : n3 ≤ c3) (hL3 : Lies V w.heap.size A3 (bvs t)) :
    ∃ cs rs, GtS w gR gF (bareFr (a, b, d)) (t, 0) cs rs ((((V.setCell ⟨gF, 0, none⟩ (.int .u8 (a : Int))).setCell ⟨gF, 1, none⟩ (.int .u8 (b : Int))).setCell ⟨gF, 2, none⟩ (.int .u8 (d : Int))).setCell ⟨gR, 0, none⟩ (.slice A3 n3 c3)) := by
  have h1 := hlo.1
  have h2 := hlo.2
  have hb : RowKit.Below w.heap.size V ((((V.setCell ⟨gF, 0, none⟩ (.int .u8 (a : Int))).setCell ⟨gF, 1, none⟩ (.int .u8 (b : Int))).setCell ⟨gF, 2, none⟩ (.int .u8 (d : Int))).setCell ⟨gR, 0, none⟩ (.slice A3 n3 c3)) :=
    ((((RowKit.Below.refl _ _).setCell (p := ⟨gF, 0, none⟩) (by show w.heap.size ≤ gF; omega) _).setCell (p := ⟨gF, 1, none⟩) (by show w.heap.size ≤ gF; omega) _).setCell (p := ⟨gF, 2, none⟩) (by show w.heap.size ≤ gF; omega) _).setCell (p := ⟨gR, 0, none⟩) (by show w.heap.size ≤ gR; omega) _
  refine ⟨_, _, (((hZ.cell gF 0 (by omega) _).cell gF 1 (by omega) _).cell gF 2 (by omega) _).cell gR 0 (by omega) _, hlo, heap_setCell_row (row_setOther (row_setOther (row_setOther hrd (by omega) 0 _) (by omega) 1 _) (by omega) 2 _) 0 _, row_setOther (heap_setCell_row (heap_setCell_row (heap_setCell_row hfr 0 _) 1 _) 2 _) (by omega) 0 _, ⟨rfl, all_set (all_set (all_set zero_one 0 _ rfl) 1 _ rfl) 2 _ rfl, fun _ => ?_⟩, A3, n3, c3, rfl, hl3, hc3, hL3.below hb⟩
  exact ⟨fun _ => (none, 0), rfl, LiesX.nil, LiesX.nil, LiesX.nil, LiesX.nil, LiesX.nil⟩

theorem alloc_facts {V V5 : World} (h : V.alloc (.cells zeroCells 33) = V5) : RowKit.Below V.heap.size V V5 ∧ V5.heap[V.heap.size]? = some (.cells zeroCells 33 (0, 0)) := by
  subst h
  exact ⟨(RowKit.Below.refl _ _).alloc (Nat.le_refl _) _, heap_alloc_new _ _⟩

theorem lies_cut4 {w : World} {B b off : Nat} {x0 x1 x2 x3 : UInt8} {t : List UInt8} (h : Lies w B (some ⟨b, off, none⟩) (bvs (x0 :: x1 :: x2 :: x3 :: t))) : Lies w B (some ⟨b, off + 4, none⟩) (bvs t) := fun _ => by
  obtain ⟨b', off', e, h1, h2⟩ := h (by simp [bvs])
  injection e with e
  injection e with e1 e2
  subst e1 e2
  refine ⟨b, off + 4, rfl, h1, fun i u hu => ?_⟩
  have := h2 (i + 4) u (by simpa [bvs] using hu)
  rw [show off + 4 + i = off + (i + 4) by omega]
  exact this

/-- A frame is loaded, a step of a region that draws its order. -/
theorem wp_load_step {o : Oper} {a : Act} {w : World} {ys : Nat → Option Bool} {K : Act → World → Prop} {Q : Exit → Act → World → Prop} {x : Operand} {g : Nat} {cs : Array Value} (hgd : o.guard = none) (ho : o.op = .load 33 x)
    (hx : a.eval x = .pointer (some ⟨g, 0, none⟩)) (hg : w.heap[g]? = some (.cells cs 33 (0, 0))) (hs : cs.size = 16)
    (hk : K (a.put o.dst (.agg cs)) w) : if Region.wanted o ys = true then Oper.wp Try.prog o a w K Q else K (a.put o.dst undef) w := by
  rw [if_pos (by simp [Region.wanted, hgd])]
  exact wp_load_row _ x ho g hx _ cs (0, 0) _ hg Try.underlying33 rfl (info33 hs) hk
theorem wp_loadR_step {o : Oper} {a : Act} {w : World} {ys : Nat → Option Bool} {K : Act → World → Prop} {Q : Exit → Act → World → Prop} {x : Operand} {g : Nat} {cs : Array Value} (hgd : o.guard = none) (ho : o.op = .load 59 x)
    (hx : a.eval x = .pointer (some ⟨g, 0, none⟩)) (hg : w.heap[g]? = some (.cells cs 59 (0, 0))) (hs : cs.size = 2)
    (hk : K (a.put o.dst (.agg cs)) w) : if Region.wanted o ys = true then Oper.wp Try.prog o a w K Q else K (a.put o.dst undef) w := by
  rw [if_pos (by simp [Region.wanted, hgd])]
  exact wp_load_row _ x ho g hx _ cs (0, 0) _ hg Try.underlying59 rfl (infoR hs) hk

end Go.Proofs.Ytbfjfidodpgohaa
