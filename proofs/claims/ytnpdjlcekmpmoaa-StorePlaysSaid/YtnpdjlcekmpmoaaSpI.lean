/- Stage 14: what an act needs: bytes that are counted up, boxes. -/
import Derived.Test.YtnpdjlcekmpmoaaSpH
import Derived.Test.YtnpdjlcekmpmoaaSpD
import Derived.Test.YtnpdjlcekmpmoaaSoT
import Derived.Test.YtnpdjlcekmpmoaaSoS
import Derived.Test.YtnpdjlcekmpmoaaSoP
set_option maxRecDepth 20000
namespace Go.Proofs.Ytnpdjlcekmpmoaa
open Go.RowKit Go.Sort Go.Maps Go.ChangeShapes Go.WideShapes Go.ChangeAt

/-- Cells of bytes, whatever they are. -/
def Bytes (xs : List Value) : Prop := ∀ u ∈ xs, ∃ k : Nat, k < 256 ∧ u = .int .u8 (k : Int)

theorem Bytes.bvs (l : List UInt8) : Bytes (bvs l) := by
  intro u hu
  unfold Go.Proofs.Ytnpdjlcekmpmoaa.bvs at hu
  obtain ⟨c, _, rfl⟩ := List.mem_map.1 hu
  exact ⟨c.toNat, c.toNat_lt, rfl⟩

theorem Bytes.set {xs : List Value} (h : Bytes xs) (q k : Nat) (hk : k < 256) : Bytes (xs.set q (.int .u8 (k : Int))) := by
  intro u hu
  rcases List.mem_or_eq_of_mem_set hu with hu | rfl
  · exact h u hu
  · exact ⟨k, hk, rfl⟩

/-- What stands while bytes of the call's own are counted up. -/
def IncS (w6 : World) (B n q : Nat) (v : Value) (wr : World) : Prop := q ≤ n ∧ ∃ xs, Bytes xs ∧ wr.ownsRow B 5 1 v n xs ∧ OnlyE w6 wr (fun k => v.ownBlock = some k)

theorem IncS.start {w6 : World} {B n : Nat} {v : Value} {l : List UInt8} (h : w6.ownsRow B 5 1 v n (bvs l)) : IncS w6 B n 0 v w6 := ⟨Nat.zero_le _, _, Bytes.bvs l, h, OnlyE.refl _ _⟩

theorem IncS.cell {w6 wr : World} {B n q : Nat} {v : Value} (h : IncS w6 B n q v wr) (hq : q < n) : ∃ (g c k : Nat), v = .slice (some ⟨g, 0, none⟩) n c ∧ k < 256 ∧ wr.cell? ⟨g, q, none⟩ = some (.int .u8 (k : Int)) ∧ wr.frozen? ⟨g, q, none⟩ = false := by
  obtain ⟨_, xs, hb, ho, _⟩ := h
  obtain ⟨g, c, rfl, _, _⟩ := ho.form (by omega)
  have hl := ho.1
  have hq1 : q < xs.length := by omega
  obtain ⟨k, hk, e⟩ := hb xs[q] (List.getElem_mem hq1)
  refine ⟨g, c, k, rfl, hk, ?_, ho.frozenAt q⟩
  rw [ho.cellAt _ (by omega), List.getElem?_eq_getElem hq1, e]

theorem IncS.step {w6 wr : World} {B n q g c : Nat} (h : IncS w6 B n q (.slice (some ⟨g, 0, none⟩) n c) wr) (hq : q < n) (k : Nat) (hk : k < 256) : IncS w6 B n (q + 1) (.slice (some ⟨g, 0, none⟩) n c) (wr.setCell ⟨g, q, none⟩ (.int .u8 (k : Int))) := by
  obtain ⟨_, xs, hb, ho, hO⟩ := h
  exact ⟨hq, _, hb.set q k hk, (ho.stored q _).1, hO.trans (onlyE_set (D := fun k => (Value.slice (some ⟨g, 0, none⟩) n c).ownBlock = some k) rfl q _)⟩


theorem results_tmp_cell {fn : Func} {p q : Tmp} {ty : TypeId} (h : fn.results = #[.tmp q, .cell p ty]) (tmps : Array Value) (w : World) (g : Nat) (cs : Array Value)
    (hp : tmps.getD p undef = .pointer (some ⟨g, 0, none⟩)) (hl : (loadVar ty ⟨g, 0, none⟩).run Try.prog w = .ok (.agg cs) w) :
    (results fn tmps).run Try.prog w = .ok (.tuple #[tmps.getD q undef, .agg cs]) w := by
  have hp' : tmps[p]?.getD undef = .pointer (some ⟨g, 0, none⟩) := by simpa using hp
  simp [results, h, hp', asAddr, hl]

/-- The three boxes of an act: the document's store, the act, the answer. -/
structure DBx (w : World) (gs ac rs : Array Value) (W : World) : Prop where
  box : W.heap[w.heap.size]? = some (.cells gs 29 (0, 0))
  act : W.heap[w.heap.size + 1]? = some (.cells ac 36 (0, 0))
  res : W.heap[w.heap.size + 2]? = some (.cells rs 29 (0, 0))
theorem DBx.start {w W : World} {gs ac rs : Array Value} (h : ((w.alloc (.cells gs 29)).alloc (.cells ac 36)).alloc (.cells rs 29) = W) : DBx w gs ac rs W ∧ RowKit.Below w.heap.size w W := by
  subst h
  refine ⟨⟨?_, ?_, ?_⟩, (((RowKit.Below.refl _ _).alloc (Nat.le_refl _) _).alloc (by simp) _).alloc (by simp; omega) _⟩
  · exact (heap_alloc_old _ _ (by simp; omega)).trans ((heap_alloc_old _ _ (by simp)).trans (heap_alloc_new _ _))
  · refine (heap_alloc_old _ _ (by simp)).trans ?_
    have := heap_alloc_new (w.alloc (.cells gs 29)) (.cells ac 36)
    simpa using this
  · have := heap_alloc_new ((w.alloc (.cells gs 29)).alloc (.cells ac 36)) (.cells rs 29)
    simpa using this
section
variable {w W W' : World} {gs ac rs : Array Value} {D : Nat → Prop}
theorem DBx.lt (h : DBx w gs ac rs W) : w.heap.size + 3 ≤ W.heap.size := (Array.getElem?_eq_some_iff.1 h.res).1
/-- The boxes stand while only blocks turn that lie below or behind. -/
theorem DBx.only (h : DBx w gs ac rs W) (ho : OnlyE W W' D) (hD : ∀ b, D b → b < w.heap.size ∨ w.heap.size + 3 ≤ b) : DBx w gs ac rs W' := by
  have hl := h.lt
  have hn : ∀ j, j < 3 → ¬ D (w.heap.size + j) := fun j hj hd => by have := hD _ hd; omega
  exact ⟨(ho.same _ (by omega) (hn 0 (by omega))).trans h.box, (ho.same _ (by omega) (hn 1 (by omega))).trans h.act, (ho.same _ (by omega) (hn 2 (by omega))).trans h.res⟩
theorem DBx.on (h : DBx w gs ac rs W) (hb : RowKit.Below W.heap.size W W') : DBx w gs ac rs W' :=
  ⟨(hb.block _ (by have := h.lt; omega)).trans h.box, (hb.block _ (by have := h.lt; omega)).trans h.act, (hb.block _ (by have := h.lt; omega)).trans h.res⟩
theorem DBx.setRes (h : DBx w gs ac rs W) (i : Nat) (u : Value) : DBx w gs ac (rs.setIfInBounds i u) (W.setCell ⟨w.heap.size + 2, i, none⟩ u) :=
  ⟨(heap_setCell_other W ⟨w.heap.size + 2, i, none⟩ w.heap.size u (by simp)).trans h.box, (heap_setCell_other W ⟨w.heap.size + 2, i, none⟩ (w.heap.size + 1) u (by simp)).trans h.act, heap_setCell_same W _ i _ _ u h.res⟩
theorem DBx.c (h : DBx w gs ac rs W) {i : Nat} {u : Value} (hu : gs[i]? = some u) : W.cell? ⟨w.heap.size, i, none⟩ = some u := (cell_of_row W _ i _ _ _ h.box).trans hu
theorem DBx.ca (h : DBx w gs ac rs W) {i : Nat} {u : Value} (hu : ac[i]? = some u) : W.cell? ⟨w.heap.size + 1, i, none⟩ = some u := (cell_of_row W _ i _ _ _ h.act).trans hu
theorem DBx.cr (h : DBx w gs ac rs W) {i : Nat} {u : Value} (hu : rs[i]? = some u) : W.cell? ⟨w.heap.size + 2, i, none⟩ = some u := (cell_of_row W _ i _ _ _ h.res).trans hu
theorem DBx.fr (h : DBx w gs ac rs W) (i : Nat) : W.frozen? ⟨w.heap.size + 2, i, none⟩ = false := frozen_of_row W _ i _ _ h.res
/-- The answer is written, cell by cell. -/
theorem set4_only (W : World) (j : Nat) (a b c d : Value) : OnlyE W ((((W.setCell ⟨j, 0, none⟩ a).setCell ⟨j, 1, none⟩ b).setCell ⟨j, 2, none⟩ c).setCell ⟨j, 3, none⟩ d) (fun k => k = j) :=
  (((onlyE_set (D := fun k => k = j) rfl 0 _).trans (onlyE_set (D := fun k => k = j) rfl 1 _)).trans (onlyE_set (D := fun k => k = j) rfl 2 _)).trans (onlyE_set (D := fun k => k = j) rfl 3 _)
end

/-- The document's store behind an act. -/
def Sm.act (m : Sm) (y : Sa) : Sm := if y.k = 0 then m.put y.x y.b else if y.k = 1 then m else m.drop y.u
theorem Sm.Ok.act {m : Sm} (h : m.Ok) (y : Sa) : (m.act y).Ok := by
  unfold Sm.act
  split
  · exact h.put _ _
  · split
    · exact h
    · exact h.drop _
theorem Sm.act_len (m : Sm) (y : Sa) : (m.act y).l.length ≤ m.l.length + 1 := by
  unfold Sm.act
  split
  · unfold Sm.put
    split
    · simp
    · omega
  · split
    · omega
    · exact Nat.le_succ_of_le (List.length_filter_le _ _)

/-- What an act answers: true, and both stores stand as the document says, whatever may be written into later. -/
def DidS (w : World) (base g mb fb : Nat) (D : Nat → Prop) (m' : Sm) (e : Ending) (w' : World) : Prop :=
  ∃ A c A2 c2, ∃ D' : Nat → Prop, e = .returned (.tuple #[.bool true, .agg (rsCells A c A2 c2 m')]) ∧ StAt w' base g mb fb m' D' ∧ RsAt w' D' A c A2 c2 m' ∧ OnlyE w w' (own3 g mb fb) ∧ ∀ b, D b → D' b

end Go.Proofs.Ytnpdjlcekmpmoaa
