/- A frame whose slices lie outside of some blocks, and what stands while a field is taken. -/
import Derived.Test.YtbfjfidodpgohaaWgc

namespace Go.Proofs.Ytbfjfidodpgohaa
open Go.RowKit Go.Sort

/-- A slice reads as these cells, in a block that is not among D (whatever its room is). -/
def LiesX (w : World) (D : Nat → Prop) (A : Option Addr) (xs : List Value) : Prop := xs ≠ [] → ∃ b off, A = some ⟨b, off, none⟩ ∧ b < w.heap.size ∧ ¬ D b ∧ ∀ i u, xs[i]? = some u → w.cell? ⟨b, off + i, none⟩ = some u
theorem LiesX.lies {w : World} {D : Nat → Prop} {A : Option Addr} {xs : List Value} (h : LiesX w D A xs) : Lies w w.heap.size A xs := fun hn => by
  obtain ⟨b, off, e, h1, _, h2⟩ := h hn
  exact ⟨b, off, e, h1, h2⟩
theorem LiesX.nil {w : World} {D : Nat → Prop} {A : Option Addr} : LiesX w D A [] := fun h => absurd rfl h
theorem LiesX.kept {w w' : World} {D : Nat → Prop} {A : Option Addr} {xs : List Value} (h : LiesX w D A xs) (ho : OnlyE w w' D) : LiesX w' D A xs := fun hn => by
  obtain ⟨b, off, e, h1, hd, h2⟩ := h hn
  refine ⟨b, off, e, Nat.lt_of_lt_of_le h1 ho.1, hd, fun i u hu => ?_⟩
  rw [World.cell?_of_block (w := w) (ho.2 b h1 hd)]
  exact h2 i u hu
theorem LiesX.widen {w : World} {D D' : Nat → Prop} {A : Option Addr} {xs : List Value} (h : LiesX w D A xs) (hD : ∀ k, D' k → w.heap.size ≤ k ∨ D k) : LiesX w D' A xs := fun hn => by
  obtain ⟨b, off, e, h1, hd, h2⟩ := h hn
  exact ⟨b, off, e, h1, fun hk => (hD b hk).elim (fun h => absurd h1 (Nat.not_lt.2 h)) hd, h2⟩
theorem LiesX.of_lies {w : World} {D : Nat → Prop} {B : Nat} {A : Option Addr} {xs : List Value} (h : Lies w B A xs) (hB : B ≤ w.heap.size) (hD : ∀ k, D k → B ≤ k) : LiesX w D A xs := fun hn => by
  obtain ⟨b, off, e, h1, h2⟩ := h hn
  exact ⟨b, off, e, Nat.lt_of_lt_of_le h1 hB, fun hk => absurd h1 (Nat.not_lt.2 (hD b hk)), h2⟩
theorem LiesX.of_own {w : World} {D : Nat → Prop} {A : Option Addr} {xs : List Value} {base n c k : Nat} {e : TypeId} (h : w.ownsRow base e k (.slice A n c) n xs) (hD : ∀ k, D k → k < base) : LiesX w D A xs := fun hn => by
  obtain ⟨b, off, eA, h1, h2⟩ := Lies.of_ownK h hn
  refine ⟨b, off, eA, h1, fun hk => ?_, h2⟩
  have := (h.lt b (by rw [eA]; rfl)).1
  have := hD b hk
  omega

/-- These cells are this frame's, its slices lie outside of D. -/
def FrX (w : World) (D : Nat → Prop) (F : Fr) (cs : Array Value) : Prop := ∃ p : Fin 5 → Hd, cs = frCells F (.slice (p 0).1 F.est.length (p 0).2) (.slice (p 1).1 F.aux.length (p 1).2) (.slice (p 2).1 F.done.length (p 2).2) (.slice (p 3).1 F.held.length (p 3).2) (.slice (p 4).1 F.data.length (p 4).2) ∧
    LiesX w D (p 0).1 (flat encRn F.est) ∧ LiesX w D (p 1).1 (flat encRn F.aux) ∧ LiesX w D (p 2).1 (uvs F.done) ∧ LiesX w D (p 3).1 (uvs F.held) ∧ LiesX w D (p 4).1 (bvs F.data)
theorem FrX.toL {w : World} {D : Nat → Prop} {F : Fr} {cs : Array Value} (h : FrX w D F cs) : FrL w F cs := by
  obtain ⟨p, e, h0, h1, h2, h3, h4⟩ := h
  exact ⟨p, e, h0.lies, h1.lies, h2.lies, h3.lies, h4.lies⟩
theorem FrX.kept {w w' : World} {D : Nat → Prop} {F : Fr} {cs : Array Value} (h : FrX w D F cs) (ho : OnlyE w w' D) : FrX w' D F cs := by
  obtain ⟨p, e, h0, h1, h2, h3, h4⟩ := h
  exact ⟨p, e, h0.kept ho, h1.kept ho, h2.kept ho, h3.kept ho, h4.kept ho⟩
theorem FrX.widen {w : World} {D D' : Nat → Prop} {F : Fr} {cs : Array Value} (h : FrX w D F cs) (hD : ∀ k, D' k → w.heap.size ≤ k ∨ D k) : FrX w D' F cs := by
  obtain ⟨p, e, h0, h1, h2, h3, h4⟩ := h
  exact ⟨p, e, h0.widen hD, h1.widen hD, h2.widen hD, h3.widen hD, h4.widen hD⟩
theorem FrX.put {w : World} {D : Nat → Prop} {F F' : Fr} {cs : Array Value} (h : FrX w D F cs) (i : Nat) (u : Value) (hc : ∀ ve vx vn vh vd, (frCells F ve vx vn vh vd).setIfInBounds i u = frCells F' ve vx vn vh vd)
    (e1 : F'.est = F.est) (e2 : F'.aux = F.aux) (e3 : F'.done = F.done) (e4 : F'.held = F.held) (e5 : F'.data = F.data) : FrX w D F' (cs.setIfInBounds i u) := by
  obtain ⟨p, e, h0, h1, h2, h3, h4⟩ := h
  refine ⟨p, ?_, ?_, ?_, ?_, ?_, ?_⟩
  · rw [e, hc, e1, e2, e3, e4, e5]
  · rw [e1]; exact h0
  · rw [e2]; exact h1
  · rw [e3]; exact h2
  · rw [e4]; exact h3
  · rw [e5]; exact h4
def setP (p : Fin 5 → Hd) (i : Fin 5) (x : Hd) : Fin 5 → Hd := fun j => if j = i then x else p j
theorem FrX.est {w : World} {D : Nat → Prop} {F : Fr} {cs : Array Value} (h : FrX w D F cs) (A : Option Addr) (n c : Nat) (l : List Rn) (hl : l.length = n) (hL : LiesX w D A (flat encRn l)) : FrX w D { F with est := l } (cs.setIfInBounds 11 (.slice A n c)) := by
  obtain ⟨p, rfl, h0, h1, h2, h3, h4⟩ := h
  subst hl
  exact ⟨setP p 0 (A, c), rfl, hL, h1, h2, h3, h4⟩
theorem FrX.aux {w : World} {D : Nat → Prop} {F : Fr} {cs : Array Value} (h : FrX w D F cs) (A : Option Addr) (n c : Nat) (l : List Rn) (hl : l.length = n) (hL : LiesX w D A (flat encRn l)) : FrX w D { F with aux := l } (cs.setIfInBounds 12 (.slice A n c)) := by
  obtain ⟨p, rfl, h0, h1, h2, h3, h4⟩ := h
  subst hl
  exact ⟨setP p 1 (A, c), rfl, h0, hL, h2, h3, h4⟩
theorem FrX.done {w : World} {D : Nat → Prop} {F : Fr} {cs : Array Value} (h : FrX w D F cs) (A : Option Addr) (n c : Nat) (l : List Nat) (hl : l.length = n) (hL : LiesX w D A (uvs l)) : FrX w D { F with done := l } (cs.setIfInBounds 13 (.slice A n c)) := by
  obtain ⟨p, rfl, h0, h1, h2, h3, h4⟩ := h
  subst hl
  exact ⟨setP p 2 (A, c), rfl, h0, h1, hL, h3, h4⟩
theorem FrX.held {w : World} {D : Nat → Prop} {F : Fr} {cs : Array Value} (h : FrX w D F cs) (A : Option Addr) (n c : Nat) (l : List Nat) (hl : l.length = n) (hL : LiesX w D A (uvs l)) : FrX w D { F with held := l } (cs.setIfInBounds 14 (.slice A n c)) := by
  obtain ⟨p, rfl, h0, h1, h2, h3, h4⟩ := h
  subst hl
  exact ⟨setP p 3 (A, c), rfl, h0, h1, h2, hL, h4⟩
theorem FrX.data {w : World} {D : Nat → Prop} {F : Fr} {cs : Array Value} (h : FrX w D F cs) (A : Option Addr) (n c : Nat) (l : List UInt8) (hl : l.length = n) (hL : LiesX w D A (bvs l)) : FrX w D { F with data := l } (cs.setIfInBounds 15 (.slice A n c)) := by
  obtain ⟨p, rfl, h0, h1, h2, h3, h4⟩ := h
  subst hl
  exact ⟨setP p 4 (A, c), rfl, h0, h1, h2, h3, hL⟩

/-- A frame's cells while it is read: behind an error they are whatever cells. -/
def FrW (w : World) (D : Nat → Prop) (F : Fr) (er : Nat) (cs : Array Value) : Prop := cs.size = 16 ∧ cs.all (·.oneCell') = true ∧ (er = 0 → FrX w D F cs)
theorem FrW.kept {w w' : World} {D : Nat → Prop} {F : Fr} {er : Nat} {cs : Array Value} (h : FrW w D F er cs) (ho : OnlyE w w' D) : FrW w' D F er cs := ⟨h.1, h.2.1, fun e => (h.2.2 e).kept ho⟩
theorem FrW.widen {w : World} {D D' : Nat → Prop} {F : Fr} {er : Nat} {cs : Array Value} (h : FrW w D F er cs) (hD : ∀ k, D' k → w.heap.size ≤ k ∨ D k) : FrW w D' F er cs := ⟨h.1, h.2.1, fun e => (h.2.2 e).widen hD⟩

theorem all_set {cs : Array Value} (h : cs.all (·.oneCell') = true) (i : Nat) (u : Value) (hu : u.oneCell' = true) : (cs.setIfInBounds i u).all (·.oneCell') = true := by
  rw [Array.all_eq_true] at h ⊢
  intro j hj
  rw [Array.size_setIfInBounds] at hj
  rw [Array.getElem_setIfInBounds hj]
  split
  · exact hu
  · exact h j hj

theorem onlyE_setRow {w : World} {D : Nat → Prop} {g : Nat} (hg : D g) (cs : Array Value) : OnlyE w (w.setRow g cs) D := OnlyE.of_grown (grown_setRow w g cs) hg

/-- The blocks of a taking's own boxes, beside D. -/
def DT (w : World) (D : Nat → Prop) (k : Nat) : Prop := D k ∨ (w.heap.size ≤ k ∧ k < w.heap.size + 4)

/-- What stands while a field is taken: the frame's box, the reader's, those of the answers. -/
structure TkS (w : World) (B : Nat) (D : Nat → Prop) (F : Fr) (s : Rs) (cs rs : Array Value) (V : World) : Prop where
  below : RowKit.Below w.heap.size w V
  fr : V.heap[w.heap.size]? = some (.cells cs 33 (0, 0))
  rd : V.heap[w.heap.size + 1]? = some (.cells rs 59 (0, 0))
  zf : V.heap[w.heap.size + 2]? = some (.cells zeroCells 33 (0, 0))
  zr : V.heap[w.heap.size + 3]? = some (.cells #[.slice none 0 0, .int .i64 0] 59 (0, 0))
  good : FrW V (DT w D) F s.2 cs
  rat : RAt V B s (.agg rs)

theorem TkS.lt {w : World} {B : Nat} {D : Nat → Prop} {F : Fr} {s : Rs} {cs rs : Array Value} {V : World} (h : TkS w B D F s cs rs V) : w.heap.size + 3 < V.heap.size := (Array.getElem?_eq_some_iff.1 h.zr).1

theorem TkS.start {w : World} {B : Nat} {D : Nat → Prop} {F : Fr} {s : Rs} {cs rs : Array Value} (hF : FrW w D F s.2 cs) (hr : RAt w B s (.agg rs)) (hB : B ≤ w.heap.size) {W0 : World}
    (h : World.alloc (World.alloc (World.alloc (World.alloc w (.cells cs 33)) (.cells rs 59)) (.cells zeroCells 33)) (.cells #[.slice none 0 0, .int .i64 0] 59) = W0) : TkS w B D F s cs rs W0 := by
  subst h
  have hb : RowKit.Below w.heap.size w ((((w.alloc (.cells cs 33)).alloc (.cells rs 59)).alloc (.cells zeroCells 33)).alloc (.cells #[.slice none 0 0, .int .i64 0] 59)) :=
    ((((RowKit.Below.refl _ _).alloc (Nat.le_refl _) _).alloc (by simp) _).alloc (by simp; omega) _).alloc (by simp; omega) _
  refine ⟨hb, ?_, ?_, ?_, ?_, ?_, hr.below (hb.mono hB)⟩
  · exact Below.heap_alloc_row (Below.heap_alloc_row (Below.heap_alloc_row (heap_alloc_new _ _)))
  · have := Below.heap_alloc_row (o' := .cells #[.slice none 0 0, .int .i64 0] 59) (Below.heap_alloc_row (o' := .cells zeroCells 33) (heap_alloc_new (w.alloc (.cells cs 33)) (.cells rs 59)))
    simpa using this
  · have := Below.heap_alloc_row (o' := .cells #[.slice none 0 0, .int .i64 0] 59) (heap_alloc_new ((w.alloc (.cells cs 33)).alloc (.cells rs 59)) (.cells zeroCells 33))
    simpa using this
  · have := heap_alloc_new (((w.alloc (.cells cs 33)).alloc (.cells rs 59)).alloc (.cells zeroCells 33)) (.cells #[.slice none 0 0, .int .i64 0] 59)
    simpa using this
  · exact (hF.widen (D' := DT w D) fun k hk => hk.elim .inr fun h => .inl h.1).kept (OnlyE.of_below hb)

theorem TkS.on {w : World} {B : Nat} {D : Nat → Prop} {F : Fr} {s : Rs} {cs rs : Array Value} {V V' : World} (h : TkS w B D F s cs rs V) (hB : B ≤ w.heap.size) (hb : RowKit.Below V.heap.size V V') : TkS w B D F s cs rs V' := by
  have hs := h.lt
  have hk : ∀ k o, V.heap[k]? = some o → V'.heap[k]? = some o := fun k o ho => (hb.block k (Array.getElem?_eq_some_iff.1 ho).1).trans ho
  exact ⟨h.below.trans (hb.mono h.below.size), hk _ _ h.fr, hk _ _ h.rd, hk _ _ h.zf, hk _ _ h.zr, h.good.kept (OnlyE.of_below hb), h.rat.below (hb.mono (by omega))⟩

/-- The reader is stored. -/
theorem TkS.setR {w : World} {B : Nat} {D : Nat → Prop} {F : Fr} {s s' : Rs} {cs rs rs' : Array Value} {V : World} (h : TkS w B D F s cs rs V) (hB : B ≤ w.heap.size) (hr : RAt V B s' (.agg rs')) (he : s'.2 = 0 → s.2 = 0) : TkS w B D F s' cs rs' (V.setRow (w.heap.size + 1) rs') := by
  have hD : DT w D (w.heap.size + 1) := .inr ⟨by omega, by omega⟩
  refine ⟨Below.setRow h.below (by omega) rs', ?_, setRow_heap V _ _ rs' _ _ h.rd, ?_, ?_, ?_, hr.below (Below.setRow (RowKit.Below.refl _ _) (by omega) rs')⟩
  · exact (setRow_other _ _ _ _ (by omega)).trans h.fr
  · exact (setRow_other _ _ _ _ (by omega)).trans h.zf
  · exact (setRow_other _ _ _ _ (by omega)).trans h.zr
  · have hg := h.good.kept (onlyE_setRow hD rs')
    exact ⟨hg.1, hg.2.1, fun e => hg.2.2 (he e)⟩

/-- A cell of the frame is stored. -/
theorem TkS.setC {w : World} {B : Nat} {D : Nat → Prop} {F F' : Fr} {s : Rs} {cs rs : Array Value} {V : World} (h : TkS w B D F s cs rs V) (hB : B ≤ w.heap.size) (i : Nat) (u : Value) (h1 : u.oneCell' = true) (hF : s.2 = 0 → FrX V (DT w D) F cs → FrX V (DT w D) F' (cs.setIfInBounds i u)) :
    TkS w B D F' s (cs.setIfInBounds i u) rs (V.setCell ⟨w.heap.size, i, none⟩ u) := by
  have hD : DT w D w.heap.size := .inr ⟨by omega, by omega⟩
  have hb : RowKit.Below w.heap.size V (V.setCell ⟨w.heap.size, i, none⟩ u) := (RowKit.Below.refl _ _).setCell (p := ⟨w.heap.size, i, none⟩) (Nat.le_refl _) u
  exact ⟨h.below.trans hb, heap_setCell_row h.fr i u, row_setOther h.rd (by omega) i u, row_setOther h.zf (by omega) i u, row_setOther h.zr (by omega) i u,
    ⟨by rw [Array.size_setIfInBounds]; exact h.good.1, all_set h.good.2.1 i u h1, fun e => (hF e (h.good.2.2 e)).kept (onlyE_set hD i u)⟩, h.rat.below (hb.mono hB)⟩

/-- A cell of the frame is stored, then the reader. -/
theorem TkS.both {w : World} {B : Nat} {D : Nat → Prop} {F F' : Fr} {s s' : Rs} {cs rs rs' : Array Value} {V : World} (h : TkS w B D F s cs rs V) (hB : B ≤ w.heap.size) (hr : RAt V B s' (.agg rs')) (he : s'.2 = 0 → s.2 = 0) (i : Nat) (u : Value) (h1 : u.oneCell' = true) (hF : s'.2 = 0 → FrX V (DT w D) F cs → FrX V (DT w D) F' (cs.setIfInBounds i u)) :
    TkS w B D F' s' (cs.setIfInBounds i u) rs' ((V.setCell ⟨w.heap.size, i, none⟩ u).setRow (w.heap.size + 1) rs') := by
  have hD : DT w D w.heap.size := .inr ⟨by omega, by omega⟩
  have hD1 : DT w D (w.heap.size + 1) := .inr ⟨by omega, by omega⟩
  have hb : RowKit.Below w.heap.size V (V.setCell ⟨w.heap.size, i, none⟩ u) := (RowKit.Below.refl _ _).setCell (p := ⟨w.heap.size, i, none⟩) (Nat.le_refl _) u
  refine ⟨Below.setRow (h.below.trans hb) (by omega) rs', ?_, setRow_heap _ _ _ rs' _ _ (row_setOther h.rd (by omega) i u), ?_, ?_, ?_, (hr.below (hb.mono hB)).below (Below.setRow (RowKit.Below.refl _ _) (by omega) rs')⟩
  · exact (setRow_other _ _ _ _ (by omega)).trans (heap_setCell_row h.fr i u)
  · exact (setRow_other _ _ _ _ (by omega)).trans (row_setOther h.zf (by omega) i u)
  · exact (setRow_other _ _ _ _ (by omega)).trans (row_setOther h.zr (by omega) i u)
  · exact ⟨by rw [Array.size_setIfInBounds]; exact h.good.1, all_set h.good.2.1 i u h1, fun e => ((hF e (h.good.2.2 (he e))).kept (onlyE_set hD i u)).kept (onlyE_setRow hD1 rs')⟩

theorem TkS.cell {w : World} {B : Nat} {D : Nat → Prop} {F : Fr} {s : Rs} {cs rs : Array Value} {V : World} (h : TkS w B D F s cs rs V) (i : Nat) (hi : i < 16) : ∃ u, V.cell? ⟨w.heap.size, i, none⟩ = some u :=
  ⟨_, (cell_of_row V _ i _ _ _ h.fr).trans (Array.getElem?_eq_getElem (by rw [h.good.1]; exact hi))⟩

/-- What take answers: the frame, the reader behind the field. -/
def TakeGot (w : World) (B : Nat) (D : Nat → Prop) (p : Fr × Rs) (e : Ending) (w' : World) : Prop :=
  ∃ cs rs, e = .returned (.tuple #[.agg cs, .agg rs]) ∧ FrW w' D p.1 p.2.2 cs ∧ RAt w' B p.2 (.agg rs) ∧ RowKit.Below w.heap.size w w'

theorem TkS.end_ {w : World} {B : Nat} {D : Nat → Prop} {F : Fr} {s : Rs} {cs rs : Array Value} {V : World} (h : TkS w B D F s cs rs V) (hB : B ≤ w.heap.size) :
    (((V.drew.setRow (w.heap.size + 2) cs).setRow (w.heap.size + 3) rs).heap[w.heap.size + 2]? = some (.cells cs 33 (0, 0)) ∧ ((V.drew.setRow (w.heap.size + 2) cs).setRow (w.heap.size + 3) rs).heap[w.heap.size + 3]? = some (.cells rs 59 (0, 0)) ∧ TakeGot w B D (F, s) (.returned (.tuple #[.agg cs, .agg rs])) ((V.drew.setRow (w.heap.size + 2) cs).setRow (w.heap.size + 3) rs)) ∧
    ((V.drew.setRow (w.heap.size + 3) rs).setRow (w.heap.size + 2) cs).heap[w.heap.size + 2]? = some (.cells cs 33 (0, 0)) ∧ ((V.drew.setRow (w.heap.size + 3) rs).setRow (w.heap.size + 2) cs).heap[w.heap.size + 3]? = some (.cells rs 59 (0, 0)) ∧ TakeGot w B D (F, s) (.returned (.tuple #[.agg cs, .agg rs])) ((V.drew.setRow (w.heap.size + 3) rs).setRow (w.heap.size + 2) cs) := by
  have hd : RowKit.Below V.heap.size V V.drew := (RowKit.Below.refl _ _).drew
  have h' := h.on hB hd
  have D2 : DT w D (w.heap.size + 2) := .inr ⟨by omega, by omega⟩
  have D3 : DT w D (w.heap.size + 3) := .inr ⟨by omega, by omega⟩
  have hsub : ∀ k, D k → V.drew.heap.size ≤ k ∨ DT w D k := fun k hk => .inr (.inl hk)
  generalize V.drew = U at h' hsub ⊢
  refine ⟨⟨?_, ?_, cs, rs, rfl, ?_, ?_, ?_⟩, ?_, ?_, cs, rs, rfl, ?_, ?_, ?_⟩
  · exact (setRow_other _ _ _ _ (by omega)).trans (setRow_heap _ _ _ _ _ _ h'.zf)
  · exact setRow_heap _ _ _ _ _ _ ((setRow_other _ _ _ _ (by omega)).trans h'.zr)
  · exact ((h'.good.kept (onlyE_setRow D2 cs)).kept (onlyE_setRow D3 rs)).widen fun k hk => .inr (.inl hk)
  · exact (h'.rat.below (Below.setRow (RowKit.Below.refl _ _) (by omega) _)).below (Below.setRow (RowKit.Below.refl _ _) (by omega) _)
  · exact Below.setRow (Below.setRow h'.below (by omega) _) (by omega) _
  · exact setRow_heap _ _ _ _ _ _ ((setRow_other _ _ _ _ (by omega)).trans h'.zf)
  · exact (setRow_other _ _ _ _ (by omega)).trans (setRow_heap _ _ _ _ _ _ h'.zr)
  · exact ((h'.good.kept (onlyE_setRow D3 rs)).kept (onlyE_setRow D2 cs)).widen fun k hk => .inr (.inl hk)
  · exact (h'.rat.below (Below.setRow (RowKit.Below.refl _ _) (by omega) _)).below (Below.setRow (RowKit.Below.refl _ _) (by omega) _)
  · exact Below.setRow (Below.setRow h'.below (by omega) _) (by omega) _

theorem results_cell_cell {fn : Func} {p q : Tmp} {ty tz : TypeId} (h : fn.results = #[.cell p ty, .cell q tz]) (tmps : Array Value) (w : World) (g k : Nat) (cs ds : Array Value)
    (hp : tmps.getD p undef = .pointer (some ⟨g, 0, none⟩)) (hl : (loadVar ty ⟨g, 0, none⟩).run Try.prog w = .ok (.agg cs) w) (hq : tmps.getD q undef = .pointer (some ⟨k, 0, none⟩)) (hm : (loadVar tz ⟨k, 0, none⟩).run Try.prog w = .ok (.agg ds) w) :
    (results fn tmps).run Try.prog w = .ok (.tuple #[.agg cs, .agg ds]) w := by
  have hp' : tmps[p]?.getD undef = .pointer (some ⟨g, 0, none⟩) := by simpa using hp
  have hq' : tmps[q]?.getD undef = .pointer (some ⟨k, 0, none⟩) := by simpa using hq
  simp [results, h, hp', hq', asAddr, hl, hm]

/-- A frame is loaded, in a region that draws its order. -/
theorem yields_frame {ops : Array Oper} {S : World → Prop} {o : Oper} {a : Act} {x : Operand} {g : Nat} {cs : Array Value} (hw : Region.wanted o (yielded ops a.tmps) = true) (ho : o.op = .load 33 x) (hx : a.eval x = .pointer (some ⟨g, 0, none⟩)) (hs : cs.size = 16)
    (hS : ∀ V, S V → V.heap[g]? = some (.cells cs 33 (0, 0))) : YieldsIf Try.prog ops S o (.agg cs) a :=
  .inl ⟨hw, fun V hV => by
    unfold execOp
    simp only [ho, hx, Instr.loadAt, Instr.sureAddr, Sem.run_bind, Sem.run_pure, Result.andThen_ok, load_row33 (hS V hV) hs]⟩
theorem yields_R {ops : Array Oper} {S : World → Prop} {o : Oper} {a : Act} {x : Operand} {g : Nat} {cs : Array Value} (hw : Region.wanted o (yielded ops a.tmps) = true) (ho : o.op = .load 59 x) (hx : a.eval x = .pointer (some ⟨g, 0, none⟩)) (hs : cs.size = 2)
    (hS : ∀ V, S V → V.heap[g]? = some (.cells cs 59 (0, 0))) : YieldsIf Try.prog ops S o (.agg cs) a :=
  .inl ⟨hw, fun V hV => by
    unfold execOp
    simp only [ho, hx, Instr.loadAt, Instr.sureAddr, Sem.run_bind, Sem.run_pure, Result.andThen_ok, load_rowR (hS V hV) hs]⟩

theorem rN_err {m : Nat} {s : Rs} (h : (rN m s).2.2 = 0) : s.2 = 0 := (rN_ok h).1

end Go.Proofs.Ytbfjfidodpgohaa
