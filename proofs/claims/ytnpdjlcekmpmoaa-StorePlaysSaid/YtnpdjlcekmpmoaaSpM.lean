/- Stage 14: StorePlays: both stores side by side, the document's in its box. -/
import Derived.Test.YtnpdjlcekmpmoaaSpL
set_option maxRecDepth 20000
namespace Go.Proofs.Ytnpdjlcekmpmoaa
open Go.RowKit Go.Sort Go.Maps Go.ChangeShapes Go.WideShapes Go.ChangeAt

/-- What stands in StorePlays' loop; cs are the cells of the box of the document's store. -/
structure PlB (w : World) (g mb fb sb : Nat) (cs : Array Value) (D : Nat → Prop) (A : Option Addr) (c : Nat) (A2 : Option Addr) (c2 : Nat) (m : Sm) (i : Nat) (V : World) : Prop where
  st : StAt V w.heap.size g mb fb m D
  rs : RsAt V D A c A2 c2 m
  box : V.heap[sb]? = some (.cells cs 29 (0, 0))
  ds : D sb
  ne : ¬ own3 g mb fb sb
  len : m.l.length ≤ i
  below : RowKit.Below w.heap.size w V

section
variable {w V V' V1 : World} {g mb fb sb nb i base : Nat} {cs ns : Array Value} {D D' : Nat → Prop} {A A2 : Option Addr} {c c2 : Nat} {m m' : Sm}

theorem SaOk.up {y : Sa} {B : Nat} (h : SaOk V B y) (hB : B ≤ V.heap.size) (hb : RowKit.Below V.heap.size V V') : SaOk V' V'.heap.size y := ⟨h.k, h.n, h.c, (h.l.more hB).later hb, h.n2, h.c2, (h.l2.more hB).later hb⟩
theorem own3_ne {b : Nat} (h : ¬ own3 g mb fb b) : b ≠ g ∧ b ≠ mb ∧ b ≠ fb := ⟨fun e => h (.inl e), fun e => h (.inr (.inl e)), fun e => h (.inr (.inr e))⟩

theorem PlB.lt (h : PlB w g mb fb sb cs D A c A2 c2 m i V) : sb < V.heap.size := (h.st.din _ h.ds).2
theorem PlB.on (h : PlB w g mb fb sb cs D A c A2 c2 m i V) (hb : RowKit.Below V.heap.size V V') : PlB w g mb fb sb cs D A c A2 c2 m i V' where
  st := h.st.on hb
  rs := h.rs.on hb
  box := (hb.block _ h.lt).trans h.box
  ds := h.ds
  ne := h.ne
  len := h.len
  below := h.below.trans (hb.mono h.below.size)
/-- A cell of the box is written. -/
theorem PlB.set (h : PlB w g mb fb sb cs D A c A2 c2 m i V) (q : Nat) (u : Value) : PlB w g mb fb sb (cs.setIfInBounds q u) D A c A2 c2 m i (V.setCell ⟨sb, q, none⟩ u) where
  st := h.st.kept (onlyE_set (D := fun k => k = sb) rfl q u) fun b hb => .inr (by subst hb; exact ⟨h.ds, own3_ne h.ne⟩)
  rs := h.rs.kept (onlyE_set h.ds q u)
  box := heap_setCell_same V _ q _ _ u h.box
  ds := h.ds
  ne := h.ne
  len := h.len
  below := h.below.trans ((onlyE_set (D := fun k => k = sb) rfl q u).below (fun k hk => by subst hk; exact (h.st.din _ h.ds).1) h.below.size)
theorem PlB.ce (h : PlB w g mb fb sb cs D A c A2 c2 m i V) {q : Nat} {u : Value} (hu : cs[q]? = some u) : V.cell? ⟨sb, q, none⟩ = some u := (cell_of_row V _ q _ _ _ h.box).trans hu
theorem PlB.fr (h : PlB w g mb fb sb cs D A c A2 c2 m i V) (q : Nat) : V.frozen? ⟨sb, q, none⟩ = false := frozen_of_row V _ q _ _ h.box

/-- Both stores are new. -/
theorem PlB.start (hs : StAt V w.heap.size g mb fb m (own3 g mb fb)) (hb : RowKit.Below w.heap.size w V) (hb1 : RowKit.Below V.heap.size V V1) (hr : ∀ D : Nat → Prop, (∀ b, D b → b < V.heap.size) → RsAt V1 D A c A2 c2 m) (hl : m.l.length ≤ i) (h3 : V1.alloc (.cells cs 29) = V') :
    PlB w g mb fb V1.heap.size cs (fun b => own3 g mb fb b ∨ b = V1.heap.size) A c A2 c2 m i V' := by
  subst h3
  have h1 := hs.on hb1
  have hal := alloc_below V1 (.cells cs 29)
  have hlo := h1.lo
  have hB := hb.trans (hb1.mono hb.size)
  exact {
    st := h1.grow hal (fun b h => .inl h) fun b h => by
      rcases h with h | h
      · exact ⟨(h1.din b h).1, Nat.lt_of_lt_of_le (h1.din b h).2 hal.size, .inl h⟩
      · exact ⟨by omega, by rw [h]; simp, .inr (by omega)⟩
    rs := ((hr _ fun b h => (hs.din b h).2).widen fun k hk => by
      rcases hk with h | h
      · exact .inr h
      · exact .inl (by omega)).on hal
    box := heap_alloc_new V1 _
    ds := .inr rfl
    ne := fun h => by have := (h1.din _ h).2; omega
    len := hl
    below := hB.trans (hal.mono hB.size) }

/-- A box of the document's store's size is laid. -/
theorem PlB.more (h : PlB w g mb fb sb cs D A c A2 c2 m i V) (h3 : V.alloc (.cells zeroS 29) = V') :
    PlB w g mb fb V.heap.size zeroS (fun b => D b ∨ b = V.heap.size) A c A2 c2 m i V' := by
  subst h3
  have hal := alloc_below V (.cells zeroS 29)
  have hlo := h.st.lo
  exact {
    st := h.st.grow hal (fun b h => .inl h) fun b hb => by
      rcases hb with hb | hb
      · exact ⟨(h.st.din b hb).1, Nat.lt_of_lt_of_le (h.st.din b hb).2 hal.size, .inl hb⟩
      · exact ⟨by omega, by rw [hb]; simp, .inr (by omega)⟩
    rs := (h.rs.widen fun k hk => by
      rcases hk with h | h
      · exact .inr h
      · exact .inl (by omega)).on hal
    box := heap_alloc_new V _
    ds := .inr rfl
    ne := fun hx => by have := (h.st.din _ (h.st.own hx)).2; omega
    len := h.len
    below := h.below.trans (hal.mono h.below.size) }

/-- Behind an act: the stores have gone on, the box not yet. -/
theorem PlB.did {e : Ending} (h : PlB w g mb fb sb cs D A c A2 c2 m i V) (hV : RowKit.Below V.heap.size V V1) (hd : DidS V1 w.heap.size g mb fb D m' e V') (hl : m'.l.length ≤ m.l.length + 1) :
    ∃ D' A' c' A2' c2', e = .returned (.tuple #[.bool true, .agg (rsCells A' c' A2' c2' m')]) ∧ PlB w g mb fb sb cs D' A' c' A2' c2' m' (i + 1) V' ∧ OnlyE V1 V' (own3 g mb fb) ∧ ∀ b, D b → D' b := by
  obtain ⟨A', c', A2', c2', D', rfl, hs, hr, ho, hD⟩ := hd
  have k := h.on hV
  exact ⟨D', A', c', A2', c2', rfl, {
    st := hs
    rs := hr
    box := (ho.same _ k.lt k.ne).trans k.box
    ds := hD _ h.ds
    ne := h.ne
    len := by have := h.len; omega
    below := k.below.trans (ho.below (fun b hb => (k.st.din _ (k.st.own hb)).1) k.below.size) }, ho, hD⟩
/-- The same stores, another box. -/
theorem PlB.box2 (h : PlB w g mb fb sb cs D A c A2 c2 m i V) (hn : V.heap[nb]? = some (.cells ns 29 (0, 0))) (hd : D nb) (hne : ¬ own3 g mb fb nb) : PlB w g mb fb nb ns D A c A2 c2 m i V :=
  { h with box := hn, ds := hd, ne := hne }
theorem other_row (q : Nat) (u : Value) (hn : V.heap[nb]? = some (.cells ns 29 (0, 0))) (hne : nb ≠ sb) : (V.setCell ⟨sb, q, none⟩ u).heap[nb]? = some (.cells ns 29 (0, 0)) :=
  (heap_setCell_other V ⟨sb, q, none⟩ nb u (by simpa using hne)).trans hn
end

end Go.Proofs.Ytnpdjlcekmpmoaa
