/- does: the boxes of a call, and a Put. -/
import Derived.Test.YtjecphjdmjoeiaaBgW
namespace Go.Proofs.Ytjecphjdmjoeiaa
open Go.RowKit Go.Sort

/-- The boxes of a call of does: the document's bag, the act, the answer; beside them the bag's blocks D may have turned. -/
structure DBox (w : World) (D : Nat → Prop) (gs as_ rs : Array Value) (W : World) : Prop where
  only : OnlyE w W D
  g : W.heap[w.heap.size]? = some (.cells gs 28 (0, 0))
  a : W.heap[w.heap.size + 1]? = some (.cells as_ 33 (0, 0))
  r : W.heap[w.heap.size + 1 + 1]? = some (.cells rs 28 (0, 0))

theorem DBox.start {w W : World} {D : Nat → Prop} {gs as_ rs : Array Value} (h : ((w.alloc (.cells gs 28)).alloc (.cells as_ 33)).alloc (.cells rs 28) = W) : DBox w D gs as_ rs W := by
  obtain ⟨h1, h2, h3, hb⟩ := alloc3_blocks w _ _ _ h
  exact ⟨OnlyE.of_below hb, h1, h2, h3⟩
theorem DBox.lt {w W : World} {D : Nat → Prop} {gs as_ rs : Array Value} (h : DBox w D gs as_ rs W) : w.heap.size + 3 ≤ W.heap.size := (Array.getElem?_eq_some_iff.1 h.r).1
theorem DBox.step {w W W' : World} {D X : Nat → Prop} {gs as_ rs : Array Value} (h : DBox w D gs as_ rs W) (ho : OnlyE W W' X) (hX : ∀ b, X b → D b ∨ w.heap.size + 3 ≤ b) (hD : ∀ b, D b → b < w.heap.size) : DBox w D gs as_ rs W' := by
  have hlt := h.lt
  have hn : ∀ k, w.heap.size ≤ k → k < w.heap.size + 3 → ¬ X k := fun k h1 h2 hk => (hX k hk).elim (fun hd => by have := hD k hd; omega) (fun hd => by omega)
  refine ⟨⟨Nat.le_trans h.only.size ho.size, fun k hk hd => (ho.same k (by omega) fun hx => (hX k hx).elim hd fun h2 => by omega).trans (h.only.same k hk hd), h.only.base.trans ho.base⟩, ?_, ?_, ?_⟩
  · exact (ho.same _ (by omega) (hn _ (by omega) (by omega))).trans h.g
  · exact (ho.same _ (by omega) (hn _ (by omega) (by omega))).trans h.a
  · exact (ho.same _ (by omega) (hn _ (by omega) (by omega))).trans h.r
theorem DBox.on {w W W' : World} {D : Nat → Prop} {gs as_ rs : Array Value} (h : DBox w D gs as_ rs W) (hb : RowKit.Below W.heap.size W W') (hD : ∀ b, D b → b < w.heap.size) : DBox w D gs as_ rs W' :=
  h.step (OnlyE.of_below (D := fun _ => False) hb) (fun _ h => h.elim) hD
theorem DBox.up {w W W' : World} {D : Nat → Prop} {gs as_ rs : Array Value} (h : DBox w D gs as_ rs W) (hb : RowKit.Below (w.heap.size + 3) W W') (hD : ∀ b, D b → b < w.heap.size) : DBox w D gs as_ rs W' :=
  h.step (X := fun k => w.heap.size + 3 ≤ k) ⟨hb.size, fun k _ hk => hb.block k (by omega), hb.mono (Nat.zero_le _)⟩ (fun _ h => .inr h) hD

/-- What does answers. -/
def Does (w : World) (base p room lost : Nat) (D : Nat → Prop) (e : Ending) (w' : World) : Prop :=
  ∃ T' lost' l' D' A' c', e = .returned (.tuple #[.bool true, .agg (gCells room (.slice A' l'.length c') lost')]) ∧ BagAt w' base p T' room lost' l' D' ∧ l'.length ≤ c' ∧ c' ≤ maxLen ∧ LiesX w' D' A' (flat encG (l'.map Th.pl)) ∧
    OnlyE w w' D ∧ (∀ b, D' b → D b ∨ w.heap.size ≤ b) ∧ lost' ≤ lost + 1

/-- Cells of bytes, whatever they are. -/
def Bytes (xs : List Value) : Prop := ∀ u ∈ xs, ∃ k : Nat, k < 256 ∧ u = .int .u8 (k : Int)
theorem Bytes.bvs (l : List UInt8) : Bytes (bvs l) := by
  intro u hu
  unfold Go.Proofs.Ytjecphjdmjoeiaa.bvs at hu
  obtain ⟨c, _, rfl⟩ := List.mem_map.1 hu
  exact ⟨c.toNat, c.toNat_lt, rfl⟩
theorem Bytes.set {xs : List Value} (h : Bytes xs) (q k : Nat) (hk : k < 256) : Bytes (xs.set q (.int .u8 (k : Int))) := by
  intro u hu
  rcases List.mem_or_eq_of_mem_set hu with hu | rfl
  · exact h u hu
  · exact ⟨k, hk, rfl⟩

/-- What stands while bytes of the call's own are counted up. -/
def IncS (w6 : World) (B n q : Nat) (v : Value) (wr : World) : Prop := q ≤ n ∧ ∃ xs, Bytes xs ∧ wr.ownsRow B 5 1 v n xs ∧ OnlyE w6 wr (fun k => v.ownBlock = some k)

theorem IncS.start {w6 : World} {B n : Nat} {v : Value} {l : List UInt8} (h : w6.ownsRow B 5 1 v n (bvs l)) : IncS w6 B n 0 v w6 := ⟨Nat.zero_le _, _, Bytes.bvs l, h, OnlyE.refl _ _⟩
theorem IncS.cell {w6 wr : World} {B n q : Nat} {v : Value} (h : IncS w6 B n q v wr) (hq : q < n) : ∃ (g c k : Nat), v = .slice (some ⟨g, 0, none⟩) n c ∧ k < 256 ∧ wr.cell? ⟨g, q, none⟩ = some (.int .u8 (k : Int)) ∧ wr.frozen? ⟨g, q, none⟩ = false := by
  obtain ⟨_, xs, hb, ho, _⟩ := h
  obtain ⟨g, c, rfl, _, _⟩ := ho.form (by omega)
  have hl := ho.1
  have hq1 : q < xs.length := by omega
  obtain ⟨k, hk, e⟩ := hb xs[q] (List.getElem_mem hq1)
  refine ⟨g, c, k, rfl, hk, ?_, ho.frozenAt q⟩
  rw [ho.cellAt _ (by omega), List.getElem?_eq_getElem hq1, e]
theorem IncS.step {w6 wr : World} {B n q g c : Nat} (h : IncS w6 B n q (.slice (some ⟨g, 0, none⟩) n c) wr) (hq : q < n) (k : Nat) (hk : k < 256) : IncS w6 B n (q + 1) (.slice (some ⟨g, 0, none⟩) n c) (wr.setCell ⟨g, q, none⟩ (.int .u8 (k : Int))) := by
  obtain ⟨_, xs, hb, ho, hO⟩ := h
  exact ⟨hq, _, hb.set q k hk, (ho.stored q _).1, hO.trans (onlyE_set (D := fun k => (Value.slice (some ⟨g, 0, none⟩) n c).ownBlock = some k) rfl q _)⟩

/-- The document's bag is stored whole, in a region that draws its order. -/
theorem wp_store_G {o : Oper} {a : Act} {w : World} {ys : Nat → Option Bool} {K : Act → World → Prop} {Q : Exit → Act → World → Prop} {x y : Operand} {g : Nat} {cs old : Array Value} (hgd : o.guard = none) (ho : o.op = .store 28 x y)
    (hx : a.eval x = .pointer (some ⟨g, 0, none⟩)) (hy : a.eval y = .agg cs) (hg : w.heap[g]? = some (.cells old 28 (0, 0))) (hold : old.size = 3) (hs : cs.size = 3) (h1 : cs.all (·.oneCell') = true)
    (hk : K (a.put o.dst undef) (w.setRow g cs)) : if Region.wanted o ys = true then Oper.wp Try.prog o a w K Q else K (a.put o.dst undef) w := by
  rw [if_pos (by simp [Region.wanted, hgd])]
  exact wp_store_row _ x y ho g cs hx hy _ old hg (infoG hs) (by omega) h1 hk

/-- A row of the document's bag, as cells. -/
theorem rowG_cells {W : World} {g : Nat} {u0 u1 u2 : Value} (h : W.heap[g]? = some (.cells #[u0, u1, u2] 28 (0, 0))) : W.cell? ⟨g, 0, none⟩ = some u0 ∧ W.cell? ⟨g, 1, none⟩ = some u1 ∧ W.cell? ⟨g, 2, none⟩ = some u2 :=
  ⟨cell_of_row W g 0 _ _ _ h, cell_of_row W g 1 _ _ _ h, cell_of_row W g 2 _ _ _ h⟩
theorem rowA_cells {W : World} {g : Nat} {u0 u1 u2 u3 u4 : Value} (h : W.heap[g]? = some (.cells #[u0, u1, u2, u3, u4] 33 (0, 0))) : W.cell? ⟨g, 0, none⟩ = some u0 ∧ W.cell? ⟨g, 1, none⟩ = some u1 ∧ W.cell? ⟨g, 2, none⟩ = some u2 ∧ W.cell? ⟨g, 3, none⟩ = some u3 ∧ W.cell? ⟨g, 4, none⟩ = some u4 :=
  ⟨cell_of_row W g 0 _ _ _ h, cell_of_row W g 1 _ _ _ h, cell_of_row W g 2 _ _ _ h, cell_of_row W g 3 _ _ _ h, cell_of_row W g 4 _ _ _ h⟩

theorem alloc2_blocks (w : World) (o1 o2 : Obj) {W : World} (hW : (w.alloc o1).alloc o2 = W) : W.heap[w.heap.size]? = some o1 ∧ W.heap[w.heap.size + 1]? = some o2 ∧ RowKit.Below w.heap.size w W := by
  subst hW
  refine ⟨(heap_alloc_old _ _ (by simp)).trans (heap_alloc_new _ _), ?_, ((RowKit.Below.refl _ _).alloc (Nat.le_refl _) _).alloc (by simp) _⟩
  have := heap_alloc_new (w.alloc o1) o2
  simpa using this

end Go.Proofs.Ytjecphjdmjoeiaa
