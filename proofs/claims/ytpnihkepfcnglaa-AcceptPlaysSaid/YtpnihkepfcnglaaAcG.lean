/- The gate beside the document's: what AcceptPlays keeps. -/
import Derived.Test.YtpnihkepfcnglaaAcD
import Derived.Test.YtpnihkepfcnglaaAcF
import Derived.Deep.Grids
namespace Go.Proofs.Ytpnihkepfcnglaa
open Go.RowKit Go.Sort

theorem step_cnt (g : Gt) (ks : List Nat) (v : Nat) (h : ∀ j, g.cnt j = ks.count j) (j : Nat) : (g.step v).cnt j = (ks ++ [kindN g.u v]).count j := by
  rw [count_snoc, ← h j]
  rcases kindN_cases g.u v with ⟨e, h⟩ | ⟨e, h⟩ | ⟨e, h⟩
  · rw [e, step_one h]
    unfold Gt.cnt
    dsimp only
    (repeat' split) <;> omega
  · rw [e, step_two h]
    unfold Gt.cnt
    dsimp only
    (repeat' split) <;> omega
  · rw [e, step_three h]
    unfold Gt.cnt
    dsimp only
    (repeat' split) <;> omega

/-- The gate (as gw), and the document's (as gr, with these kinds). -/
structure PlS (w : World) (p q k : Nat) (gw gr : Gt) (ks : List Nat) (o : Bool) (Am : Option Addr) (cm : Nat) (W : World) : Prop where
  gate : GateAt W p gw
  row : W.heap[q]? = some (.cells #[.slice Am k cm, .int .u64 (gr.u : Int), .bool o] 30 (0, 0))
  lst : LiesX W (fun b => b = p ∨ b = q) Am (kvs ks)
  len : ks.length = k
  cnt : ∀ j, gr.cnt j = ks.count j
  ks3 : ∀ x ∈ ks, x < 256
  sum : gr.sum = k
  hp : w.heap.size ≤ p
  hq : w.heap.size ≤ q
  ne : p ≠ q
  below : RowKit.Below w.heap.size w W

section
variable {w W W' : World} {p q k : Nat} {gw gr : Gt} {ks : List Nat} {o : Bool} {Am : Option Addr} {cm : Nat}

theorem PlS.qlt (h : PlS w p q k gw gr ks o Am cm W) : q < W.heap.size := (Array.getElem?_eq_some_iff.1 h.row).1
theorem PlS.plt (h : PlS w p q k gw gr ks o Am cm W) : p < W.heap.size := h.gate.lt
theorem PlS.on (h : PlS w p q k gw gr ks o Am cm W) (hb : RowKit.Below W.heap.size W W') : PlS w p q k gw gr ks o Am cm W' :=
  ⟨h.gate.on hb, (hb.block q h.qlt).trans h.row, h.lst.kept (OnlyE.of_below hb), h.len, h.cnt, h.ks3, h.sum, h.hp, h.hq, h.ne, h.below.trans (hb.mono h.below.size)⟩
theorem PlS.c0 (h : PlS w p q k gw gr ks o Am cm W) : W.cell? ⟨q, 0, none⟩ = some (.slice Am k cm) := cell_of_row W q 0 _ _ _ h.row
theorem PlS.c1 (h : PlS w p q k gw gr ks o Am cm W) : W.cell? ⟨q, 1, none⟩ = some (.int .u64 (gr.u : Int)) := cell_of_row W q 1 _ _ _ h.row
theorem PlS.c2 (h : PlS w p q k gw gr ks o Am cm W) : W.cell? ⟨q, 2, none⟩ = some (.bool o) := cell_of_row W q 2 _ _ _ h.row
theorem PlS.fr (h : PlS w p q k gw gr ks o Am cm W) (j : Nat) : W.frozen? ⟨q, j, none⟩ = false := frozen_of_row W q j _ _ h.row

/-- One number comes to the gate. -/
theorem PlS.gstep {g' : Gt} (h : PlS w p q k gw gr ks o Am cm W) (hS : StepW W p g' W') (hu : g'.u = gr.u) (ho : g'.o = gr.o) (ha : g'.a = gr.a) : PlS w p q k g' g' ks o Am cm W' := by
  have hO : OnlyE W W' (fun b => b = p ∨ b = q) := hS.2.mono fun k hk => .inl hk
  refine ⟨hS.1, (hS.2.same q h.qlt (fun e => h.ne e.symm)).trans ?_, h.lst.kept hO, h.len, fun j => ?_, h.ks3, ?_, h.hp, h.hq, h.ne, h.below.trans (hS.below h.hp h.below.size)⟩
  · rw [hu]; exact h.row
  · rw [← h.cnt j]; unfold Gt.cnt; rw [hu, ho, ha]
  · rw [← h.sum]; unfold Gt.sum; rw [hu, ho, ha]

/-- The document's gate behind one more number. -/
theorem PlS.mstep {v : Nat} {A' : Option Addr} {c' : Nat} (h : PlS w p q k gw gr ks o Am cm W) (hb : RowKit.Below W.heap.size W W')
    (ho : W'.ownsRow W.heap.size 5 1 (.slice A' (k + 1) c') (k + 1) (kvs (ks ++ [kindN gr.u v]))) :
    PlS w p q (k + 1) gw (gr.step v) (ks ++ [kindN gr.u v]) true A' c' (((W'.setCell ⟨q, 0, none⟩ (.slice A' (k + 1) c')).setCell ⟨q, 1, none⟩ (.int .u64 ((gr.step v).u : Int))).setCell ⟨q, 2, none⟩ (.bool true)) := by
  have h' := h.on hb
  have hO : OnlyE W' (((W'.setCell ⟨q, 0, none⟩ (.slice A' (k + 1) c')).setCell ⟨q, 1, none⟩ (.int .u64 ((gr.step v).u : Int))).setCell ⟨q, 2, none⟩ (.bool true)) (fun b => b = q) :=
    ((onlyE_set (D := fun b => b = q) rfl _ _).trans (onlyE_set (D := fun b => b = q) rfl _ _)).trans (onlyE_set (D := fun b => b = q) rfl _ _)
  refine ⟨h'.gate.kept hO h.ne, ?_, (LiesX.of_own ho fun b hb' hd => ?_).kept (hO.mono fun b hb' => .inr hb'), by rw [List.length_append, h.len]; rfl, step_cnt gr ks v h.cnt, fun x hx => ?_, by rw [step_sum, h.sum], h.hp, h.hq, h.ne, h'.below.trans (hO.below (fun b hb' => by subst hb'; exact h.hq) h'.below.size)⟩
  · exact heap_setCell_same _ q 2 _ _ _ (heap_setCell_same _ q 1 _ _ _ (heap_setCell_same _ q 0 _ _ _ h'.row))
  · have h1 := (ho.lt b hb').1
    have h2 := h.plt
    have h3 := h.qlt
    rcases hd with e | e <;> omega
  · rcases List.mem_append.1 hx with hx | hx
    · exact h.ks3 x hx
    · simp only [List.mem_cons, List.not_mem_nil, or_false] at hx
      subst hx
      rcases kindN_cases gr.u v with ⟨e, _⟩ | ⟨e, _⟩ | ⟨e, _⟩ <;> rw [e] <;> decide

theorem PlS.start {w1 w2 : World} (h : GateAt w1 p ⟨0, 0, 0, false⟩) (hp : w.heap.size ≤ p) (hb1 : RowKit.Below w.heap.size w w1) (he : w1.alloc (.cells #[.slice none 0 0, .int .u64 0, .bool false] 30) = w2) :
    PlS w p w1.heap.size 0 ⟨0, 0, 0, false⟩ ⟨0, 0, 0, false⟩ [] false none 0 w2 := by
  subst he
  have hb : RowKit.Below w1.heap.size w1 (w1.alloc (.cells #[.slice none 0 0, .int .u64 0, .bool false] 30)) := (RowKit.Below.refl _ _).alloc (Nat.le_refl _) _
  exact ⟨h.on hb, heap_alloc_new _ _, LiesX.nil, rfl, fun j => by unfold Gt.cnt; simp, by simp, rfl, hp, hb1.size, by have := h.lt; omega, hb1.trans (hb.mono hb1.size)⟩

/-! ### What region 9 and region 11 call -/
/-- What the document's Take answers, of a list of k kinds. -/
def DTook (ks : List Nat) (k kk u : Nat) (V : World) (e : Ending) (w' : World) : Prop := ∃ A' c', e = .returned (.tuple #[.agg #[.slice A' (k + 1) c', .int .u64 (u : Int), .bool true], .int .u8 (kk : Int)]) ∧
  w'.ownsRow V.heap.size 5 1 (.slice A' (k + 1) c') (k + 1) (kvs (ks ++ [kk])) ∧ RowKit.Below V.heap.size V w'
theorem PlS.ctk (h : PlS w p q k gw gr ks o Am cm W) (v : Nat) (hk : k ≤ 200) : ∀ V, RowKit.Below W.heap.size W V → Calls Try.prog 10 #[.agg #[.slice Am k cm, .int .u64 (gr.u : Int), .bool o], .int .u64 (v : Int)] V (DTook ks k (kindN gr.u v) (gr.step v).u V) := fun V hV =>
  (refTake_any Am k cm gr.u v o ks V h.len (by omega) (h.lst.kept (OnlyE.of_below hV)).lies (by have := h.sum; unfold Gt.sum at this; omega)).mono fun e w' h' => by
    obtain ⟨A', c', h1, h2, h3⟩ := h'
    rw [h.len] at h1 h2
    exact ⟨A', c', h1, h2, h3⟩
/-- The document's gate, as it was answered, in the box of the round. -/
structure Nxt (wr : World) (ks : List Nat) (k kk u r : Nat) (A' : Option Addr) (c' : Nat) (V : World) : Prop where
  below : RowKit.Below wr.heap.size wr V
  row : V.heap[r]? = some (.cells #[.slice A' (k + 1) c', .int .u64 (u : Int), .bool true] 30 (0, 0))
  own : V.ownsRow wr.heap.size 5 1 (.slice A' (k + 1) c') (k + 1) (kvs (ks ++ [kk]))

theorem Nxt.new {wr V V2 : World} {ks : List Nat} {k kk u c' : Nat} {A' : Option Addr} (hb : RowKit.Below wr.heap.size wr V) (ho : V.ownsRow wr.heap.size 5 1 (.slice A' (k + 1) c') (k + 1) (kvs (ks ++ [kk])))
    (he : V.alloc (.cells #[.slice A' (k + 1) c', .int .u64 (u : Int), .bool true] 30) = V2) : Nxt wr ks k kk u V.heap.size A' c' V2 := by
  subst he
  have ha : RowKit.Below V.heap.size V (V.alloc (.cells #[.slice A' (k + 1) c', .int .u64 (u : Int), .bool true] 30)) := (RowKit.Below.refl _ _).alloc (Nat.le_refl _) _
  exact ⟨hb.trans (ha.mono hb.size), heap_alloc_new _ _, own_below ho ha⟩
theorem Nxt.old {wr V V2 : World} {ks : List Nat} {k kk u c' r : Nat} {A' : Option Addr} {cs : Array Value} (hb : RowKit.Below wr.heap.size wr V) (hr : wr.heap.size ≤ r) (hrow : V.heap[r]? = some (.cells cs 30 (0, 0))) (hcs : cs.size = 3)
    (ho : V.ownsRow (r + 1) 5 1 (.slice A' (k + 1) c') (k + 1) (kvs (ks ++ [kk])))
    (he : ((V.setCell ⟨r, 0, none⟩ (.slice A' (k + 1) c')).setCell ⟨r, 1, none⟩ (.int .u64 (u : Int))).setCell ⟨r, 2, none⟩ (.bool true) = V2) : Nxt wr ks k kk u r A' c' V2 := by
  subst he
  have hO : OnlyE V (((V.setCell ⟨r, 0, none⟩ (.slice A' (k + 1) c')).setCell ⟨r, 1, none⟩ (.int .u64 (u : Int))).setCell ⟨r, 2, none⟩ (.bool true)) (fun b => b = r) :=
    ((onlyE_set (D := fun b => b = r) rfl _ _).trans (onlyE_set (D := fun b => b = r) rfl _ _)).trans (onlyE_set (D := fun b => b = r) rfl _ _)
  refine ⟨hb.trans (hO.below (fun b hb' => by subst hb'; exact hr) hb.size), ?_, own_base (own_only ho hO fun b hb' hd => by have := (ho.lt b hb').1; subst hd; omega) (by omega)⟩
  have := heap_setCell_same _ r 2 _ _ (.bool true) (heap_setCell_same _ r 1 _ _ (.int .u64 (u : Int)) (heap_setCell_same _ r 0 _ _ (.slice A' (k + 1) c') hrow))
  rw [this]
  rcases cs with ⟨_ | ⟨a, _ | ⟨b, _ | ⟨c, _ | ⟨d, t⟩⟩⟩⟩⟩
  · simp at hcs
  · simp at hcs
  · simp at hcs
  · rfl
  · simp at hcs
theorem Nxt.cell {wr V : World} {ks : List Nat} {k kk u c' r : Nat} {A' : Option Addr} (h : Nxt wr ks k kk u r A' c' V) (i : Nat) : V.cell? ⟨r, i, none⟩ = (#[.slice A' (k + 1) c', .int .u64 (u : Int), .bool true] : Array Value)[i]? := cell_of_row V r i _ _ _ h.row

/-- Nothing but the gate is turned. -/
def OP (W : World) (p : Nat) (V : World) : Prop := OnlyE W V (fun k => k = p)
theorem PlS.cct (h : PlS w p q k gw gr ks o Am cm W) (j : Nat) (hj : j < 256) (hk : k ≤ 201) : ∀ V, OP W p V → Calls Try.prog 13 #[.agg #[.slice Am k cm, .int .u64 (gr.u : Int), .bool o], .int .u8 (j : Int)] V fun e w' => e = .returned (.int .u64 (gr.cnt j : Int)) ∧ RowKit.Below V.heap.size V w' := fun V hV => by
  rw [h.cnt j]
  exact refCount_any Am k cm gr.u o ks V j hj h.len (by omega) (h.lst.kept (OnlyE.mono hV fun b hb => .inl hb)).lies h.ks3
theorem PlS.o0 (h : PlS w p q k gw gr ks o Am cm W) : ∀ V, OP W p V → V.cell? ⟨q, 0, none⟩ = some (.slice Am k cm) := fun V hV => by
  have e : V.heap[q]? = W.heap[q]? := hV.same q h.qlt (fun e => h.ne e.symm)
  exact cell_of_row V q 0 _ _ _ (e.trans h.row)
theorem PlS.o1 (h : PlS w p q k gw gr ks o Am cm W) : ∀ V, OP W p V → V.cell? ⟨q, 1, none⟩ = some (.int .u64 (gr.u : Int)) := fun V hV => by
  have e : V.heap[q]? = W.heap[q]? := hV.same q h.qlt (fun e => h.ne e.symm)
  exact cell_of_row V q 1 _ _ _ (e.trans h.row)
theorem PlS.o2 (h : PlS w p q k gw gr ks o Am cm W) : ∀ V, OP W p V → V.cell? ⟨q, 2, none⟩ = some (.bool o) := fun V hV => by
  have e : V.heap[q]? = W.heap[q]? := hV.same q h.qlt (fun e => h.ne e.symm)
  exact cell_of_row V q 2 _ _ _ (e.trans h.row)
theorem OP.cell {V : World} {b j : Nat} {u : Value} (hV : OP W p V) (hb : b < w.heap.size) (hp : w.heap.size ≤ p) (hB : RowKit.Below w.heap.size w W) (h : w.cell? ⟨b, j, none⟩ = some u) : V.cell? ⟨b, j, none⟩ = some u :=
  (((hB.trans (hV.below (fun k hk => by subst hk; exact hp) hB.size)).cell (p := ⟨b, j, none⟩) hb)).trans h
end

section
open Go.ChangeShapes Go.WideShapes Go.ChangeAt
variable {H : Type} {enc : TypeId × Value → H} {P : Program} {w : World} {base : Nat} {held : Bool}
theorem open_flags {t e : TypeId} {fuel : Nat} {v : Value} {x : DataW H × List MemPlace} (ht : P.underlying t = some (.slice e)) (he : P.underlying e = some .bool) (hc : P.cellsOf e = 1)
    (h : DataW.trod enc P w base (fun _ => true) held fuel t [v] = some x) : ∃ A n c, v = .slice A n c ∧ n ≤ c ∧ c ≤ maxLen ∧ ∀ i, i < n → ∃ b off f, A = some ⟨b, off, none⟩ ∧ b < w.heap.size ∧ w.cell? ⟨b, off + i, none⟩ = some (.bool f) := by
  rcases Deep.open_bools ht he hc h with ⟨hcs, _⟩ | ⟨a, len, cap, B, hcs, _, hl, hm, _, hcell⟩
  · injection hcs with hcs
    subst hcs
    exact ⟨none, 0, 0, rfl, Nat.le_refl _, Nat.zero_le _, fun i h => absurd h (Nat.not_lt_zero i)⟩
  · injection hcs with hcs
    subst hcs
    refine ⟨some a, len, cap, rfl, hl, hm, fun i hi => ?_⟩
    have h1 := hcell i (by omega)
    obtain ⟨b, off, spot⟩ := a
    have hspot : spot = none := by simpa [Addr.add] using World.cell?_spot (hcell 0 (by omega))
    subst hspot
    refine ⟨b, off, B i, rfl, ?_, ?_⟩
    · have := World.block_lt_of_cell? w _ h1
      rwa [Go.Proofs.Ytpnihkepfcnglaa.add_plain] at this
    · rw [Go.Proofs.Ytpnihkepfcnglaa.add_plain] at h1
      exact h1
end

end Go.Proofs.Ytpnihkepfcnglaa
