/- The document's gate as a value: Take, Count. -/
import Derived.Test.YtpnihkepfcnglaaAcA
import Derived.Lib.SmallJoins
namespace Go.Proofs.Ytpnihkepfcnglaa
open Go.RowKit Go.Sort

/-- Kinds as cells. -/
def kv (k : Nat) : Value := .int .u8 (k : Int)
def kvs (l : List Nat) : List Value := l.map kv
theorem kvs_len (l : List Nat) : (kvs l).length = l.length := List.length_map _
theorem kvs_app (a b : List Nat) : kvs (a ++ b) = kvs a ++ kvs b := List.map_append
theorem kvs_one (l : List Nat) : ∀ u ∈ kvs l, u.oneCell' = true := by
  intro u hu
  simp only [kvs, List.mem_map] at hu
  obtain ⟨c, _, rfl⟩ := hu
  rfl
theorem kvs_at {l : List Nat} {k : Nat} (h : k < l.length) : (kvs l)[k]? = some (.int .u8 (l[k] : Int)) := by simp [kvs, kv, h]

theorem Try.infoB : (Try.prog.info? 5).map (fun i => (i.zero, i.size, i.bytes)) = some (some (.int .u8 0), 1, 1) := by kernel_rfl
theorem drewB (W : World) : RowKit.Below W.heap.size W W.drew := (RowKit.Below.refl _ _).drew

theorem results_cell_tmp {fn : Func} {p q : Tmp} {ty : TypeId} (h : fn.results = #[.cell p ty, .tmp q]) (tmps : Array Value) (w : World) (g : Nat) (cs : Array Value)
    (hp : tmps.getD p undef = .pointer (some ⟨g, 0, none⟩)) (hl : (loadVar ty ⟨g, 0, none⟩).run Try.prog w = .ok (.agg cs) w) :
    (results fn tmps).run Try.prog w = .ok (.tuple #[.agg cs, tmps.getD q undef]) w := by
  have hp' : tmps[p]?.getD undef = .pointer (some ⟨g, 0, none⟩) := by simpa using hp
  simp [results, h, hp', asAddr, hl]
theorem infoG {cs : Array Value} (h : cs.size = 3) : (Try.prog.info? 30).map (·.size) = some cs.size := by
  rw [h]
  kernel_rfl
theorem load_rowG {W : World} {g : Nat} {cs : Array Value} (hg : W.heap[g]? = some (.cells cs 30 (0, 0))) (hs : cs.size = 3) : (loadVar 30 ⟨g, 0, none⟩).run Try.prog W = .ok (.agg cs) W :=
  run_loadVar_row W g _ _ cs (0, 0) _ hg Try.underlying30 rfl (infoG hs)

/-! ### The two boxes of a call: its own gate, and the answer -/
structure GBox (w : World) (gs rs : Array Value) (W : World) : Prop where
  below : RowKit.Below w.heap.size w W
  box : W.heap[w.heap.size]? = some (.cells gs 30 (0, 0))
  res : W.heap[w.heap.size + 1]? = some (.cells rs 30 (0, 0))

theorem GBox.start {w W : World} {gs rs : Array Value} (h : (w.alloc (.cells gs 30)).alloc (.cells rs 30) = W) : GBox w gs rs W := by
  subst h
  refine ⟨((RowKit.Below.refl _ _).alloc (Nat.le_refl _) _).alloc (by simp) _, (heap_alloc_old _ _ (by simp)).trans (heap_alloc_new _ _), ?_⟩
  have := heap_alloc_new (w.alloc (.cells gs 30)) (.cells rs 30)
  simpa using this
theorem GBox.lt {w W : World} {gs rs : Array Value} (h : GBox w gs rs W) : w.heap.size + 2 ≤ W.heap.size := (Array.getElem?_eq_some_iff.1 h.res).1
theorem GBox.up {w W W' : World} {gs rs : Array Value} (h : GBox w gs rs W) (hb : RowKit.Below (w.heap.size + 2) W W') : GBox w gs rs W' :=
  ⟨h.below.trans (hb.mono (by omega)), (hb.block _ (by omega)).trans h.box, (hb.block _ (by omega)).trans h.res⟩
theorem GBox.on {w W W' : World} {gs rs : Array Value} (h : GBox w gs rs W) (hb : RowKit.Below W.heap.size W W') : GBox w gs rs W' := h.up (hb.mono h.lt)
theorem GBox.setBox {w W : World} {gs rs : Array Value} (h : GBox w gs rs W) (i : Nat) (u : Value) : GBox w (gs.setIfInBounds i u) rs (W.setCell ⟨w.heap.size, i, none⟩ u) :=
  ⟨h.below.setCell (p := ⟨w.heap.size, i, none⟩) (Nat.le_refl _) u, heap_setCell_same W _ i _ _ u h.box, (heap_setCell_other W ⟨w.heap.size, i, none⟩ (w.heap.size + 1) u (by simp)).trans h.res⟩
theorem GBox.setRes {w W : World} {gs rs : Array Value} (h : GBox w gs rs W) (i : Nat) (u : Value) : GBox w gs (rs.setIfInBounds i u) (W.setCell ⟨w.heap.size + 1, i, none⟩ u) :=
  ⟨h.below.setCell (p := ⟨w.heap.size + 1, i, none⟩) (Nat.le_succ _) u, (heap_setCell_other W ⟨w.heap.size + 1, i, none⟩ w.heap.size u (by simp)).trans h.box, heap_setCell_same W _ i _ _ u h.res⟩
theorem GBox.cell {w W : World} {gs rs : Array Value} (h : GBox w gs rs W) (i : Nat) : W.cell? ⟨w.heap.size, i, none⟩ = gs[i]? := cell_of_row W _ i _ _ _ h.box
theorem GBox.cellR {w W : World} {gs rs : Array Value} (h : GBox w gs rs W) (i : Nat) : W.cell? ⟨w.heap.size + 1, i, none⟩ = rs[i]? := cell_of_row W _ i _ _ _ h.res
theorem GBox.fr {w W : World} {gs rs : Array Value} (h : GBox w gs rs W) (i : Nat) : W.frozen? ⟨w.heap.size, i, none⟩ = false := frozen_of_row W _ i _ _ h.box
theorem GBox.frR {w W : World} {gs rs : Array Value} (h : GBox w gs rs W) (i : Nat) : W.frozen? ⟨w.heap.size + 1, i, none⟩ = false := frozen_of_row W _ i _ _ h.res


/-- append([]uint8{}, a...) beside the boxes. -/
theorem wpList_anewG {w W : World} {gs rs : Array Value} (hG : GBox w gs rs W) {ops : Array Oper} {rest : List Oper} {o : Oper} {a : Act} {Q : Exit → Act → World → Prop} (hgd : o.guard = none) (s x : Operand)
    (ho : o.op = .call { callee := .builtin .append, args := #[s, x], argTypes := #[27, 27] }) {z : Nat} (hs : a.eval s = .slice (some ⟨z, 0, none⟩) 0 0) (hz : z = W.heap.size)
    (A : Option Addr) (n c : Nat) (l : List Nat) (hx : a.eval x = .slice A n c) (hl : l.length = n) (hL : Lies w w.heap.size A (kvs l)) (hn : n ≤ 1000)
    (h : ∀ A' c' w', w'.ownsRow (w.heap.size + 2) 5 1 (.slice A' n c') n (kvs l) → GBox w gs rs w' → wpList Try.prog ops Q rest (a.put o.dst (.slice A' n c')) w') :
    wpList Try.prog ops Q (o :: rest) a (W.alloc (.cells #[] 5)) := by
  subst hz
  obtain ⟨i0, hi, hz0, hz1, hz2⟩ := info_parts Try.infoB
  have hlt := hG.lt
  have hal : RowKit.Below W.heap.size W (W.alloc (.cells #[] 5)) := (RowKit.Below.refl _ _).alloc (Nat.le_refl _) _
  refine wpList_append_lst hgd s x 27 ho (w.heap.size + 2) 5 i0 (.int .u8 0) 1 Try.underlying27 hi hz0 hz1 hz2 rfl _ 0 [] hs (World.ownsRow_lit W #[] 0 hlt (Nat.zero_le _) rfl) w.heap.size A n c (kvs l) hx (by rw [kvs_len]; exact hl) ((hL.below hG.below).below (hal.mono (by omega))) (kvs_one l) (by unfold maxLen; omega) (by omega) (by simp; omega) ?_
  intro v' w' hown' _ hb' _
  obtain ⟨A', c', rfl, _⟩ := own_slice hown'
  rw [Nat.zero_add, List.nil_append] at hown'
  rw [Nat.zero_add]
  exact h A' c' w' hown' ((hG.on hal).up hb')

/-- append(own, k) beside the boxes. -/
theorem wpList_pushG {w W : World} {gs rs : Array Value} (hG : GBox w gs rs W) {ops : Array Oper} {rest : List Oper} {o : Oper} {a : Act} {Q : Exit → Act → World → Prop} (hgd : o.guard = none) (s x : Operand)
    (ho : o.op = .call { callee := .builtin .append, args := #[s, x], argTypes := #[27, 27] })
    (A : Option Addr) (n c k : Nat) (l : List Nat) (u : Value) (hu : u = kv k) (hs : a.eval s = .slice A n c) (hown : W.ownsRow (w.heap.size + 2) 5 1 (.slice A n c) n (kvs l)) (hx : a.eval x = .slice (some ⟨W.heap.size, 0, none⟩) 1 1) (hn : n ≤ 1000)
    (h : ∀ A' c' w', w'.ownsRow (w.heap.size + 2) 5 1 (.slice A' (n + 1) c') (n + 1) (kvs (l ++ [k])) → GBox w gs rs w' → wpList Try.prog ops Q rest (a.put o.dst (.slice A' (n + 1) c')) w') :
    wpList Try.prog ops Q (o :: rest) a (W.alloc (.cells #[u] 5)) := by
  subst hu
  obtain ⟨i0, hi, hz0, hz1, hz2⟩ := info_parts Try.infoB
  have hlt := hG.lt
  have hal : RowKit.Below W.heap.size W (W.alloc (.cells #[kv k] 5)) := (RowKit.Below.refl _ _).alloc (Nat.le_refl _) _
  refine wpList_append_lst hgd s x 27 ho (w.heap.size + 2) 5 i0 (.int .u8 0) 1 Try.underlying27 hi hz0 hz1 hz2 rfl _ n (kvs l) hs (own_below hown hal) (W.heap.size + 1) (some ⟨W.heap.size, 0, none⟩) 1 1 [kv k] hx rfl (lies_new W #[kv k] 5) (by simp [kv]; rfl) (by unfold maxLen; omega) (by omega) (by simp; omega) ?_
  intro v' w' hown' _ hb' _
  obtain ⟨A', c', rfl, _⟩ := own_slice hown'
  rw [show kvs l ++ [kv k] = kvs (l ++ [k]) from (kvs_app l [k]).symm] at hown'
  exact h A' c' w' hown' ((hG.on hal).up hb')

end Go.Proofs.Ytpnihkepfcnglaa
