/- The document's gate as a value: Take (as in stage 9). -/
import Derived.Test.YtbkkpimhoeagdaaLpA
import Derived.Lib.SmallJoins
namespace Go.Proofs.Ytbkkpimhoeagdaa
open Go.RowKit Go.Sort
set_option maxRecDepth 20000

theorem kvs_len (l : List Nat) : (kvs l).length = l.length := List.length_map _
theorem kvs_app (a b : List Nat) : kvs (a ++ b) = kvs a ++ kvs b := List.map_append
theorem kvs_one (l : List Nat) : ∀ u ∈ kvs l, u.oneCell' = true := by
  intro u hu
  simp only [kvs, List.mem_map] at hu
  obtain ⟨c, _, rfl⟩ := hu
  rfl
theorem kvs_at {l : List Nat} {k : Nat} (h : k < l.length) : (kvs l)[k]? = some (.int .u8 (l[k] : Int)) := by simp [kvs, kv, h]

theorem infoG {cs : Array Value} (h : cs.size = 3) : (Try.prog.info? 32).map (·.size) = some cs.size := by
  rw [h]
  kernel_rfl
theorem load_rowG {W : World} {g : Nat} {cs : Array Value} (hg : W.heap[g]? = some (.cells cs 32 (0, 0))) (hs : cs.size = 3) : (loadVar 32 ⟨g, 0, none⟩).run Try.prog W = .ok (.agg cs) W :=
  run_loadVar_row W g _ _ cs (0, 0) _ hg Try.underlying32 rfl (infoG hs)

/-! ### The two boxes of a call: its own gate, and the answer -/
structure GBox (w : World) (gs rs : Array Value) (W : World) : Prop where
  below : RowKit.Below w.heap.size w W
  box : W.heap[w.heap.size]? = some (.cells gs 32 (0, 0))
  res : W.heap[w.heap.size + 1]? = some (.cells rs 32 (0, 0))

theorem GBox.start {w W : World} {gs rs : Array Value} (h : (w.alloc (.cells gs 32)).alloc (.cells rs 32) = W) : GBox w gs rs W := by
  subst h
  refine ⟨((RowKit.Below.refl _ _).alloc (Nat.le_refl _) _).alloc (by simp) _, (heap_alloc_old _ _ (by simp)).trans (heap_alloc_new _ _), ?_⟩
  have := heap_alloc_new (w.alloc (.cells gs 32)) (.cells rs 32)
  simpa using this
theorem GBox.lt {w W : World} {gs rs : Array Value} (h : GBox w gs rs W) : w.heap.size + 2 ≤ W.heap.size := (Array.getElem?_eq_some_iff.1 h.res).1
theorem GBox.up {w W W' : World} {gs rs : Array Value} (h : GBox w gs rs W) (hb : RowKit.Below (w.heap.size + 2) W W') : GBox w gs rs W' :=
  ⟨h.below.trans (hb.mono (by omega)), (hb.block _ (by omega)).trans h.box, (hb.block _ (by omega)).trans h.res⟩
theorem GBox.on {w W W' : World} {gs rs : Array Value} (h : GBox w gs rs W) (hb : RowKit.Below W.heap.size W W') : GBox w gs rs W' := h.up (hb.mono h.lt)
theorem GBox.setBox {w W : World} {gs rs : Array Value} (h : GBox w gs rs W) (i : Nat) (u : Value) : GBox w (gs.setIfInBounds i u) rs (W.setCell ⟨w.heap.size, i, none⟩ u) :=
  ⟨h.below.setCell (p := ⟨w.heap.size, i, none⟩) (Nat.le_refl _) u, heap_setCell_same W _ i _ _ u h.box, (heap_setCell_other W ⟨w.heap.size, i, none⟩ (w.heap.size + 1) u (by simp)).trans h.res⟩
theorem GBox.setRes {w W : World} {gs rs : Array Value} (h : GBox w gs rs W) (i : Nat) (u : Value) : GBox w gs (rs.setIfInBounds i u) (W.setCell ⟨w.heap.size + 1, i, none⟩ u) :=
  ⟨h.below.setCell (p := ⟨w.heap.size + 1, i, none⟩) (Nat.le_succ _) u, (heap_setCell_other W ⟨w.heap.size + 1, i, none⟩ w.heap.size u (by simp)).trans h.box, heap_setCell_same W _ i _ _ u h.res⟩
theorem GBox.cell {w W : World} {gs rs : Array Value} (h : GBox w gs rs W) (i : Nat) : W.cell? ⟨w.heap.size, i, none⟩ = gs[i]? := cell_of_row W _ i _ _ _ h.box
theorem GBox.cellR {w W : World} {gs rs : Array Value} (h : GBox w gs rs W) (i : Nat) : W.cell? ⟨w.heap.size + 1, i, none⟩ = rs[i]? := cell_of_row W _ i _ _ _ h.res
theorem GBox.fr {w W : World} {gs rs : Array Value} (h : GBox w gs rs W) (i : Nat) : W.frozen? ⟨w.heap.size, i, none⟩ = false := frozen_of_row W _ i _ _ h.box
theorem GBox.frR {w W : World} {gs rs : Array Value} (h : GBox w gs rs W) (i : Nat) : W.frozen? ⟨w.heap.size + 1, i, none⟩ = false := frozen_of_row W _ i _ _ h.res


/-- append([]uint8{}, a...) beside the boxes. -/
theorem wpList_anewG {w W : World} {gs rs : Array Value} (hG : GBox w gs rs W) {ops : Array Oper} {rest : List Oper} {o : Oper} {a : Act} {Q : Exit → Act → World → Prop} (hgd : o.guard = none) (s x : Operand)
    (ho : o.op = .call { callee := .builtin .append, args := #[s, x], argTypes := #[30, 30] }) {z : Nat} (hs : a.eval s = .slice (some ⟨z, 0, none⟩) 0 0) (hz : z = W.heap.size)
    (A : Option Addr) (n c : Nat) (l : List Nat) (hx : a.eval x = .slice A n c) (hl : l.length = n) (hL : Lies w w.heap.size A (kvs l)) (hn : n ≤ 1000)
    (h : ∀ A' c' w', w'.ownsRow (w.heap.size + 2) 5 1 (.slice A' n c') n (kvs l) → GBox w gs rs w' → wpList Try.prog ops Q rest (a.put o.dst (.slice A' n c')) w') :
    wpList Try.prog ops Q (o :: rest) a (W.alloc (.cells #[] 5)) := by
  subst hz
  obtain ⟨i0, hi, hz0, hz1, hz2⟩ := info_parts Try.infoB
  have hlt := hG.lt
  have hal : RowKit.Below W.heap.size W (W.alloc (.cells #[] 5)) := (RowKit.Below.refl _ _).alloc (Nat.le_refl _) _
  refine wpList_append_lst hgd s x 30 ho (w.heap.size + 2) 5 i0 (.int .u8 0) 1 Try.underlying30 hi hz0 hz1 hz2 rfl _ 0 [] hs (World.ownsRow_lit W #[] 0 hlt (Nat.zero_le _) rfl) w.heap.size A n c (kvs l) hx (by rw [kvs_len]; exact hl) ((hL.below hG.below).below (hal.mono (by omega))) (kvs_one l) (by unfold maxLen; omega) (by omega) (by simp; omega) ?_
  intro v' w' hown' _ hb' _
  obtain ⟨A', c', rfl, _⟩ := own_slice hown'
  rw [Nat.zero_add, List.nil_append] at hown'
  rw [Nat.zero_add]
  exact h A' c' w' hown' ((hG.on hal).up hb')

/-- append(own, k) beside the boxes. -/
theorem wpList_pushG {w W : World} {gs rs : Array Value} (hG : GBox w gs rs W) {ops : Array Oper} {rest : List Oper} {o : Oper} {a : Act} {Q : Exit → Act → World → Prop} (hgd : o.guard = none) (s x : Operand)
    (ho : o.op = .call { callee := .builtin .append, args := #[s, x], argTypes := #[30, 30] })
    (A : Option Addr) (n c k : Nat) (l : List Nat) (u : Value) (hu : u = kv k) (hs : a.eval s = .slice A n c) (hown : W.ownsRow (w.heap.size + 2) 5 1 (.slice A n c) n (kvs l)) (hx : a.eval x = .slice (some ⟨W.heap.size, 0, none⟩) 1 1) (hn : n ≤ 1000)
    (h : ∀ A' c' w', w'.ownsRow (w.heap.size + 2) 5 1 (.slice A' (n + 1) c') (n + 1) (kvs (l ++ [k])) → GBox w gs rs w' → wpList Try.prog ops Q rest (a.put o.dst (.slice A' (n + 1) c')) w') :
    wpList Try.prog ops Q (o :: rest) a (W.alloc (.cells #[u] 5)) := by
  subst hu
  obtain ⟨i0, hi, hz0, hz1, hz2⟩ := info_parts Try.infoB
  have hlt := hG.lt
  have hal : RowKit.Below W.heap.size W (W.alloc (.cells #[kv k] 5)) := (RowKit.Below.refl _ _).alloc (Nat.le_refl _) _
  refine wpList_append_lst hgd s x 30 ho (w.heap.size + 2) 5 i0 (.int .u8 0) 1 Try.underlying30 hi hz0 hz1 hz2 rfl _ n (kvs l) hs (own_below hown hal) (W.heap.size + 1) (some ⟨W.heap.size, 0, none⟩) 1 1 [kv k] hx rfl (lies_new W #[kv k] 5) (by simp [kv]; rfl) (by unfold maxLen; omega) (by omega) (by simp; omega) ?_
  intro v' w' hown' _ hb' _
  obtain ⟨A', c', rfl, _⟩ := own_slice hown'
  rw [show kvs l ++ [kv k] = kvs (l ++ [k]) from (kvs_app l [k]).symm] at hown'
  exact h A' c' w' hown' ((hG.on hal).up hb')

/-- What the document's Take answers: the gate behind one more number, of whose kinds a new list tells, and what was made of it. -/
def DGot (w : World) (ks : List Nat) (k u : Nat) (e : Ending) (w' : World) : Prop :=
  ∃ A' c', e = .returned (.tuple #[.agg #[.slice A' (ks.length + 1) c', .int .u64 (u : Int), .bool true], .int .u8 (k : Int)]) ∧ w'.ownsRow w.heap.size 5 1 (.slice A' (ks.length + 1) c') (ks.length + 1) (kvs (ks ++ [k])) ∧ RowKit.Below w.heap.size w w'

theorem DGot.mk {w W3 : World} {ks : List Nat} {k u n c' : Nat} {A' : Option Addr} {gs rs : Array Value} {i0 i1 : Nat} {u0 u1 r0 r1 r2 : Value} (hl : ks.length = n) (hG : GBox w gs rs W3)
    (ho : W3.ownsRow (w.heap.size + 2) 5 1 (.slice A' (n + 1) c') (n + 1) (kvs (ks ++ [k]))) :
    DGot w ks k u (.returned (.tuple #[.agg #[.slice A' (n + 1) c', .int .u64 (u : Int), .bool true], .int .u8 (k : Int)]))
      (((((W3.setCell ⟨w.heap.size, i0, none⟩ u0).setCell ⟨w.heap.size, i1, none⟩ u1).setCell ⟨w.heap.size + 1, 0, none⟩ r0).setCell ⟨w.heap.size + 1, 1, none⟩ r1).setCell ⟨w.heap.size + 1, 2, none⟩ r2) := by
  subst hl
  have hE := ((((hG.setBox i0 u0).setBox i1 u1).setRes 0 r0).setRes 1 r1).setRes 2 r2
  have hO : OnlyE W3 (((((W3.setCell ⟨w.heap.size, i0, none⟩ u0).setCell ⟨w.heap.size, i1, none⟩ u1).setCell ⟨w.heap.size + 1, 0, none⟩ r0).setCell ⟨w.heap.size + 1, 1, none⟩ r1).setCell ⟨w.heap.size + 1, 2, none⟩ r2) (fun k => k < w.heap.size + 2) :=
    ((((onlyE_set (by show _ < _; omega) _ _).trans (onlyE_set (by show _ < _; omega) _ _)).trans (onlyE_set (by show _ < _; omega) _ _)).trans (onlyE_set (by show _ < _; omega) _ _)).trans (onlyE_set (by show _ < _; omega) _ _)
  exact ⟨A', c', rfl, own_base (own_only ho hO fun b hb => by have := (ho.lt b hb).1; show ¬ b < _; omega) (by omega), hE.below⟩

def dCells (A : Option Addr) (n c u : Nat) (o : Bool) : Array Value := #[.slice A n c, .int .u64 (u : Int), .bool o]
def dZero : Array Value := #[.slice none 0 0, .int .u64 0, .bool false]

section
variable (A : Option Addr) (n c u v : Nat) (o : Bool) (ks : List Nat) (w : World)
set_option maxHeartbeats 1600000 in
theorem refTake_one (hl : ks.length = n) (hn : n ≤ 1000) (hL : Lies w w.heap.size A (kvs ks)) (hu : u ≤ 1000000) (hv : v = u + 1) :
    Calls Try.prog 33 #[.agg #[.slice A n c, .int .u64 (u : Int), .bool o], .int .u64 (v : Int)] w (DGot w ks 1 v) := by
  have HL := Lib.hid hl
  have HK := Lib.hid hL
  clear hl hL
  have hd : decide (v ≤ u) = false := by simp; omega
  have hd1 : ((v : Int) == (u : Int) + 1) = true := by simp; omega
  clear hv
  go_enter Try.func33, Try.ntmps33
  go_wp2_with (at_builtin; refine wpList_anewG (w := w) (gs := dCells A n c v o) (rs := dZero) (GBox.start (by rfl)) (by rfl) (.tmp 18) (.tmp 20) (by rfl) (by rfl) (by simp) A n c ks (by rfl) HL.out HK.out hn ?_)
  intro A1 c1 W1 ho1 hG1
  have HO1 := Lib.hid ho1
  have HG1 := Lib.hid hG1
  clear ho1 hG1
  go_wp2_with (at_builtin; refine wpList_pushG HG1.out (by rfl) (.tmp 21) (.tmp 23) (by rfl) A1 n c1 1 ks _ (by rfl) (by rfl) HO1.out (by rfl) hn ?_)
  intro A2 c2 W2 ho2 hG2
  have x0 := hG2.cell 0
  have x1 := hG2.cell 1
  have x2 := hG2.cell 2
  have y0 := hG2.cellR 0
  have y1 := hG2.cellR 1
  have y2 := hG2.cellR 2
  simp only [dCells, dZero, List.getElem?_toArray, List.getElem?_cons_succ, List.getElem?_cons_zero] at x0 x1 x2 y0 y1 y2
  have f0 := hG2.fr 0
  have f1 := hG2.fr 1
  have f2 := hG2.fr 2
  have g0 := hG2.frR 0
  have g1 := hG2.frR 1
  have g2 := hG2.frR 2
  have HO2 := Lib.hid ho2
  have HG2 := Lib.hid hG2
  clear ho2 hG2 HO1 HG1
  go_wp2
  refine bodyPost_ret (results_cell_tmp rfl _ _ (w.heap.size + 1) _ rfl (load_rowG (((((HG2.out.setBox _ _).setBox _ _).setRes 0 _).setRes 1 _).setRes 2 _).res rfl)) rfl ?_
  exact DGot.mk HL.out HG2.out HO2.out

set_option maxHeartbeats 1600000 in
theorem refTake_old (hl : ks.length = n) (hn : n ≤ 1000) (hL : Lies w w.heap.size A (kvs ks)) (hv : v ≤ u) :
    Calls Try.prog 33 #[.agg #[.slice A n c, .int .u64 (u : Int), .bool o], .int .u64 (v : Int)] w (DGot w ks 2 (u)) := by
  have HL := Lib.hid hl
  have HK := Lib.hid hL
  clear hl hL
  have hd : decide (v ≤ u) = true := by simpa using hv
  go_enter Try.func33, Try.ntmps33
  go_wp2_with (at_builtin; refine wpList_anewG (w := w) (gs := dCells A n c (u) o) (rs := dZero) (GBox.start (by rfl)) (by rfl) (.tmp 18) (.tmp 20) (by rfl) (by rfl) (by simp) A n c ks (by rfl) HL.out HK.out hn ?_)
  intro A1 c1 W1 ho1 hG1
  have HO1 := Lib.hid ho1
  have HG1 := Lib.hid hG1
  clear ho1 hG1
  go_wp2_with (at_builtin; refine wpList_pushG HG1.out (by rfl) (.tmp 21) (.tmp 23) (by rfl) A1 n c1 2 ks _ (by rfl) (by rfl) HO1.out (by rfl) hn ?_)
  intro A2 c2 W2 ho2 hG2
  have x0 := hG2.cell 0
  have x1 := hG2.cell 1
  have x2 := hG2.cell 2
  have y0 := hG2.cellR 0
  have y1 := hG2.cellR 1
  have y2 := hG2.cellR 2
  simp only [dCells, dZero, List.getElem?_toArray, List.getElem?_cons_succ, List.getElem?_cons_zero] at x0 x1 x2 y0 y1 y2
  have f0 := hG2.fr 0
  have f1 := hG2.fr 1
  have f2 := hG2.fr 2
  have g0 := hG2.frR 0
  have g1 := hG2.frR 1
  have g2 := hG2.frR 2
  have HO2 := Lib.hid ho2
  have HG2 := Lib.hid hG2
  clear ho2 hG2 HO1 HG1
  go_wp2
  refine bodyPost_ret (results_cell_tmp rfl _ _ (w.heap.size + 1) _ rfl (load_rowG (((((HG2.out.setBox _ _).setBox _ _).setRes 0 _).setRes 1 _).setRes 2 _).res rfl)) rfl ?_
  exact DGot.mk HL.out HG2.out HO2.out

set_option maxHeartbeats 1600000 in
theorem refTake_ahead (hl : ks.length = n) (hn : n ≤ 1000) (hL : Lies w w.heap.size A (kvs ks)) (hu : u ≤ 1000000) (hv : u + 1 < v) :
    Calls Try.prog 33 #[.agg #[.slice A n c, .int .u64 (u : Int), .bool o], .int .u64 (v : Int)] w (DGot w ks 3 (u)) := by
  have HL := Lib.hid hl
  have HK := Lib.hid hL
  clear hl hL
  have hd : decide (v ≤ u) = false := by simp; omega
  have hd1 : ((v : Int) == (u : Int) + 1) = false := by simp; omega
  go_enter Try.func33, Try.ntmps33
  go_wp2_with (at_builtin; refine wpList_anewG (w := w) (gs := dCells A n c (u) o) (rs := dZero) (GBox.start (by rfl)) (by rfl) (.tmp 18) (.tmp 20) (by rfl) (by rfl) (by simp) A n c ks (by rfl) HL.out HK.out hn ?_)
  intro A1 c1 W1 ho1 hG1
  have HO1 := Lib.hid ho1
  have HG1 := Lib.hid hG1
  clear ho1 hG1
  go_wp2_with (at_builtin; refine wpList_pushG HG1.out (by rfl) (.tmp 21) (.tmp 23) (by rfl) A1 n c1 3 ks _ (by rfl) (by rfl) HO1.out (by rfl) hn ?_)
  intro A2 c2 W2 ho2 hG2
  have x0 := hG2.cell 0
  have x1 := hG2.cell 1
  have x2 := hG2.cell 2
  have y0 := hG2.cellR 0
  have y1 := hG2.cellR 1
  have y2 := hG2.cellR 2
  simp only [dCells, dZero, List.getElem?_toArray, List.getElem?_cons_succ, List.getElem?_cons_zero] at x0 x1 x2 y0 y1 y2
  have f0 := hG2.fr 0
  have f1 := hG2.fr 1
  have f2 := hG2.fr 2
  have g0 := hG2.frR 0
  have g1 := hG2.frR 1
  have g2 := hG2.frR 2
  have HO2 := Lib.hid ho2
  have HG2 := Lib.hid hG2
  clear ho2 hG2 HO1 HG1
  go_wp2
  refine bodyPost_ret (results_cell_tmp rfl _ _ (w.heap.size + 1) _ rfl (load_rowG (((((HG2.out.setBox _ _).setBox _ _).setRes 0 _).setRes 1 _).setRes 2 _).res rfl)) rfl ?_
  exact DGot.mk HL.out HG2.out HO2.out

theorem refTake_any (hl : ks.length = n) (hn : n ≤ 1000) (hL : Lies w w.heap.size A (kvs ks)) (hu : u ≤ 1000000) :
    Calls Try.prog 33 #[.agg #[.slice A n c, .int .u64 (u : Int), .bool o], .int .u64 (v : Int)] w (DGot w ks (kindN u v) (if v = u + 1 then u + 1 else u)) := by
  rcases kindN_cases u v with ⟨e, h⟩ | ⟨e, h⟩ | ⟨e, h⟩
  · rw [e, if_pos h, ← h]
    exact refTake_one A n c u v o ks w hl hn hL hu h
  · rw [e, if_neg (by omega)]
    exact refTake_old A n c u v o ks w hl hn hL h
  · rw [e, if_neg (by omega)]
    exact refTake_ahead A n c u v o ks w hl hn hL hu h

end

end Go.Proofs.Ytbkkpimhoeagdaa
