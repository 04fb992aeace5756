/- The document's link as a value: Send. -/
import Derived.Test.YtbkkpimhoeagdaaLkH
import Derived.Test.YtbkkpimhoeagdaaSlV
namespace Go.Proofs.Ytbkkpimhoeagdaa
open Go.RowKit Go.Sort
set_option maxRecDepth 20000

/-- The kinds of what came, as cells. -/
def kv (k : Nat) : Value := .int .u8 (k : Int)
def kvs (l : List Nat) : List Value := l.map kv

/-- The document's link as cells: its own tick, the list of what waits, the list of kinds. -/
def dlCells (s : Ls) (dt : Nat) (A : Option Addr) (n c : Nat) (B : Option Addr) (m e : Nat) : Array Value :=
  #[.int .u8 (s.me : Int), .int .u8 (s.peer : Int), .int .i64 (s.width : Int), .slice A n c, .int .u64 (s.last : Int), .slice B m e, .int .u64 (s.g.u : Int), .bool s.g.b, .int .i64 (s.again : Int), .int .u64 (s.sent : Int), .int .i64 (dt : Int), .int .i64 (s.asked : Int)]

/-- The list of kinds reads as ks', wherever the argument's reads as ks, outside of blocks that were there. -/
def KeepsK (w : World) (A : Option Addr) (ks : List Nat) (A' : Option Addr) (ks' : List Nat) (w' : World) : Prop :=
  ∀ D : Nat → Prop, (∀ k, D k → k < w.heap.size) → LiesX w D A (kvs ks) → LiesX w' D A' (kvs ks')
theorem KeepsK.same {w w' : World} (A : Option Addr) (ks : List Nat) (hb : RowKit.Below w.heap.size w w') : KeepsK w A ks A ks w' := fun _ _ h => h.kept (OnlyE.of_below hb)

/-- What a call of the document's answers first. -/
def DL (w : World) (A : Option Addr) (lm : List Pf) (B : Option Addr) (ks : List Nat) (s' : Ls) (dt' : Nat) (ys : List Pf) (ks' : List Nat) (v : Value) (w' : World) : Prop :=
  ∃ A' c' B' e', v = .agg (dlCells s' dt' A' ys.length c' B' ks'.length e') ∧ ys.length ≤ c' ∧ c' ≤ maxLen ∧ KeepsP w A lm A' ys w' ∧ KeepsK w B ks B' ks' w' ∧ RowKit.Below w.heap.size w w'

theorem KeepsP.through {w W0 w' V : World} {A A' : Option Addr} {lm ys : List Pf} (hb : RowKit.Below w.heap.size w W0) (h : KeepsP W0 A lm A' ys w') (ho : OnlyE w' V (fun k => w.heap.size ≤ k ∧ k < W0.heap.size)) : KeepsP w A lm A' ys V := fun D hD hL => by
  have hs := hb.size
  have h1 : LiesX W0 (fun k => D k ∨ w.heap.size ≤ k ∧ k < W0.heap.size) A (flat encPf lm) := (hL.widen (D' := fun k => D k ∨ w.heap.size ≤ k ∧ k < W0.heap.size) fun k hk => hk.elim .inr fun e => .inl e.1).kept (OnlyE.of_below hb)
  have h2 := h _ (fun k hk => hk.elim (fun e => by have := hD k e; omega) fun e => e.2) h1
  exact (h2.kept (ho.mono fun k e => .inr e)).widen fun k hk => .inr (.inl hk)
theorem KeepsK.through {w W0 w' V : World} {A A' : Option Addr} {ks ks' : List Nat} (hb : RowKit.Below w.heap.size w W0) (h : KeepsK W0 A ks A' ks' w') (ho : OnlyE w' V (fun k => w.heap.size ≤ k ∧ k < W0.heap.size)) : KeepsK w A ks A' ks' V := fun D hD hL => by
  have hs := hb.size
  have h1 : LiesX W0 (fun k => D k ∨ w.heap.size ≤ k ∧ k < W0.heap.size) A (kvs ks) := (hL.widen (D' := fun k => D k ∨ w.heap.size ≤ k ∧ k < W0.heap.size) fun k hk => hk.elim .inr fun e => .inl e.1).kept (OnlyE.of_below hb)
  have h2 := h _ (fun k hk => hk.elim (fun e => by have := hD k e; omega) fun e => e.2) h1
  exact (h2.kept (ho.mono fun k e => .inr e)).widen fun k hk => .inr (.inl hk)

/-! ### Its boxes -/
theorem infoL {cs : Array Value} (h : cs.size = 12) : (Try.prog.info? 34).map (·.size) = some cs.size := by
  rw [h]
  kernel_rfl
theorem load_rowL {W : World} {g : Nat} {cs : Array Value} (hg : W.heap[g]? = some (.cells cs 34 (0, 0))) (hs : cs.size = 12) : (loadVar 34 ⟨g, 0, none⟩).run Try.prog W = .ok (.agg cs) W :=
  run_loadVar_row W g _ _ cs (0, 0) _ hg Try.underlying34 rfl (infoL hs)
section
variable {ops : Array Oper} {rest : List Oper} {dst : Option Tmp} {ty : TypeId} {pos : String} {aft : Array Edge} {a : Act} {w : World} {Q : Exit → Act → World → Prop} {cs : Array Value}
theorem load_L (x : Operand) {g : Nat} (hx : a.eval x = .pointer (some ⟨g, 0, none⟩)) (hg : w.heap[g]? = some (.cells cs 34 (0, 0))) (hs : cs.size = 12)
    (h : wpList Try.prog ops Q rest (a.put dst (.agg cs)) w) : wpList Try.prog ops Q (⟨dst, .load 34 x, ty, pos, aft, none⟩ :: rest) a w :=
  wpList_load_row rfl _ x rfl g hx _ cs (0, 0) _ hg Try.underlying34 rfl (infoL hs) h
theorem store_L (x y : Operand) {g : Nat} {old : Array Value} (hx : a.eval x = .pointer (some ⟨g, 0, none⟩)) (hy : a.eval y = .agg cs) (hg : w.heap[g]? = some (.cells old 34 (0, 0))) (ho : old.size = 12) (hs : cs.size = 12) (h1 : cs.all (·.oneCell') = true)
    (h : wpList Try.prog ops Q rest (a.put dst undef) (w.setRow g cs)) : wpList Try.prog ops Q (⟨dst, .store 34 x y, ty, pos, aft, none⟩ :: rest) a w :=
  wpList_store_row rfl _ x y rfl g cs hx hy _ old hg (infoL hs) (by omega) h1 h
end
theorem dl_size (s : Ls) (dt : Nat) (A : Option Addr) (n c : Nat) (B : Option Addr) (m e : Nat) : (dlCells s dt A n c B m e).size = 12 := rfl
theorem dl_one (s : Ls) (dt : Nat) (A : Option Addr) (n c : Nat) (B : Option Addr) (m e : Nat) : (dlCells s dt A n c B m e).all (·.oneCell') = true := by
  refine all_oneCell_toArray (cs := (dlCells s dt A n c B m e).toList) fun v hv => ?_
  simp only [dlCells, List.mem_cons, List.not_mem_nil, or_false] at hv
  rcases hv with rfl | rfl | rfl | rfl | rfl | rfl | rfl | rfl | rfl | rfl | rfl | rfl <;> rfl
def dlZero : Array Value := #[.int .u8 0, .int .u8 0, .int .i64 0, .slice none 0 0, .int .u64 0, .slice none 0 0, .int .u64 0, .bool false, .int .i64 0, .int .u64 0, .int .i64 0, .int .i64 0]

/-- The boxes of Send: the link, the frame, the answer. -/
structure SBx (w : World) (ls fs rs : Array Value) (W : World) : Prop where
  below : RowKit.Below w.heap.size w W
  l : W.heap[w.heap.size]? = some (.cells ls 34 (0, 0))
  f : W.heap[w.heap.size + 1]? = some (.cells fs 44 (0, 0))
  r : W.heap[w.heap.size + 1 + 1]? = some (.cells rs 34 (0, 0))
theorem SBx.start {w W : World} {ls fs rs : Array Value} (h : ((w.alloc (.cells ls 34)).alloc (.cells fs 44)).alloc (.cells rs 34) = W) : SBx w ls fs rs W := by
  obtain ⟨h1, h2, h3, hb⟩ := alloc3_blocks w _ _ _ h
  exact ⟨hb, h1, h2, h3⟩
theorem SBx.lt {w W : World} {ls fs rs : Array Value} (h : SBx w ls fs rs W) : w.heap.size + 3 ≤ W.heap.size := (Array.getElem?_eq_some_iff.1 h.r).1
theorem SBx.on {w W W' : World} {ls fs rs : Array Value} (h : SBx w ls fs rs W) (hb : RowKit.Below W.heap.size W W') : SBx w ls fs rs W' := by
  have h3 := h.lt
  exact ⟨h.below.trans (hb.mono h.below.size), (hb.block _ (by omega)).trans h.l, (hb.block _ (by omega)).trans h.f, (hb.block _ (by omega)).trans h.r⟩
theorem SBx.set {w W : World} {ls fs rs : Array Value} (h : SBx w ls fs rs W) (i : Nat) (u : Value) : SBx w (ls.setIfInBounds i u) fs rs (W.setCell ⟨w.heap.size, i, none⟩ u) :=
  ⟨h.below.setCell (p := ⟨w.heap.size, i, none⟩) (Nat.le_refl _) u, heap_setCell_same W _ i _ _ u h.l, (heap_setCell_other W ⟨w.heap.size, i, none⟩ (w.heap.size + 1) u (by simp)).trans h.f, (heap_setCell_other W ⟨w.heap.size, i, none⟩ (w.heap.size + 1 + 1) u (show w.heap.size + 1 + 1 ≠ w.heap.size by omega)).trans h.r⟩
theorem SBx.cell {w W : World} {ls fs rs : Array Value} (h : SBx w ls fs rs W) (i : Nat) : W.cell? ⟨w.heap.size, i, none⟩ = ls[i]? := cell_of_row W _ i _ _ _ h.l
theorem SBx.fr {w W : World} {ls fs rs : Array Value} (h : SBx w ls fs rs W) (i : Nat) : W.frozen? ⟨w.heap.size, i, none⟩ = false := frozen_of_row W _ i _ _ h.l

set_option maxHeartbeats 1600000 in
theorem refLSend_gen (s : Ls) (dt : Nat) (A : Option Addr) (n c : Nat) (B : Option Addr) (m e : Nat) (lm ys : List Pf) (ks : List Nat) (x : Pf) (last' kk : Nat) (w : World) (hm : ks.length = m)
    (hP : ∀ W, RowKit.Below w.heap.size w W → Calls Try.prog 28 #[.agg #[.int .i64 (s.width : Int), .slice A n c, .int .u64 (s.last : Int)], .agg (x.headed s 1).cs] W (RGot W A lm s.width ys last' kk)) :
    Calls Try.prog 13 #[.agg (dlCells s dt A n c B m e), .agg x.cs] w fun en w' => ∃ v, en = .returned (.tuple #[v, .int .i64 (kk : Int)]) ∧ DL w A lm B ks { s with last := last' } dt ys ks v w' := by
  have HP := Lib.hid hP
  have HM := Lib.hid hm
  clear hP hm
  unfold dlCells
  go_enter Try.func13, Try.ntmps13
  go_upto_region 4 with fail
  generalize hW0 : World.alloc (World.alloc (World.alloc w _) _) _ = W0
  have H0 : Hid (SBx w (dlCells s dt A n c B m e) (x.headed s 1).cs dlZero W0) := SBx.start hW0
  clear hW0
  have c2 : W0.cell? ⟨w.heap.size, 2, none⟩ = some (.int .i64 (s.width : Int)) := H0.out.cell 2
  have c3 : W0.cell? ⟨w.heap.size, 3, none⟩ = some (.slice A n c) := H0.out.cell 3
  have c4 : W0.cell? ⟨w.heap.size, 4, none⟩ = some (.int .u64 (s.last : Int)) := H0.out.cell 4
  go_wp2_with (first | (refine load_frame (.tmp 3) rfl H0.out.f (Pf.size _) ?_) | fail)
  refine (HP.out W0 H0.out.below).mono ?_
  rintro en w1 ⟨A', c', rfl, hc', hcm', hK, hb⟩
  have H1 := Lib.hid (H0.out.on hb)
  have HK := Lib.hid hK
  have HB := Lib.hid hb
  have HC := Lib.hid (And.intro hc' hcm')
  clear c2 c3 c4 hK hb hc' hcm'
  unfold rCells
  have hlt := H1.out.lt
  have c2 : w1.cell? ⟨w.heap.size, 2, none⟩ = some (.int .i64 (s.width : Int)) := H1.out.cell 2
  have c3 : w1.cell? ⟨w.heap.size, 3, none⟩ = some (.slice A n c) := H1.out.cell 3
  have c4 : w1.cell? ⟨w.heap.size, 4, none⟩ = some (.int .u64 (s.last : Int)) := H1.out.cell 4
  have f2 := H1.out.fr 2
  have f3 := H1.out.fr 3
  have f4 := H1.out.fr 4
  have hlw : w.heap.size < w1.heap.size := by omega
  go_upto_region 6 with fail
  clear c2 c3 c4 f2 f3 f4
  have HX : Hid (∀ V, (((w1.setCell ⟨w.heap.size, 2, none⟩ (.int .i64 (s.width : Int))).setCell ⟨w.heap.size, 3, none⟩ (.slice A' ys.length c')).setCell ⟨w.heap.size, 4, none⟩ (.int .u64 (last' : Int))).alloc (.cells #[.int .i64 (s.width : Int), .slice A' ys.length c', .int .u64 (last' : Int)] 29) = V →
      SBx w (dlCells { s with last := last' } dt A' ys.length c' B m e) (x.headed s 1).cs dlZero V ∧ OnlyE w1 V (fun k => k = w.heap.size)) := by
    rintro V rfl
    exact ⟨(((H1.out.set 2 (.int .i64 (s.width : Int))).set 3 (.slice A' ys.length c')).set 4 (.int .u64 (last' : Int))).on ((RowKit.Below.refl _ _).alloc (Nat.le_refl _) _), ((onlyE_set (D := fun k => k = w.heap.size) rfl 2 _).trans ((onlyE_set (D := fun k => k = w.heap.size) rfl 3 _).trans (onlyE_set (D := fun k => k = w.heap.size) rfl 4 _))).trans (OnlyE.of_below ((RowKit.Below.refl _ _).alloc (Nat.le_refl _) _))⟩
  generalize hV : World.alloc (World.setCell _ _ _) _ = V
  obtain ⟨h2, hO⟩ := HX.out V hV
  have H2 := Lib.hid h2
  have HO := Lib.hid hO
  clear hV h2 hO HX
  go_wp2_with (first | (refine load_L (.tmp 2) rfl H2.out.l rfl ?_) | (refine store_L (.tmp 4) (.tmp 27) rfl rfl H2.out.r rfl rfl (dl_one _ _ _ _ _ _ _ _) ?_) | fail)
  have hrow : (V.setRow (w.heap.size + 1 + 1) (dlCells { s with last := last' } dt A' ys.length c' B m e)).heap[w.heap.size + 1 + 1]? = some (.cells (dlCells { s with last := last' } dt A' ys.length c' B m e) 34 (0, 0)) := setRow_heap _ _ _ _ _ _ H2.out.r
  refine bodyPost_ret (results_cell_tmp rfl _ _ (w.heap.size + 1 + 1) _ rfl (load_rowL hrow rfl)) rfl ?_
  have h03 := H0.out.lt
  have hO : OnlyE w1 (V.setRow (w.heap.size + 1 + 1) (dlCells { s with last := last' } dt A' ys.length c' B m e)) (fun k => w.heap.size ≤ k ∧ k < W0.heap.size) := (HO.out.mono fun k e => by subst e; exact ⟨Nat.le_refl _, by omega⟩).trans (onlyE_setRow (by constructor <;> omega) _)
  exact ⟨_, rfl, A', c', B, e, by rw [HM.out], HC.out.1, HC.out.2, KeepsP.through H0.out.below HK.out hO, KeepsK.through H0.out.below (KeepsK.same B ks HB.out) hO, Below.setRow H2.out.below (by omega) _⟩

end Go.Proofs.Ytbkkpimhoeagdaa
