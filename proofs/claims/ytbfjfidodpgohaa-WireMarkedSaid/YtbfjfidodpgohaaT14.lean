/- A frame's cells, whole: as a value, as a block; loaded, stored and built in one step. -/
import Derived.Test.YtbfjfidodpgohaaT13
import Derived.Laws.Rows
import Derived.Below

namespace Go.Proofs.Ytbfjfidodpgohaa
open Go.RowKit Go.Sort

/-- These cells are this frame's; its slices lie in blocks that are not among D. -/
def FrV (w : World) (D : Nat → Prop) (F : Fr) (cs : Array Value) : Prop :=
  ∃ ve vx vn vh vd, cs = frCells F ve vx vn vh vd ∧ Sl w D ve F.est.length (flat encRn F.est) ∧ Sl w D vx F.aux.length (flat encRn F.aux) ∧
    Sl w D vn F.done.length (uvs F.done) ∧ Sl w D vh F.held.length (uvs F.held) ∧ Sl w D vd F.data.length (bvs F.data)

theorem Sl.one {w : World} {D : Nat → Prop} {v : Value} {n : Nat} {xs : List Value} (h : Sl w D v n xs) : v.oneCell' = true := by
  obtain ⟨A, c, rfl, _⟩ := h
  rfl
theorem Sl.widen {w : World} {D D' : Nat → Prop} {v : Value} {n : Nat} {xs : List Value} (h : Sl w D v n xs) (hD : ∀ k, D' k → w.heap.size ≤ k ∨ D k) : Sl w D' v n xs := by
  obtain ⟨A, c, e, h1, h2, h3⟩ := h
  refine ⟨A, c, e, h1, h2, fun hn => ?_⟩
  obtain ⟨b, off, e2, hb, hd, hc⟩ := h3 hn
  exact ⟨b, off, e2, hb, fun hd' => (hD b hd').elim (fun h => absurd hb (Nat.not_lt.2 h)) hd, hc⟩
theorem FrV.widen {w : World} {D D' : Nat → Prop} {F : Fr} {cs : Array Value} (h : FrV w D F cs) (hD : ∀ k, D' k → w.heap.size ≤ k ∨ D k) : FrV w D' F cs := by
  obtain ⟨ve, vx, vn, vh, vd, e, h1, h2, h3, h4, h5⟩ := h
  exact ⟨ve, vx, vn, vh, vd, e, h1.widen hD, h2.widen hD, h3.widen hD, h4.widen hD, h5.widen hD⟩
theorem FrV.kept {w w' : World} {D : Nat → Prop} {F : Fr} {cs : Array Value} (h : FrV w D F cs) (ho : OnlyE w w' D) : FrV w' D F cs := by
  obtain ⟨ve, vx, vn, vh, vd, e, h1, h2, h3, h4, h5⟩ := h
  exact ⟨ve, vx, vn, vh, vd, e, h1.kept ho, h2.kept ho, h3.kept ho, h4.kept ho, h5.kept ho⟩
theorem FrV.on {w w' : World} {D : Nat → Prop} {F : Fr} {cs : Array Value} (h : FrV w D F cs) (hb : RowKit.Below w.heap.size w w') : FrV w' D F cs := h.kept (OnlyE.of_below hb)
theorem FrV.size {w : World} {D : Nat → Prop} {F : Fr} {cs : Array Value} (h : FrV w D F cs) : cs.size = 16 := by
  obtain ⟨ve, vx, vn, vh, vd, rfl, _⟩ := h
  rfl
theorem FrV.one {w : World} {D : Nat → Prop} {F : Fr} {cs : Array Value} (h : FrV w D F cs) : cs.all (·.oneCell') = true := by
  obtain ⟨ve, vx, vn, vh, vd, rfl, h1, h2, h3, h4, h5⟩ := h
  have k1 := h1.one
  have k2 := h2.one
  have k3 := h3.one
  have k4 := h4.one
  have k5 := h5.one
  clear h1 h2 h3 h4 h5
  simp only [frCells, List.all_toArray, List.all_cons, List.all_nil, k1, k2, k3, k4, k5, Bool.and_true]
  rfl
theorem FrV.val {w : World} {D : Nat → Prop} {F : Fr} {cs : Array Value} (h : FrV w D F cs) : ∃ e x n h d, Value.agg cs = frVal F e x n h d := by
  obtain ⟨ve, vx, vn, vh, vd, rfl, ⟨A1, c1, rfl, _⟩, ⟨A2, c2, rfl, _⟩, ⟨A3, c3, rfl, _⟩, ⟨A4, c4, rfl, _⟩, ⟨A5, c5, rfl, _⟩⟩ := h
  exact ⟨⟨A1, c1⟩, ⟨A2, c2⟩, ⟨A3, c3⟩, ⟨A4, c4⟩, ⟨A5, c5⟩, rfl⟩
theorem FrIn.of {w : World} {D : Nat → Prop} {g : Nat} {F : Fr} {cs : Array Value} (hg : w.heap[g]? = some (.cells cs 33 (0, 0))) (h : FrV w D F cs) : FrIn w D g F := by
  obtain ⟨ve, vx, vn, vh, vd, rfl, h⟩ := h
  exact ⟨ve, vx, vn, vh, vd, hg, h⟩
theorem FrIn.to {w : World} {D : Nat → Prop} {g : Nat} {F : Fr} (h : FrIn w D g F) : ∃ cs, w.heap[g]? = some (.cells cs 33 (0, 0)) ∧ FrV w D F cs := by
  obtain ⟨ve, vx, vn, vh, vd, hg, h⟩ := h
  exact ⟨_, hg, ve, vx, vn, vh, vd, rfl, h⟩

theorem info33 {cs : Array Value} (h : cs.size = 16) : (Try.prog.info? 33).map (·.size) = some cs.size := by
  rw [h]
  kernel_rfl

section
variable {ops : Array Oper} {rest : List Oper} {dst : Option Tmp} {ty : TypeId} {pos : String} {aft : Array Edge} {a : Act} {w : World} {Q : Exit → Act → World → Prop} {cs : Array Value}

/-- A frame is loaded whole. -/
theorem load_frame (x : Operand) {g : Nat} (hx : a.eval x = .pointer (some ⟨g, 0, none⟩)) (hg : w.heap[g]? = some (.cells cs 33 (0, 0))) (hs : cs.size = 16)
    (h : wpList Try.prog ops Q rest (a.put dst (.agg cs)) w) : wpList Try.prog ops Q (⟨dst, .load 33 x, ty, pos, aft, none⟩ :: rest) a w :=
  wpList_load_row rfl _ x rfl g hx _ cs (0, 0) _ hg Try.underlying33 rfl (info33 hs) h

/-- So under a guard that lets it. -/
theorem load_frame_on {gd : Nat × Bool} (x : Operand) {g : Nat} (hw : Region.wanted (⟨dst, .load 33 x, ty, pos, aft, some gd⟩ : Oper) (yielded ops a.tmps) = true) (hx : a.eval x = .pointer (some ⟨g, 0, none⟩)) (hg : w.heap[g]? = some (.cells cs 33 (0, 0))) (hs : cs.size = 16)
    (h : wpList Try.prog ops Q rest (a.put dst (.agg cs)) w) : wpList Try.prog ops Q (⟨dst, .load 33 x, ty, pos, aft, some gd⟩ :: rest) a w :=
  wpList_step fun _ hK => by
    rw [if_pos hw]
    exact wp_load_row _ x rfl g hx _ cs (0, 0) _ hg Try.underlying33 rfl (info33 hs) (hK _ _ h)

/-- A frame is stored whole, into a new block. -/
theorem store_frame (x y : Operand) {g : Nat} {old : Array Value} (hx : a.eval x = .pointer (some ⟨g, 0, none⟩)) (hy : a.eval y = .agg cs) (hg : w.heap[g]? = some (.cells old 33 (0, 0))) (ho : old.size = 16) (hs : cs.size = 16) (h1 : cs.all (·.oneCell') = true)
    (h : wpList Try.prog ops Q rest (a.put dst undef) (w.setRow g cs)) : wpList Try.prog ops Q (⟨dst, .store 33 x y, ty, pos, aft, none⟩ :: rest) a w :=
  wpList_store_row rfl _ x y rfl g cs hx hy _ old hg (info33 hs) (by omega) h1 h

theorem setRow_new (w1 : World) (old cs : Array Value) (t : TypeId) : (w1.alloc (.cells old t)).setRow w1.heap.size cs = w1.alloc (.cells cs t) := by
  unfold World.setRow World.alloc
  congr 1
  apply Array.ext_getElem?
  intro k
  rw [Array.getElem?_modify]
  by_cases hk : w1.heap.size = k
  · subst hk
    simp
  · have hk' : k ≠ w1.heap.size := fun e => hk e.symm
    simp [hk, Array.getElem?_push, hk']

/-- A frame is stored whole, into the block that was made last. -/
theorem store_frame_new (x y : Operand) {w1 : World} {g : Nat} {old : Array Value} (hgw : g = w1.heap.size) (hx : a.eval x = .pointer (some ⟨g, 0, none⟩)) (hy : a.eval y = .agg cs) (ho : old.size = 16) (hs : cs.size = 16) (h1 : cs.all (·.oneCell') = true)
    (h : wpList Try.prog ops Q rest (a.put dst undef) (w1.alloc (.cells cs 33))) : wpList Try.prog ops Q (⟨dst, .store 33 x y, ty, pos, aft, none⟩ :: rest) a (w1.alloc (.cells old 33)) := by
  subst hgw
  refine store_frame x y hx hy (heap_alloc_new _ _) ho hs h1 ?_
  rw [setRow_new]
  exact h
end

theorem Below.setRow {n : Nat} {a b : World} (h : RowKit.Below n a b) {g : Nat} (hg : n ≤ g) (cs : Array Value) : RowKit.Below n a (b.setRow g cs) :=
  ⟨h.os, h.tape, h.output, by simpa using h.size, fun k hk => (setRow_other b g k cs (by omega)).trans (h.block k hk)⟩

end Go.Proofs.Ytbfjfidodpgohaa

/- Whether a frame may be. -/
namespace Go.Proofs.Ytbfjfidodpgohaa
open Go.RowKit Go.Sort

/-- What the checker leaves of a frame, and whether it found something bad. -/
noncomputable def ckAll (F : Fr) : Fr × Bool := vAll ckV (F, false)
/-- May a frame be? -/
noncomputable def mayF (F : Fr) : Bool := isKind F.kind && !(ckAll F).2 && bareB (ckAll F).1 && headB F.src F.dst && placeB F && kindB F

theorem boxes3 (w w0 : World) (a b c : Obj) (h : World.alloc (World.alloc (World.alloc w a) b) c = w0) :
    w0.heap.size = w.heap.size + 3 ∧ RowKit.Below w.heap.size w w0 ∧ w0.heap[w.heap.size]? = some a ∧ w0.heap[w.heap.size + 1]? = some b ∧ w0.heap[w.heap.size + 2]? = some c := by
  subst h
  have e1 : (World.alloc w a).heap.size = w.heap.size + 1 := by simp
  have e2 : (World.alloc (World.alloc w a) b).heap.size = w.heap.size + 2 := by simp
  refine ⟨by simp, ?_, ?_, ?_, ?_⟩
  · exact (((RowKit.Below.refl _ _).alloc (Nat.le_refl _) _).alloc (by omega) _).alloc (by omega) _
  · rw [Below.heap_alloc _ _ _ (by omega), Below.heap_alloc _ _ _ (by omega)]; exact heap_alloc_new w a
  · rw [Below.heap_alloc _ _ _ (by omega)]; exact alloc2_new w a b
  · have := heap_alloc_new (World.alloc (World.alloc w a) b) c
    rwa [e2] at this

theorem Sl.ok {w : World} {D : Nat → Prop} {v : Value} {n : Nat} {xs : List Value} (h : Sl w D v n xs) : n ≤ maxLen := by
  obtain ⟨A, c, _, h1, h2, _⟩ := h
  omega

/-- What the call of the checker leaves: its own finding, the frame that is left, all else as it was. -/
def Checked (w : World) (F : Fr) (cs : Array Value) (W : World) : Prop :=
  RowKit.Below w.heap.size w W ∧ W.heap[w.heap.size]? = some (.cells cs 33 (0, 0)) ∧ Ck (w.heap.size + 1) (ckAll F).2 W ∧ ∃ cs', W.heap[w.heap.size + 2]? = some (.cells cs' 33 (0, 0)) ∧ FrV W (fun k => k = w.heap.size + 1 ∨ k = w.heap.size + 2) (ckAll F).1 cs'

theorem check_any {w w0 : World} {F : Fr} {cs : Array Value} (hok : F.Ok) (hF : FrV w (fun _ => False) F cs)
    (hw : World.alloc (World.alloc (World.alloc w (.cells cs 33)) (.cells #[.bool false] 77)) (.cells cs 33) = w0) :
    Calls Try.prog 20 #[.iface 75 (.pointer (some ⟨w.heap.size + 1, 0, none⟩)), .pointer (some ⟨w.heap.size + 1 + 1, 0, none⟩)] w0 fun e w' => e = .returned (.bool (isKind F.kind)) ∧ Checked w F cs w' := by
  obtain ⟨hs, hb, h0, h1, h2⟩ := boxes3 _ _ _ _ _ hw
  have hV := ck_vis (w.heap.size + 1) (w.heap.size + 2) (by omega)
  have hFr : FrV w0 (fun k => k = w.heap.size + 1 ∨ k = w.heap.size + 2) F cs := (hF.widen (by intro k hk; left; omega)).on hb
  refine (visit_any (p := (F, false)) hV w0 ⟨FrIn.of h2 hFr, hok, h1, OnlyE.refl _ _⟩).mono ?_
  rintro e w' ⟨rfl, k, hS⟩
  refine ⟨rfl, hb.trans (hS.only.below (by intro k hk; omega) (by omega)), ?_, hS.inv, ?_⟩
  · rw [hS.only.2 _ (by omega) (by intro hk; rcases hk with hk | hk <;> omega)]; exact h0
  · exact hS.fr.to

theorem headMay_lit (k s d : Nat) (hs : s < 256) (hd : d < 256) (w : World) : Calls Try.prog 34 #[.agg #[.int .u8 (k : Int), .int .u8 (s : Int), .int .u8 (d : Int)]] w fun e w' => e = .returned (.bool (headB s d)) ∧ RowKit.Below w.heap.size w w' :=
  (headMay_any k s d w hs hd).mono fun _ _ h => ⟨h.1, h.2.below⟩

theorem bare_v {w : World} {D : Nat → Prop} {F : Fr} {cs : Array Value} (h : FrV w D F cs) (W : World) : Calls Try.prog 33 #[.agg cs] W fun e w' => e = .returned (.bool (bareB F)) ∧ RowKit.Below W.heap.size W w' := by
  obtain ⟨e, x, n, h, d, hv⟩ := h.val
  rw [hv]
  exact (isBare_any F e x n h d W).mono fun _ _ h => ⟨h.1, h.2.below⟩
theorem place_v {w : World} {D : Nat → Prop} {F : Fr} {cs : Array Value} (h : FrV w D F cs) (W : World) : Calls Try.prog 35 #[.agg cs] W fun e w' => e = .returned (.bool (placeB F)) ∧ RowKit.Below W.heap.size W w' := by
  obtain ⟨e, x, n, h, d, hv⟩ := h.val
  rw [hv]
  exact (placeMay_any F e x n h d W).mono fun _ _ h => ⟨h.1, h.2.below⟩
theorem kind_v {w : World} {D : Nat → Prop} {F : Fr} {cs : Array Value} (h : FrV w D F cs) (W : World) : Calls Try.prog 36 #[.agg cs] W fun e w' => e = .returned (.bool (kindB F)) ∧ RowKit.Below W.heap.size W w' := by
  obtain ⟨e, x, n, h, d, hv⟩ := h.val
  rw [hv]
  exact (kindMay_any F e x n h d W).mono fun _ _ h => ⟨h.1, h.2.below⟩

theorem FrV.head {w : World} {D : Nat → Prop} {F : Fr} {cs : Array Value} (h : FrV w D F cs) : cs[0]? = some (.int .u8 (F.kind : Int)) ∧ cs[1]? = some (.int .u8 (F.src : Int)) ∧ cs[2]? = some (.int .u8 (F.dst : Int)) := by
  obtain ⟨ve, vx, vn, vh, vd, rfl, _⟩ := h
  exact ⟨rfl, rfl, rfl⟩

set_option maxRecDepth 100000 in
set_option maxHeartbeats 1600000 in
theorem wireMay_any (F : Fr) (cs : Array Value) (w : World) (hok : F.Ok) (hF : FrV w (fun _ => False) F cs) :
    Calls Try.prog 14 #[.agg cs] w fun e w' => e = .returned (.bool (mayF F)) ∧ RowKit.Below w.heap.size w w' := by
  have HS := Lib.hid hF.size
  have H1 := Lib.hid hF.one
  have HF := Lib.hid hF
  have HOK := Lib.hid hok
  have HC : Hid (∀ w0, World.alloc (World.alloc (World.alloc w (.cells cs 33)) (.cells #[.bool false] 77)) (.cells cs 33) = w0 → Calls Try.prog 20 #[.iface 75 (.pointer (some ⟨w.heap.size + 1, 0, none⟩)), .pointer (some ⟨w.heap.size + 1 + 1, 0, none⟩)] w0 fun e w' => e = .returned (.bool (isKind F.kind)) ∧ Checked w F cs w') := fun w0 h => check_any hok hF h
  have HH := Lib.hid hF.head
  have HP : Hid (∀ W, Calls Try.prog 35 #[.agg cs] W fun e w' => e = .returned (.bool (placeB F)) ∧ RowKit.Below W.heap.size W w') := fun W => place_v hF W
  have HK : Hid (∀ W, Calls Try.prog 36 #[.agg cs] W fun e w' => e = .returned (.bool (kindB F)) ∧ RowKit.Below W.heap.size W w') := fun W => kind_v hF W
  have HM : Hid (∀ W, Calls Try.prog 34 #[.agg #[.int .u8 (F.kind : Int), .int .u8 (F.src : Int), .int .u8 (F.dst : Int)]] W fun e w' => e = .returned (.bool (headB F.src F.dst)) ∧ RowKit.Below W.heap.size W w') := fun W => headMay_lit _ _ _ hok.src hok.dst W
  clear hok hF
  unfold mayF
  generalize hq1 : isKind F.kind = q1 at HC ⊢
  generalize hq2 : (ckAll F).2 = q2
  generalize hq3 : bareB (ckAll F).1 = q3
  generalize hq4 : headB F.src F.dst = q4 at HM ⊢
  generalize hq5 : placeB F = q5 at HP ⊢
  generalize hq6 : kindB F = q6 at HK ⊢
  clear hq1 hq4 hq5 hq6
  have HQ2 := Lib.hid hq2
  have HQ3 := Lib.hid hq3
  clear hq2 hq3
  go_enter Try.func14, Try.ntmps14
  go_wp2_with (first | (refine load_frame (.tmp 1) rfl (heap_alloc_new _ _) HS.out ?_) | (refine store_frame_new (.tmp 3) (.tmp 5) (by simp) rfl rfl rfl HS.out H1.out ?_) | fail)
  refine (HC.out _ rfl).mono ?_
  rintro e W ⟨rfl, hC⟩
  have HB : Hid (RowKit.Below w.heap.size w W) := hC.1
  obtain ⟨-, hb0, hck, cs', hb2, hV'⟩ := hC
  have c1 : W.cell? ⟨w.heap.size + 1, 0, none⟩ = some (.bool q2) := by
    have := cell_of_row W _ 0 _ _ _ hck
    rw [HQ2.out] at this
    exact this
  have HB0 := Lib.hid hb0
  have HB2 := Lib.hid hb2
  have HS2 := Lib.hid hV'.size
  have HI : Hid (∀ W', Calls Try.prog 33 #[.agg cs'] W' fun e w' => e = .returned (.bool q3) ∧ RowKit.Below W'.heap.size W' w') := fun W' => by
    have := bare_v hV' W'
    rw [HQ3.out] at this
    exact this
  clear hb0 hck hb2 hV'
  cases q1
  · go_wp2
    go_ret
    exact ⟨rfl, HB.out⟩
  cases q2
  rotate_left
  · go_wp2
    go_ret
    exact ⟨rfl, HB.out⟩
  go_wp2_with (first | (refine load_frame_on (.tmp 3) rfl rfl HB2.out HS2.out ?_) | fail)
  refine (HI.out _).mono ?_
  rintro e W1 ⟨rfl, hb1⟩
  have HB1 : Hid (RowKit.Below w.heap.size w W1) := HB.out.trans (hb1.mono HB.out.size)
  have hr1 : W1.heap[w.heap.size]? = some (.cells cs 33 (0, 0)) := (hb1.block _ (Array.getElem?_eq_some_iff.1 HB0.out).1).trans HB0.out
  have k0 : W1.cell? ⟨w.heap.size, 0, none⟩ = some (.int .u8 (F.kind : Int)) := (cell_of_row W1 _ 0 _ _ _ hr1).trans HH.out.1
  have k1 : W1.cell? ⟨w.heap.size, 1, none⟩ = some (.int .u8 (F.src : Int)) := (cell_of_row W1 _ 1 _ _ _ hr1).trans HH.out.2.1
  have k2 : W1.cell? ⟨w.heap.size, 2, none⟩ = some (.int .u8 (F.dst : Int)) := (cell_of_row W1 _ 2 _ _ _ hr1).trans HH.out.2.2
  have HR1 := Lib.hid hr1
  clear hr1 hb1 c1
  cases q3
  · go_wp2
    go_ret
    exact ⟨rfl, HB1.out⟩
  go_wp2_with fail
  refine (HM.out _).mono ?_
  rintro e W2 ⟨rfl, hb2⟩
  have HB2' : Hid (RowKit.Below w.heap.size w W2) := HB1.out.trans (hb2.mono HB1.out.size)
  have HR2 : Hid (W2.heap[w.heap.size]? = some (.cells cs 33 (0, 0))) := (hb2.block _ (Array.getElem?_eq_some_iff.1 HR1.out).1).trans HR1.out
  clear hb2 k0 k1 k2
  cases q4
  · go_wp2
    go_ret
    exact ⟨rfl, HB2'.out⟩
  go_wp2_with (first | (refine load_frame_on (.tmp 1) rfl rfl HR2.out HS.out ?_) | fail)
  refine (HP.out _).mono ?_
  rintro e W3 ⟨rfl, hb3⟩
  have HB3 : Hid (RowKit.Below w.heap.size w W3) := HB2'.out.trans (hb3.mono HB2'.out.size)
  have HR3 : Hid (W3.heap[w.heap.size]? = some (.cells cs 33 (0, 0))) := (hb3.block _ (Array.getElem?_eq_some_iff.1 HR2.out).1).trans HR2.out
  clear hb3
  cases q5
  · go_wp2
    go_ret
    exact ⟨rfl, HB3.out⟩
  go_wp2_with (first | (refine load_frame_on (.tmp 1) rfl rfl HR3.out HS.out ?_) | fail)
  refine (HK.out _).mono ?_
  rintro e W4 ⟨rfl, hb4⟩
  have HB4 : Hid (RowKit.Below w.heap.size w W4) := HB3.out.trans (hb4.mono HB3.out.size)
  clear hb4
  go_wp2
  go_ret
  exact ⟨rfl, HB4.out⟩

end Go.Proofs.Ytbfjfidodpgohaa

/- The writer: what it puts behind what it has put. -/
namespace Go.Proofs.Ytbfjfidodpgohaa
open Go.RowKit Go.Sort

theorem wp_append_step {P : Program} {o : Oper} {a : Act} {w w' : World} {v vx v' : Value} {ys : Nat → Option Bool} {K : Act → World → Prop} {Q : Exit → Act → World → Prop} {s x : Operand} {t : TypeId} (hgd : o.guard = none) (ho : o.op = .call { callee := .builtin .append, args := #[s, x], argTypes := #[t, t] })
    (hs : a.eval s = v) (hx : a.eval x = vx) (hrun : (Builtin.append_ #[t, t] o.type #[v, vx]).run P w = .ok v' w') (hk : K (a.put o.dst v') w') :
    if Region.wanted o ys = true then Oper.wp P o a w K Q else K (a.put o.dst undef) w := by
  rw [if_pos (by simp [Region.wanted, hgd])]
  unfold Oper.wp execOp
  simp only [ho, resolve, invoke, builtin, Sem.run_bind, Sem.run_pure, Result.andThen_ok, List.map_toArray, List.map_cons, List.map_nil, hs, hx, hrun]
  exact hk

/-- Block gw is a writer that has put these bytes, in a block behind it. -/
def Wr (gw : Nat) (s : List UInt8) (w : World) : Prop :=
  ∃ A c, w.heap[gw]? = some (.cells #[.slice A s.length c] 72 (0, 0)) ∧ w.ownsRow (gw + 1) 5 1 (.slice A s.length c) s.length (bvs s)

/-- The writer's block, and that of what it has put. -/
def OutB (gw : Nat) (w : World) (k : Nat) : Prop := k = gw ∨ ∃ v, w.cell? ⟨gw, 0, none⟩ = some v ∧ v.ownBlock = some k

def Wrote (gw : Nat) (w : World) (s : List UInt8) (w' : World) : Prop := Wr gw s w' ∧ OnlyE w w' (OutB gw w)

theorem Wr.lt {gw : Nat} {s : List UInt8} {w : World} (h : Wr gw s w) : gw < w.heap.size := by
  obtain ⟨A, c, hg, _⟩ := h
  exact (Array.getElem?_eq_some_iff.1 hg).1
theorem Wr.below {gw : Nat} {s : List UInt8} {w w' : World} (h : Wr gw s w) (hb : RowKit.Below w.heap.size w w') : Wr gw s w' := by
  have hlt := h.lt
  obtain ⟨A, c, hg, ho⟩ := h
  exact ⟨A, c, (hb.block gw hlt).trans hg, own_below ho hb⟩
theorem Wr.out {gw : Nat} {s : List UInt8} {w : World} (h : Wr gw s w) {k : Nat} (hk : OutB gw w k) : gw ≤ k ∧ k < w.heap.size := by
  have hlt := h.lt
  obtain ⟨A, c, hg, ho⟩ := h
  rcases hk with rfl | ⟨v, hv, hk⟩
  · exact ⟨Nat.le_refl _, hlt⟩
  · rw [cell_of_row w gw 0 _ _ _ hg] at hv
    have e : Value.slice A s.length c = v := by injection hv
    subst e
    have := ho.lt k hk
    omega
theorem Wrote.coarse {gw : Nat} {s s' : List UInt8} {w w' : World} (h : Wrote gw w s' w') (h0 : Wr gw s w) : OnlyE w w' (fun k => gw ≤ k) := h.2.mono fun _ hk => (h0.out hk).1
theorem Wrote.behind {gw : Nat} {s s' : List UInt8} {w w1 w' : World} (h : Wrote gw w1 s' w') (h0 : Wr gw s w) (hb : RowKit.Below w.heap.size w w1) : Wrote gw w s' w' := by
  refine ⟨h.1, (OnlyE.of_below hb).trans (h.2.mono fun k hk => ?_)⟩
  rcases hk with hk | ⟨v, hv, hk⟩
  · exact .inl hk
  · exact .inr ⟨v, (hb.cell (p := ⟨gw, 0, none⟩) h0.lt).symm.trans hv, hk⟩

theorem wr_append {gw : Nat} {s news : List UInt8} {w W : World} {A A3 : Option Addr} {n c n3 c3 : Nat} (hg : w.heap[gw]? = some (.cells #[.slice A n c] 72 (0, 0))) (ho : w.ownsRow (gw + 1) 5 1 (.slice A n c) n (bvs s)) (hn : s.length = n) (hb : RowKit.Below w.heap.size w W)
    (hl : news.length = n3) (hL : Lies W W.heap.size A3 (bvs news)) (hm : n + n3 ≤ 1000000) :
    ∃ A4 n4 c4 w4, (Builtin.append_ #[22, 22] 22 #[.slice A n c, .slice A3 n3 c3]).run Try.prog W = .ok (.slice A4 n4 c4) w4 ∧ (∀ i, w4.frozen? ⟨gw, i, none⟩ = false) ∧ (∃ u, w4.cell? ⟨gw, 0, none⟩ = some u) ∧ Wrote gw w (s ++ news) (w4.setCell ⟨gw, 0, none⟩ (.slice A4 n4 c4)) := by
  obtain ⟨i0, hi, hz0, hz1, hz2⟩ := info_parts Try.info5
  have hlt := (Array.getElem?_eq_some_iff.1 hg).1
  have hs := hb.size
  obtain ⟨v4, w4, hrun, ho4, hg4, hv4⟩ := run_append_lst (P := Try.prog) (w := W) (gw + 1) 22 22 5 i0 (.int .u8 0) 1 Try.underlying22 hi hz0 hz1 hz2 rfl (.slice A n c) n (bvs s) (own_below ho hb) W.heap.size A3 n3 c3 (bvs news) (by rw [bvs_length]; exact hl) hL (bvs_one _) (by unfold maxLen; omega) (by omega) (by omega)
  have hne : some gw ≠ Value.ownBlock (.slice A n c) := by
    rcases A with _ | a
    · intro h; cases h
    · intro h
      have := (ho.lt a.block rfl).1
      injection h with h
      omega
  have hgW : W.heap[gw]? = some (.cells #[.slice A n c] 72 (0, 0)) := (hb.block gw hlt).trans hg
  have hg5 : w4.heap[gw]? = some (.cells #[.slice A n c] 72 (0, 0)) := (hg4.block gw (by omega) hne).trans hgW
  obtain ⟨A4, c4, rfl, h41, h42⟩ := own_slice ho4
  have hlen : (s ++ news).length = n + n3 := by rw [List.length_append]; omega
  refine ⟨_, _, _, w4, hrun, row_frozen hg5, ⟨_, cell_of_row w4 gw 0 _ _ _ hg5⟩, ⟨A4, c4, ?_, ?_⟩, ?_⟩
  · rw [hlen, heap_setCell_row hg5]; rfl
  · rw [hlen, bvs_append]
    exact ownsRow_setCell_below ho4 (a := ⟨gw, 0, none⟩) (Nat.lt_succ_self _) _
  · refine (OnlyE.of_below hb).trans ?_
    exact OnlyE.trans (b := w4) ⟨hg4.size, fun k hk hn => hg4.block k hk (fun h => hn (.inr ⟨_, cell_of_row w gw 0 _ _ _ hg, h.symm⟩)), (RowKit.Below.refl 0 W).grown hg4 (Nat.zero_le _) (fun _ _ => Nat.zero_le _)⟩ (onlyE_set (D := OutB gw w) (.inl rfl) 0 _)

theorem put_lit (A2 : Option Addr) (m c2 : Nat) (ns : List Nat) (w : World) (hl2 : ns.length = m) (hm : m ≤ 1000) (h2 : Lies w w.heap.size A2 (uvs ns)) (hns : ∀ x ∈ ns, x < 18446744073709551616) :
    Calls Try.prog 31 #[.slice none 0 0, .slice A2 m c2] w fun e w' => ∃ A n c, e = .returned (.slice A n c) ∧ Hid ((encs ns).length = n) ∧ (n ≤ 9000 ∧ n ≤ c ∧ c ≤ maxLen) ∧ Lies w' w'.heap.size A (bvs (encs ns)) ∧ RowKit.Below w.heap.size w w' :=
  (put_any none A2 0 0 m c2 [] ns w rfl (by omega) Lies.nil hl2 hm h2 hns).mono fun e w' h => by
    obtain ⟨A, n, c, rfl, hn, q1, q2, ho, hb⟩ := h
    have hL := Lies.of_own ho
    have h1 := hn.out
    have h2 := encs_len hns
    rw [bvs_length] at h1
    rw [List.nil_append] at h1 hL
    exact ⟨A, n, c, rfl, h1, ⟨by omega, q1, q2⟩, hL, hb⟩

set_option maxRecDepth 100000 in
set_option maxHeartbeats 1600000 in
theorem wrPut_any {gw : Nat} {s : List UInt8} (A2 : Option Addr) (m c2 : Nat) (ns : List Nat) (w : World) (h : Wr gw s w) (hs : s.length ≤ 100000) (hl2 : ns.length = m) (hm : m ≤ 1000) (h2 : Lies w w.heap.size A2 (uvs ns)) (hns : ∀ x ∈ ns, x < 18446744073709551616) :
    Calls Try.prog 93 #[.pointer (some ⟨gw, 0, none⟩), .slice A2 m c2] w fun e w' => (∃ v, e = .returned v) ∧ Wrote gw w (s ++ encs ns) w' := by
  have HLT := Lib.hid h.lt
  obtain ⟨A, c, hg, ho⟩ := h
  generalize hn : s.length = n at hg ho hs
  have c0 : w.cell? ⟨gw, 0, none⟩ = some (.slice A n c) := cell_of_row w gw 0 _ _ _ hg
  have HG := Lib.hid hg
  have HO := Lib.hid ho
  have HN := Lib.hid hn
  have HL2 := Lib.hid hl2
  have HNS := Lib.hid hns
  have HA2 := Lib.hid h2
  clear hg ho hn hl2 hns h2
  go_enter Try.func93, Try.ntmps93
  go_wp2_with fail
  refine wp_region_held_drew (S := fun _ => True) (by kernel_rfl) trivial (fun hHeld => ?_)
  refine wpAnyH_takeAt (i := 0) (d := 4) (v := ?_) rfl rfl (by kernel_rfl) (by kernel_rfl) (by kernel_rfl) (fun _ _ _ h => h) (Or.inl ⟨by rfl, ?_⟩) hHeld ?_
  rotate_left
  · (intro _ hSw; go_simp; try with_reducible rfl)
  simp only [List.setIfInBounds_toArray, List.set_cons_zero, List.set_cons_succ]
  refine wpAnyH_takeAt (i := 1) (d := 5) (v := ?_) rfl rfl (by kernel_rfl) (by kernel_rfl) (by kernel_rfl) (fun _ _ _ h => h) (Or.inl ⟨by rfl, ?_⟩) hHeld ?_
  rotate_left
  · (intro _ hSw; go_simp; try with_reducible rfl)
  simp only [List.setIfInBounds_toArray, List.set_cons_zero, List.set_cons_succ]
  refine wpAnyH_takeAt (i := 2) (d := 6) (v := ?_) rfl rfl (by kernel_rfl) (by kernel_rfl) (by kernel_rfl) (fun _ _ _ h => h) (Or.inl ⟨by rfl, ?_⟩) hHeld ?_
  rotate_left
  · (intro _ hSw; go_simp; try with_reducible rfl)
  simp only [List.setIfInBounds_toArray, List.set_cons_zero, List.set_cons_succ]
  refine wpAnyH_takeAt (i := 3) (d := 7) (v := ?_) rfl rfl (by kernel_rfl) (by kernel_rfl) (by kernel_rfl) (fun _ _ _ h => h) (Or.inl ⟨by rfl, ?_⟩) hHeld ?_
  rotate_left
  · (intro _ hSw; go_simp; try with_reducible rfl)
  simp only [List.setIfInBounds_toArray, List.set_cons_zero, List.set_cons_succ]
  refine wpAnyH_takeAt (i := 5) (d := 9) (v := ?_) rfl rfl (by kernel_rfl) (by kernel_rfl) (by kernel_rfl) (fun _ _ _ h => h) (Or.inl ⟨by rfl, ?_⟩) hHeld ?_
  rotate_left
  · (intro _ hSw; go_simp; try with_reducible rfl)
  simp only [List.setIfInBounds_toArray, List.set_cons_zero, List.set_cons_succ]
  refine wpAnyH_ready (rs := [4, 6]) (by kernel_rfl) (by simp) ?_
  refine AllReadyH.cons rfl (fun K hK => ?_) (AllReadyH.cons rfl (fun K hK => ?_) AllReadyH.nil)
  · go_simp
    refine hK.out _ _ trivial (fun hHeld => ?_)
    clear hK K
    refine wpAnyH_ready (rs := [6]) (by kernel_rfl) (by simp) ?_
    refine AllReadyH.cons rfl (fun K hK => ?_) AllReadyH.nil
    go_simp
    refine (put_lit A2 m c2 ns _ HL2.out (by omega) (HA2.out.drew) HNS.out).mono ?_
    rintro e w1 ⟨A3, n3, c3, rfl, hn3, ⟨hm3, -, -⟩, hL3, hb3⟩
    have hb3' : RowKit.Below w.heap.size w w1 := (RowKit.Below.refl _ _).drew.trans hb3
    obtain ⟨A4, n4, c4, w4, hrun, fz4, ⟨u4, hu4⟩, hW4⟩ := wr_append (n3 := n3) (c3 := c3) HG.out HO.out HN.out hb3' hn3.out hL3 (by omega)
    have c1 : w1.cell? ⟨gw, 0, none⟩ = some (.slice A n c) := (hb3'.cell (p := ⟨gw, 0, none⟩) HLT.out).trans c0
    have HW4 := Lib.hid hW4
    clear hW4 hL3 hb3 hn3
    refine hK.out _ _ trivial (fun hHeld => ?_)
    clear hK K
    refine wpAnyH_ready (rs := [7]) (by kernel_rfl) (by simp) ?_
    refine AllReadyH.cons rfl (fun K hK => ?_) AllReadyH.nil
    refine wp_append_step (s := .tmp 8) (x := .tmp 10) (t := 22) rfl rfl rfl rfl hrun ?_
    go_simp
    refine hK.out _ _ trivial (fun hHeld => ?_)
    clear hK K hrun
    refine wpAnyH_takeAt (i := 8) (d := 12) (v := ?_) rfl rfl (by kernel_rfl) (by kernel_rfl) (by kernel_rfl) (fun _ _ _ h => h) (Or.inl ⟨by rfl, ?_⟩) hHeld ?_
    rotate_left
    · (intro _ hSw; go_simp; try with_reducible rfl)
    simp only [List.setIfInBounds_toArray, List.set_cons_zero, List.set_cons_succ]
    refine wpAnyH_takeAt (i := 9) (d := 13) (v := ?_) rfl rfl (by kernel_rfl) (by kernel_rfl) (by kernel_rfl) (fun _ _ _ h => h) (Or.inl ⟨by rfl, ?_⟩) hHeld ?_
    rotate_left
    · (intro _ hSw; go_simp; try with_reducible rfl)
    simp only [List.setIfInBounds_toArray, List.set_cons_zero, List.set_cons_succ]
    refine wpAnyH_ready (rs := [10]) (by kernel_rfl) (by simp) ?_
    refine AllReadyH.cons rfl (fun K hK => ?_) AllReadyH.nil
    go_simp
    refine hK.out _ _ trivial (fun hHeld => ?_)
    clear hK K
    refine wpAnyH_done (by kernel_rfl) ?_ _
    go_wp2
    go_end0
    exact ⟨⟨_, rfl⟩, HW4.out⟩
  · go_simp
    refine (put_lit A2 m c2 ns _ HL2.out (by omega) (HA2.out.drew) HNS.out).mono ?_
    rintro e w1 ⟨A3, n3, c3, rfl, hn3, ⟨hm3, -, -⟩, hL3, hb3⟩
    have hb3' : RowKit.Below w.heap.size w w1 := (RowKit.Below.refl _ _).drew.trans hb3
    obtain ⟨A4, n4, c4, w4, hrun, fz4, ⟨u4, hu4⟩, hW4⟩ := wr_append (n3 := n3) (c3 := c3) HG.out HO.out HN.out hb3' hn3.out hL3 (by omega)
    have c1 : w1.cell? ⟨gw, 0, none⟩ = some (.slice A n c) := (hb3'.cell (p := ⟨gw, 0, none⟩) HLT.out).trans c0
    have HW4 := Lib.hid hW4
    clear hW4 hL3 hb3 hn3
    refine hK.out _ _ trivial (fun hHeld => ?_)
    clear hK K
    refine wpAnyH_ready (rs := [4]) (by kernel_rfl) (by simp) ?_
    refine AllReadyH.cons rfl (fun K hK => ?_) AllReadyH.nil
    go_simp
    refine hK.out _ _ trivial (fun hHeld => ?_)
    clear hK K
    refine wpAnyH_ready (rs := [7]) (by kernel_rfl) (by simp) ?_
    refine AllReadyH.cons rfl (fun K hK => ?_) AllReadyH.nil
    refine wp_append_step (s := .tmp 8) (x := .tmp 10) (t := 22) rfl rfl rfl rfl hrun ?_
    go_simp
    refine hK.out _ _ trivial (fun hHeld => ?_)
    clear hK K hrun
    refine wpAnyH_takeAt (i := 8) (d := 12) (v := ?_) rfl rfl (by kernel_rfl) (by kernel_rfl) (by kernel_rfl) (fun _ _ _ h => h) (Or.inl ⟨by rfl, ?_⟩) hHeld ?_
    rotate_left
    · (intro _ hSw; go_simp; try with_reducible rfl)
    simp only [List.setIfInBounds_toArray, List.set_cons_zero, List.set_cons_succ]
    refine wpAnyH_takeAt (i := 9) (d := 13) (v := ?_) rfl rfl (by kernel_rfl) (by kernel_rfl) (by kernel_rfl) (fun _ _ _ h => h) (Or.inl ⟨by rfl, ?_⟩) hHeld ?_
    rotate_left
    · (intro _ hSw; go_simp; try with_reducible rfl)
    simp only [List.setIfInBounds_toArray, List.set_cons_zero, List.set_cons_succ]
    refine wpAnyH_ready (rs := [10]) (by kernel_rfl) (by simp) ?_
    refine AllReadyH.cons rfl (fun K hK => ?_) AllReadyH.nil
    go_simp
    refine hK.out _ _ trivial (fun hHeld => ?_)
    clear hK K
    refine wpAnyH_done (by kernel_rfl) ?_ _
    go_wp2
    go_end0
    exact ⟨⟨_, rfl⟩, HW4.out⟩

end Go.Proofs.Ytbfjfidodpgohaa

/- Plain facts on the sum of bytes (CRC-32), bit by bit, over registers of 32 bits: it is linear, its step is one to one, the sum of marked bytes is always the same, and what is turned within 32 bits in a row is told. Nothing of the program is named here. -/
namespace Go.Proofs.Ytbfjfidodpgohaa

def poly : BitVec 32 := 0xedb88320#32
def ones : BitVec 32 := 0xffffffff#32

/-- The register goes down by one bit; if the bit that fell out was set, the polynomial is put onto it. -/
def down (x : BitVec 32) : BitVec 32 := (x >>> 1) ^^^ (if x.getLsbD 0 then poly else 0#32)
def bit (b : Bool) : BitVec 32 := if b then 1#32 else 0#32

/-- Bits go through the register, one behind the other. -/
def feed (r : BitVec 32) : List Bool → BitVec 32
  | [] => r
  | b :: t => feed (down (r ^^^ bit b)) t

theorem feed_append (r : BitVec 32) (a b : List Bool) : feed r (a ++ b) = feed (feed r a) b := by
  induction a generalizing r with
  | nil => rfl
  | cons x t ih => simp only [List.cons_append, feed, ih]

theorem xor4 (a b c d : BitVec 32) : (a ^^^ b) ^^^ (c ^^^ d) = (a ^^^ c) ^^^ (b ^^^ d) := by
  rw [BitVec.xor_assoc, BitVec.xor_assoc, ← BitVec.xor_assoc b, BitVec.xor_comm b c, BitVec.xor_assoc c]

theorem down_xor (x y : BitVec 32) : down (x ^^^ y) = down x ^^^ down y := by
  unfold down
  rw [BitVec.ushiftRight_xor_distrib, BitVec.getLsbD_xor, xor4]
  congr 1
  cases x.getLsbD 0 <;> cases y.getLsbD 0 <;> simp

theorem down_zero : down 0#32 = 0#32 := by decide

theorem bit_xor (a b : Bool) : bit (a ^^ b) = bit a ^^^ bit b := by cases a <;> cases b <;> decide

/-- Both registers, and both rows of bits, may be put onto one another. -/
theorem feed_xor : ∀ (a b : List Bool) (r s : BitVec 32), a.length = b.length → feed (r ^^^ s) (List.zipWith (· ^^ ·) a b) = feed r a ^^^ feed s b
  | [], [], _, _, _ => rfl
  | [], _ :: _, _, _, h => by simp at h
  | _ :: _, [], _, _, h => by simp at h
  | x :: a, y :: b, r, s, h => by
    simp only [List.zipWith_cons_cons, feed]
    rw [bit_xor, xor4, down_xor]
    exact feed_xor a b _ _ (by simpa using h)

theorem down_inj {x : BitVec 32} (h : down x = 0#32) : x = 0#32 := by
  unfold down at h
  by_cases hb : x.getLsbD 0 = true
  · rw [if_pos hb] at h
    have h31 := congrArg (fun z : BitVec 32 => z.getLsbD 31) h
    simp [poly] at h31
  · rw [if_neg hb, BitVec.xor_zero] at h
    apply BitVec.eq_of_getLsbD_eq
    intro i hi
    rcases Nat.eq_zero_or_pos i with h0 | h0
    · subst h0; simpa using hb
    · have := congrArg (fun z : BitVec 32 => z.getLsbD (i - 1)) h
      simp only [BitVec.getLsbD_ushiftRight] at this
      rw [show 1 + (i - 1) = i by omega] at this
      simpa using this

def downs : Nat → BitVec 32 → BitVec 32
  | 0, x => x
  | n + 1, x => downs n (down x)

theorem downs_xor (n : Nat) (x y : BitVec 32) : downs n (x ^^^ y) = downs n x ^^^ downs n y := by
  induction n generalizing x y with
  | zero => rfl
  | succ n ih => simp only [downs, down_xor, ih]

theorem downs_inj : ∀ (n : Nat) {x : BitVec 32}, downs n x = 0#32 → x = 0#32
  | 0, _, h => h
  | n + 1, _, h => down_inj (downs_inj n h)

theorem downs_zero (n : Nat) : downs n 0#32 = 0#32 := by
  induction n with
  | zero => rfl
  | succ n ih => rw [downs, down_zero, ih]

/-- Bits that aren't set only let the register go down. -/
theorem feed_none (n : Nat) (r : BitVec 32) : feed r (List.replicate n false) = downs n r := by
  induction n generalizing r with
  | zero => rfl
  | succ n ih =>
    rw [List.replicate_succ, feed, show bit false = 0#32 from rfl, BitVec.xor_zero, ih]; rfl

/-- The number that bits say, the lowest one first. -/
def word : List Bool → BitVec 32
  | [] => 0#32
  | b :: t => bit b ^^^ (word t <<< 1)

theorem downs_succ (n : Nat) (x : BitVec 32) : downs (n + 1) x = downs n (down x) := rfl

/-- Of up to 32 bits: they may be put onto the register all at once. -/
theorem down_shl (x : BitVec 32) (h : x.getLsbD 31 = false) : down (x <<< 1) = x := by
  have h0 : (x <<< 1).getLsbD 0 = false := by simp
  unfold down
  rw [h0]
  simp only [Bool.false_eq_true, if_false, BitVec.xor_zero]
  apply BitVec.eq_of_getLsbD_eq
  intro i hi
  simp only [BitVec.getLsbD_ushiftRight, BitVec.getLsbD_shiftLeft]
  by_cases h1 : i = 31
  · subst h1; rw [h]; simp
  · have : 1 + i < 32 := by omega
    simp [this]

theorem word_high (l : List Bool) (i : Nat) (h : l.length ≤ i) (hi : i < 32) : (word l).getLsbD i = false := by
  induction l generalizing i with
  | nil => simp [word]
  | cons b t ih =>
    have h1 : t.length ≤ i - 1 := by simp at h; omega
    have h2 : 0 < i := by simp at h; omega
    have hb : (bit b).getLsbD i = false := by
      cases b
      · simp [bit]
      · have : i ≠ 0 := by omega
        simp [bit, this]
    simp only [word, BitVec.getLsbD_xor, hb, BitVec.getLsbD_shiftLeft]
    have := ih (i - 1) h1 (by omega)
    have h3 : ¬ i < 1 := by omega
    simp [this, hi]

theorem feed_word : ∀ (l : List Bool) (r : BitVec 32), l.length ≤ 32 → feed r l = downs l.length (r ^^^ word l)
  | [], r, _ => by simp [feed, downs, word]
  | b :: t, r, h => by
    have hl : t.length ≤ 31 := by simpa using h
    rw [feed, feed_word t _ (by omega), List.length_cons, downs_succ]
    congr 1
    rw [word, ← BitVec.xor_assoc, down_xor (r ^^^ bit b), down_shl _ (word_high t 31 hl (by omega))]

/-- A byte's bits, the lowest one first. -/
def bitsOf (c : UInt8) : List Bool := (List.range 8).map fun k => c.toNat.testBit k
def bitsAll (l : List UInt8) : List Bool := l.flatMap bitsOf
theorem bitsOf_length (c : UInt8) : (bitsOf c).length = 8 := by simp [bitsOf]
theorem bitsAll_length (l : List UInt8) : (bitsAll l).length = 8 * l.length := by
  induction l with
  | nil => rfl
  | cons c t ih =>
    have : bitsAll (c :: t) = bitsOf c ++ bitsAll t := rfl
    rw [this, List.length_append, bitsOf_length, ih, List.length_cons]; omega
theorem bitsAll_append (a b : List UInt8) : bitsAll (a ++ b) = bitsAll a ++ bitsAll b := List.flatMap_append

/-- The register behind bytes, and their sum. -/
def regOf (l : List UInt8) : BitVec 32 := feed ones (bitsAll l)
def sumOf (l : List UInt8) : BitVec 32 := ~~~ regOf l

/-- A number's four bytes, the lowest one first. -/
def four (s : BitVec 32) : List UInt8 := [UInt8.ofNat (s.toNat % 256), UInt8.ofNat (s.toNat / 256 % 256), UInt8.ofNat (s.toNat / 65536 % 256), UInt8.ofNat (s.toNat / 16777216 % 256)]
def markOf (l : List UInt8) : List UInt8 := l ++ four (sumOf l)

theorem xor_not (r : BitVec 32) : r ^^^ ~~~ r = ones := by
  have e : ones = BitVec.allOnes 32 := by decide
  rw [e]
  apply BitVec.eq_of_getLsbD_eq
  intro i hi
  rw [BitVec.getLsbD_xor, BitVec.getLsbD_not, BitVec.getLsbD_allOnes]
  simp [hi]

theorem foot_value : ~~~ (downs 32 ones) = 0x2144df1c#32 := by decide

theorem word_get : ∀ (l : List Bool) (i : Nat), i < 32 → (word l).getLsbD i = (l[i]?).getD false
  | [], i, _ => by simp [word]
  | b :: t, 0, _ => by cases b <;> simp [word, bit]
  | b :: t, i + 1, h => by
    have hb : (bit b).getLsbD (i + 1) = false := by cases b <;> simp [bit]
    simp only [word, BitVec.getLsbD_xor, hb, BitVec.getLsbD_shiftLeft]
    have := word_get t i (by omega)
    simp [this, h]

theorem four_byte (n k : Nat) : (UInt8.ofNat (n % 256)).toNat.testBit k = (decide (k < 8) && n.testBit k) := by
  have : (UInt8.ofNat (n % 256)).toNat = n % 2 ^ 8 := by simp [UInt8.toNat_ofNat']
  rw [this, Nat.testBit_mod_two_pow]

theorem word_four (s : BitVec 32) : word (bitsAll (four s)) = s := by
  apply BitVec.eq_of_getLsbD_eq
  intro i hi
  rw [word_get _ _ hi]
  have e : bitsAll (four s) = (List.range 32).map fun k => s.toNat.testBit k := by
    have h1 : ∀ n : Nat, bitsOf (UInt8.ofNat (n % 256)) = (List.range 8).map fun k => n.testBit k := fun n => by
      unfold bitsOf
      refine List.map_congr_left fun k hk => ?_
      rw [four_byte]
      simp at hk
      simp [hk]
    have h2 : bitsAll (four s) = bitsOf (UInt8.ofNat (s.toNat % 256)) ++ (bitsOf (UInt8.ofNat (s.toNat / 256 % 256)) ++ (bitsOf (UInt8.ofNat (s.toNat / 65536 % 256)) ++ (bitsOf (UInt8.ofNat (s.toNat / 16777216 % 256)) ++ []))) := rfl
    have d1 : ∀ k, (s.toNat / 256).testBit k = s.toNat.testBit (8 + k) := fun k => by rw [show s.toNat / 256 = s.toNat / 2 ^ 8 from rfl, Nat.testBit_div_two_pow, Nat.add_comm]
    have d2 : ∀ k, (s.toNat / 65536).testBit k = s.toNat.testBit (16 + k) := fun k => by rw [show s.toNat / 65536 = s.toNat / 2 ^ 16 from rfl, Nat.testBit_div_two_pow, Nat.add_comm]
    have d3 : ∀ k, (s.toNat / 16777216).testBit k = s.toNat.testBit (24 + k) := fun k => by rw [show s.toNat / 16777216 = s.toNat / 2 ^ 24 from rfl, Nat.testBit_div_two_pow, Nat.add_comm]
    rw [h2, h1, h1, h1, h1]
    simp only [d1, d2, d3]
    rfl
  rw [e]
  simp only [List.getElem?_map, List.getElem?_range hi, Option.map_some, Option.getD_some]
  rfl

theorem four_length (s : BitVec 32) : (four s).length = 4 := rfl

/-- The register behind marked bytes is always the same. -/
theorem reg_mark (l : List UInt8) : regOf (markOf l) = downs 32 ones := by
  unfold regOf markOf
  have hl : (bitsAll (four (sumOf l))).length = 32 := by rw [bitsAll_length, four_length]
  rw [bitsAll_append, feed_append, feed_word _ _ (by omega), hl, word_four]
  show downs 32 (regOf l ^^^ ~~~ regOf l) = _
  rw [xor_not]

/-- P2.3: the sum of marked bytes. -/
theorem sum_mark (l : List UInt8) : sumOf (markOf l) = 0x2144df1c#32 := by
  unfold sumOf
  rw [reg_mark]
  exact foot_value

/-- P2.2: whatever is turned within 32 bits in a row, the register behind all is another one. -/
theorem reg_turned (a : List Bool) (e : List Bool) (p q : Nat) (he : e.length ≤ 32) (hw : word e ≠ 0#32) (hlen : a.length = p + e.length + q) (r : BitVec 32) :
    feed r (List.zipWith (· ^^ ·) a (List.replicate p false ++ (e ++ List.replicate q false))) ≠ feed r a := by
  have h := feed_xor a (List.replicate p false ++ (e ++ List.replicate q false)) r 0#32 (by simp; omega)
  rw [BitVec.xor_zero] at h
  rw [h]
  have h2 : feed 0#32 (List.replicate p false ++ (e ++ List.replicate q false)) = downs q (downs e.length (word e)) := by
    rw [feed_append, feed_none, downs_zero, feed_append, feed_word _ _ he, BitVec.zero_xor, feed_none]
  rw [h2]
  intro hx
  have h3 : downs q (downs e.length (word e)) = 0#32 := by
    have := congrArg (fun z => feed r a ^^^ z) hx
    simp only [← BitVec.xor_assoc, BitVec.xor_self, BitVec.zero_xor] at this
    exact this
  exact hw (downs_inj _ (downs_inj _ h3))

/-- The step with a bit, as it is told: the register goes down; if the bit that fell out isn't the one that comes in, the polynomial is put onto it. -/
theorem down_bit (r : BitVec 32) (b : Bool) : down (r ^^^ bit b) = (r >>> 1) ^^^ (if r.getLsbD 0 ^^ b then poly else 0#32) := by
  have hs : (bit b) >>> 1 = 0#32 := by cases b <;> decide
  have hl : (bit b).getLsbD 0 = b := by cases b <;> decide
  unfold down
  rw [BitVec.ushiftRight_xor_distrib, hs, BitVec.xor_zero, BitVec.getLsbD_xor, hl]

theorem getLsbD_zero_nat (r : BitVec 32) : r.getLsbD 0 = decide (r.toNat % 2 = 1) := by
  rw [BitVec.getLsbD]
  simp [Nat.testBit_zero]

theorem poly_nat : poly.toNat = 3988292384 := by decide

/-- The same in numbers. -/
theorem down_bit_nat (r : BitVec 32) (b : Bool) : (down (r ^^^ bit b)).toNat = if (decide (r.toNat % 2 = 1) ^^ b) then (r.toNat / 2) ^^^ 3988292384 else r.toNat / 2 := by
  rw [down_bit, getLsbD_zero_nat]
  have h2 : (r >>> 1).toNat = r.toNat / 2 := by rw [BitVec.toNat_ushiftRight, Nat.shiftRight_eq_div_pow]
  split
  · rw [BitVec.toNat_xor, h2, poly_nat]
  · rw [BitVec.xor_zero, h2]

theorem downs_add (m n : Nat) (x : BitVec 32) : downs (m + n) x = downs n (downs m x) := by
  induction m generalizing x with
  | zero => simp [downs]
  | succ m ih => rw [Nat.succ_add, downs, ih]; rfl

theorem downs_shl : ∀ (n : Nat) (y : BitVec 32), n ≤ 32 → (∀ i, 32 - n ≤ i → i < 32 → y.getLsbD i = false) → downs n (y <<< n) = y
  | 0, y, _, _ => by simp [downs]
  | n + 1, y, hn, h => by
    rw [downs_succ, BitVec.shiftLeft_add, down_shl]
    · exact downs_shl n y (by omega) (fun i hi hi2 => h i (by omega) hi2)
    · rw [BitVec.getLsbD_shiftLeft]
      have := h (31 - n) (by omega) (by omega)
      simp [this]

theorem split_low (n : Nat) (x : BitVec 32) : x = ((x >>> n) <<< n) ^^^ (x &&& (BitVec.ofNat 32 (2 ^ n - 1))) := by
  apply BitVec.eq_of_getLsbD_eq
  intro i hi
  rw [BitVec.getLsbD_xor, BitVec.getLsbD_shiftLeft, BitVec.getLsbD_ushiftRight, BitVec.getLsbD_and, BitVec.getLsbD_ofNat]
  by_cases h : i < n
  · simp [h, hi]
  · have h2 : n + (i - n) = i := by omega
    simp [h, hi, h2]

/-- n steps at once: what the lowest n bits do, put onto the register that has gone down by n. -/
theorem downs_table (n : Nat) (hn : n ≤ 32) (x : BitVec 32) : downs n x = (x >>> n) ^^^ downs n (x &&& BitVec.ofNat 32 (2 ^ n - 1)) := by
  conv => lhs; rw [split_low n x]
  rw [downs_xor, downs_shl n _ hn]
  intro i hi hi2
  rw [BitVec.getLsbD_ushiftRight]
  exact BitVec.getLsbD_of_ge _ _ (by omega)

theorem word_byte (c : UInt8) : word (bitsOf c) = BitVec.ofNat 32 c.toNat := by
  have hc := c.toNat_lt
  apply BitVec.eq_of_getLsbD_eq
  intro i hi
  rw [word_get _ _ hi, BitVec.getLsbD_ofNat]
  by_cases h : i < 8
  · simp [bitsOf, h, hi]
  · have h2 : c.toNat.testBit i = false := Nat.testBit_lt_two_pow (Nat.lt_of_lt_of_le hc (by
      have : (2 : Nat) ^ 8 ≤ 2 ^ i := Nat.pow_le_pow_right (by decide) (by omega)
      exact this))
    have h3 : ((List.range 8).map fun k => c.toNat.testBit k)[i]? = none := by simp; omega
    simp [bitsOf, h2, h3]

/-- A byte goes through the register. -/
theorem feed_byte (r : BitVec 32) (c : UInt8) : feed r (bitsOf c) = downs 8 (r ^^^ BitVec.ofNat 32 c.toNat) := by
  rw [feed_word _ _ (by rw [bitsOf_length]; omega), bitsOf_length, word_byte]

/-- .. four bits at a time. -/
theorem feed_nibbles (r : BitVec 32) (c : UInt8) : feed r (bitsOf c) = downs 4 (downs 4 (r ^^^ BitVec.ofNat 32 c.toNat)) := by
  rw [feed_byte, show (8 : Nat) = 4 + 4 from rfl, downs_add]

theorem regOf_snoc (l : List UInt8) (c : UInt8) : regOf (l ++ [c]) = feed (regOf l) (bitsOf c) := by
  unfold regOf
  rw [bitsAll_append, feed_append]
  simp [bitsAll]

/-- Bytes of which the last four are the sum of those ahead leave the one register. -/
theorem fits_reg (a : List UInt8) : regOf (a ++ four (sumOf a)) = downs 32 ones := reg_mark a

end Go.Proofs.Ytbfjfidodpgohaa
