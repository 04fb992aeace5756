/- The document's Same: two frames that are the same are told so. -/
import Derived.Test.YtbfjfidodpgohaaT21
import Derived.Deep.RegionWith

namespace Go.Proofs.Ytbfjfidodpgohaa
open Go.RowKit Go.Sort

/-- A cell that stays. -/
def KeepC (W : World) (b i : Nat) (u : Value) : Prop := ∀ V : World, RowKit.Below W.heap.size W V → V.cell? ⟨b, i, none⟩ = some u
theorem KeepC.on {W W' : World} {b i : Nat} {u : Value} (h : KeepC W b i u) (hb : RowKit.Below W.heap.size W W') : KeepC W' b i u := fun V hV => h V (hb.trans (hV.mono hb.size))

/-- Where the slices of two frames lie. -/
structure SameK (B : Nat) (p q : Fin 5 → Hd) (F : Fr) (W : World) : Prop where
  a0 : KeepC W B 11 (.slice (p 0).1 F.est.length (p 0).2)
  b0 : KeepC W (B + 1) 11 (.slice (q 0).1 F.est.length (q 0).2)
  a1 : KeepC W B 12 (.slice (p 1).1 F.aux.length (p 1).2)
  b1 : KeepC W (B + 1) 12 (.slice (q 1).1 F.aux.length (q 1).2)
  a2 : KeepC W B 13 (.slice (p 2).1 F.done.length (p 2).2)
  b2 : KeepC W (B + 1) 13 (.slice (q 2).1 F.done.length (q 2).2)
  a3 : KeepC W B 14 (.slice (p 3).1 F.held.length (p 3).2)
  b3 : KeepC W (B + 1) 14 (.slice (q 3).1 F.held.length (q 3).2)
  a4 : KeepC W B 15 (.slice (p 4).1 F.data.length (p 4).2)
  b4 : KeepC W (B + 1) 15 (.slice (q 4).1 F.data.length (q 4).2)
  sa : KeepS W (p 4).1 F.data.length (p 4).2 F.data
  sb : KeepS W (q 4).1 F.data.length (q 4).2 F.data
theorem SameK.on {B : Nat} {p q : Fin 5 → Hd} {F : Fr} {W W' : World} (h : SameK B p q F W) (hb : RowKit.Below W.heap.size W W') : SameK B p q F W' :=
  ⟨h.a0.on hb, h.b0.on hb, h.a1.on hb, h.b1.on hb, h.a2.on hb, h.b2.on hb, h.a3.on hb, h.b3.on hb, h.a4.on hb, h.b4.on hb, keepS_later h.sa hb, keepS_later h.sb hb⟩

def NumsGot (W : World) (l : List Nat) (e : Ending) (W' : World) : Prop := ∃ A n c, e = .returned (.slice A n c) ∧ KeepS W' A n c (encs (l.length :: l)) ∧ RowKit.Below W.heap.size W W'

theorem nums_keep {w0 : World} {A : Option Addr} {c : Nat} (l : List Nat) (hn : l.length ≤ 100) (hns : ∀ x ∈ l, x < 18446744073709551616) (h : Lies w0 w0.heap.size A (uvs l)) (W : World) (hb : RowKit.Below w0.heap.size w0 W) :
    Calls Try.prog 28 #[.slice A l.length c] W (NumsGot W l) :=
  (refNums_any A l.length c l W rfl hn (h.later hb) hns).mono fun e W' hO => by
    obtain ⟨A', n', c', rfl, hn', -, -, ho, hb'⟩ := hO
    exact ⟨A', n', c', rfl, keepS_of (by have := hn'.out; rw [bvs_length] at this; exact this) (Lies.of_own ho), hb'⟩

theorem runs_same {w0 : World} {A1 A2 : Option Addr} {c1 c2 : Nat} (l : List Rn) (hn : l.length ≤ 100) (h1 : Lies w0 w0.heap.size A1 (flat encRn l)) (h2 : Lies w0 w0.heap.size A2 (flat encRn l)) (W : World) (hb : RowKit.Below w0.heap.size w0 W) :
    Calls Try.prog 27 #[.slice A1 l.length c1, .slice A2 l.length c2] W fun e W' => e = .returned (.bool true) ∧ RowKit.Below W.heap.size W W' :=
  (sameRns_any A1 A2 l.length c1 l.length c2 l l W rfl rfl (by omega) (h1.later hb) (h2.later hb)).mono fun e W' h => by
    rw [decide_eq_true rfl] at h
    exact h

theorem Sl.lies' {w : World} {D : Nat → Prop} {A : Option Addr} {n c : Nat} {xs : List Value} (h : SlA w D A n c xs) {W : World} (hb : RowKit.Below w.heap.size w W) : Lies W W.heap.size A xs := h.lies.later hb

/-- Two frames that are boxed: what is known of them. -/
def SameB (w : World) (F : Fr) (w0 : World) : Prop :=
  RowKit.Below w.heap.size w w0 ∧ ∃ p q : Fin 5 → Hd, SameK w.heap.size p q F w0 ∧
    (∀ W, RowKit.Below w0.heap.size w0 W → Calls Try.prog 27 #[.slice (p 0).1 F.est.length (p 0).2, .slice (q 0).1 F.est.length (q 0).2] W fun e W' => e = .returned (.bool true) ∧ RowKit.Below W.heap.size W W') ∧
    (∀ W, RowKit.Below w0.heap.size w0 W → Calls Try.prog 27 #[.slice (p 1).1 F.aux.length (p 1).2, .slice (q 1).1 F.aux.length (q 1).2] W fun e W' => e = .returned (.bool true) ∧ RowKit.Below W.heap.size W W') ∧
    (∀ W, RowKit.Below w0.heap.size w0 W → Calls Try.prog 28 #[.slice (p 2).1 F.done.length (p 2).2] W (NumsGot W F.done)) ∧
    (∀ W, RowKit.Below w0.heap.size w0 W → Calls Try.prog 28 #[.slice (q 2).1 F.done.length (q 2).2] W (NumsGot W F.done)) ∧
    (∀ W, RowKit.Below w0.heap.size w0 W → Calls Try.prog 28 #[.slice (p 3).1 F.held.length (p 3).2] W (NumsGot W F.held)) ∧
    (∀ W, RowKit.Below w0.heap.size w0 W → Calls Try.prog 28 #[.slice (q 3).1 F.held.length (q 3).2] W (NumsGot W F.held))

theorem FrV.slots {w : World} {D : Nat → Prop} {F : Fr} {cs : Array Value} (h : FrV w D F cs) : ∃ p : Fin 5 → Hd, cs = frCells F (.slice (p 0).1 F.est.length (p 0).2) (.slice (p 1).1 F.aux.length (p 1).2) (.slice (p 2).1 F.done.length (p 2).2) (.slice (p 3).1 F.held.length (p 3).2) (.slice (p 4).1 F.data.length (p 4).2) ∧
    Lies w w.heap.size (p 0).1 (flat encRn F.est) ∧ Lies w w.heap.size (p 1).1 (flat encRn F.aux) ∧ Lies w w.heap.size (p 2).1 (uvs F.done) ∧ Lies w w.heap.size (p 3).1 (uvs F.held) ∧ Lies w w.heap.size (p 4).1 (bvs F.data) := by
  obtain ⟨ve, vx, vn, vh, vd, rfl, ⟨A1, c1, rfl, h1⟩, ⟨A2, c2, rfl, h2⟩, ⟨A3, c3, rfl, h3⟩, ⟨A4, c4, rfl, h4⟩, ⟨A5, c5, rfl, h5⟩⟩ := h
  exact ⟨fun i => match i with | 0 => (A1, c1) | 1 => (A2, c2) | 2 => (A3, c3) | 3 => (A4, c4) | 4 => (A5, c5), rfl, h1.lies, h2.lies, h3.lies, h4.lies, h5.lies⟩

/-- These cells are this frame's, and its slices lie there (whatever their room is). -/
def FrL (w : World) (F : Fr) (cs : Array Value) : Prop := ∃ p : Fin 5 → Hd, cs = frCells F (.slice (p 0).1 F.est.length (p 0).2) (.slice (p 1).1 F.aux.length (p 1).2) (.slice (p 2).1 F.done.length (p 2).2) (.slice (p 3).1 F.held.length (p 3).2) (.slice (p 4).1 F.data.length (p 4).2) ∧
    Lies w w.heap.size (p 0).1 (flat encRn F.est) ∧ Lies w w.heap.size (p 1).1 (flat encRn F.aux) ∧ Lies w w.heap.size (p 2).1 (uvs F.done) ∧ Lies w w.heap.size (p 3).1 (uvs F.held) ∧ Lies w w.heap.size (p 4).1 (bvs F.data)
theorem FrL.on {w w' : World} {F : Fr} {cs : Array Value} (h : FrL w F cs) (hb : RowKit.Below w.heap.size w w') : FrL w' F cs := by
  obtain ⟨p, e, h0, h1, h2, h3, h4⟩ := h
  exact ⟨p, e, h0.later hb, h1.later hb, h2.later hb, h3.later hb, h4.later hb⟩
theorem FrL.size {w : World} {F : Fr} {cs : Array Value} (h : FrL w F cs) : cs.size = 16 := by
  obtain ⟨p, rfl, _⟩ := h
  rfl

theorem same_boxed {w w0 : World} {F : Fr} {csa csb : Array Value} (hok : F.Ok) (ha : FrL w F csa) (hb : FrL w F csb) (hw : World.alloc (World.alloc w (.cells csa 33)) (.cells csb 33) = w0) : SameB w F w0 := by
  obtain ⟨hs, hG, hc1, hc2⟩ := box2 w w0 _ _ _ _ hw
  have hB := hG.below
  obtain ⟨p, rfl, p0, p1, p2, p3, p4⟩ := ha
  obtain ⟨q, rfl, q0, q1, q2, q3, q4⟩ := hb
  have ka : ∀ i u, (frCells F (.slice (p 0).1 F.est.length (p 0).2) (.slice (p 1).1 F.aux.length (p 1).2) (.slice (p 2).1 F.done.length (p 2).2) (.slice (p 3).1 F.held.length (p 3).2) (.slice (p 4).1 F.data.length (p 4).2))[i]? = some u → KeepC w0 w.heap.size i u := fun i u hu V hV => (hV.cell (p := ⟨w.heap.size, i, none⟩) (by show w.heap.size < _; omega)).trans (hc1 i u hu)
  have kb : ∀ i u, (frCells F (.slice (q 0).1 F.est.length (q 0).2) (.slice (q 1).1 F.aux.length (q 1).2) (.slice (q 2).1 F.done.length (q 2).2) (.slice (q 3).1 F.held.length (q 3).2) (.slice (q 4).1 F.data.length (q 4).2))[i]? = some u → KeepC w0 (w.heap.size + 1) i u := fun i u hu V hV => (hV.cell (p := ⟨w.heap.size + 1, i, none⟩) (by show w.heap.size + 1 < _; omega)).trans (hc2 i u hu)
  refine ⟨hB, p, q, ⟨ka 11 _ rfl, kb 11 _ rfl, ka 12 _ rfl, kb 12 _ rfl, ka 13 _ rfl, kb 13 _ rfl, ka 14 _ rfl, kb 14 _ rfl, ka 15 _ rfl, kb 15 _ rfl, keepS_of rfl (p4.later hB), keepS_of rfl (q4.later hB)⟩, ?_, ?_, ?_, ?_, ?_, ?_⟩
  · exact fun W hW => runs_same F.est hok.est (p0.later hB) (q0.later hB) W hW
  · exact fun W hW => runs_same F.aux hok.aux (p1.later hB) (q1.later hB) W hW
  · exact fun W hW => nums_keep F.done hok.done hok.doneN (p2.later hB) W hW
  · exact fun W hW => nums_keep F.done hok.done hok.doneN (q2.later hB) W hW
  · exact fun W hW => nums_keep F.held hok.held hok.heldN (p3.later hB) W hW
  · exact fun W hW => nums_keep F.held hok.held hok.heldN (q3.later hB) W hW

theorem FrL.at_ {w : World} {F : Fr} {cs : Array Value} (h : FrL w F cs) : cs[0]? = some (.int .u8 (F.kind : Int)) ∧ cs[1]? = some (.int .u8 (F.src : Int)) ∧ cs[2]? = some (.int .u8 (F.dst : Int)) ∧ cs[3]? = some (.int .u8 (F.id.f : Int)) ∧ cs[4]? = some (.int .u64 (F.id.s : Int)) ∧ cs[5]? = some (.int .u64 (F.seq : Int)) ∧ cs[6]? = some (.int .u32 (F.at_ : Int)) ∧ cs[7]? = some (.int .u32 (F.of_ : Int)) ∧ cs[8]? = some (.int .u32 (F.size : Int)) ∧ cs[9]? = some (.int .u64 (F.inst : Int)) ∧ cs[10]? = some (.int .u64 (F.rnd : Int)) := by
  obtain ⟨p, rfl, _⟩ := h
  exact ⟨rfl, rfl, rfl, rfl, rfl, rfl, rfl, rfl, rfl, rfl, rfl⟩

set_option maxRecDepth 100000 in
set_option maxHeartbeats 6400000 in
theorem refSame_any (F : Fr) (csa csb : Array Value) (w : World) (hok : F.Ok) (ha : FrL w F csa) (hb : FrL w F csb) :
    Calls Try.prog 10 #[.agg csa, .agg csb] w fun e w' => e = .returned (.bool true) ∧ RowKit.Below w.heap.size w w' := by
  have mixed := mixedOrders
  have hSB : Hid (∀ w0, World.alloc (World.alloc w (.cells csa 33)) (.cells csb 33) = w0 → SameB w F w0) := fun w0 h => same_boxed hok ha hb h
  obtain ⟨x0, x1, x2, x3, x4, x5, x6, x7, x8, x9, x10⟩ := ha.at_
  obtain ⟨y0, y1, y2, y3, y4, y5, y6, y7, y8, y9, y10⟩ := hb.at_
  have hid : ∀ W, (binOp .neq 28 (.agg #[.int .u8 (F.id.f : Int), .int .u64 (F.id.s : Int)]) (.agg #[.int .u8 (F.id.f : Int), .int .u64 (F.id.s : Int)])).run Try.prog W = .ok (.bool false) W := fun W => by
    rw [neqId F.id F.id W, decide_eq_true rfl]
    rfl
  have hgd := guardId
  clear hok ha hb mixed
  go_enter Try.func10, Try.ntmps10
  go_upto_region 3 with fail
  clear x0 y0 x1 y1 x2 y2 x3 y3 x4 y4 x5 y5 x6 y6 x7 y7 x8 y8 x9 y9 x10 y10 hid hgd
  generalize hw0 : World.alloc (World.alloc w _) _ = w0
  obtain ⟨hB0, p, q, hK0, hE, hX, hDa, hDb, hHa, hHb⟩ := hSB.out w0 hw0
  have HB0 := Lib.hid hB0
  have HK00 := Lib.hid hK0
  have HE := Lib.hid hE
  have HX := Lib.hid hX
  have HDa := Lib.hid hDa
  have HDb := Lib.hid hDb
  have HHa := Lib.hid hHa
  have HHb := Lib.hid hHb
  clear hw0 hSB hB0 hK0 hE hX hDa hDb hHa hHb
  have hbd : RowKit.Below w0.heap.size w0 w0.drew := (RowKit.Below.refl _ _).drew
  refine wp_region_held_drew (S := fun V => RowKit.Below w0.heap.size w0 V) (by kernel_rfl) hbd (fun hHeld => ?_)
  have HQ0 : Hid (RowKit.Below w0.heap.size w0 w0.drew) := hbd
  have HK0 := Lib.hid HK00.out
  clear hbd
  generalize w0.drew = X0 at hHeld HQ0 ⊢
  obtain ⟨ka, kb, kc, kd, ke, kf, kg, kh, ki, kj, sa, sb⟩ := HK0.out
  unfold KeepC at ka kb kc kd ke kf kg kh ki kj
  unfold KeepS at sa sb
  refine wpAnyH_takeAt (i := 0) (d := 79) (v := ?_) rfl rfl (by kernel_rfl) (by kernel_rfl) (by kernel_rfl) (fun _ _ _ h => h) (Or.inl ⟨by rfl, ?_⟩) hHeld ?_
  rotate_left
  · (intro _ hSw; go_simp; try with_reducible rfl)
  simp only [List.setIfInBounds_toArray, List.set_cons_zero, List.set_cons_succ]
  refine wpAnyH_takeAt (i := 1) (d := 80) (v := ?_) rfl rfl (by kernel_rfl) (by kernel_rfl) (by kernel_rfl) (fun _ _ _ h => h) (Or.inl ⟨by rfl, ?_⟩) hHeld ?_
  rotate_left
  · (intro _ hSw; go_simp; try with_reducible rfl)
  simp only [List.setIfInBounds_toArray, List.set_cons_zero, List.set_cons_succ]
  refine wpAnyH_takeAt (i := 2) (d := 81) (v := ?_) rfl rfl (by kernel_rfl) (by kernel_rfl) (by kernel_rfl) (fun _ _ _ h => h) (Or.inl ⟨by rfl, ?_⟩) hHeld ?_
  rotate_left
  · (intro _ hSw; go_simp; try with_reducible rfl)
  simp only [List.setIfInBounds_toArray, List.set_cons_zero, List.set_cons_succ]
  refine wpAnyH_takeAt (i := 3) (d := 82) (v := ?_) rfl rfl (by kernel_rfl) (by kernel_rfl) (by kernel_rfl) (fun _ _ _ h => h) (Or.inl ⟨by rfl, ?_⟩) hHeld ?_
  rotate_left
  · (intro _ hSw; go_simp; try with_reducible rfl)
  simp only [List.setIfInBounds_toArray, List.set_cons_zero, List.set_cons_succ]
  refine wpAnyH_ready (rs := [4]) (by kernel_rfl) (by simp) ?_
  refine AllReadyH.cons rfl (fun K hK => ?_) AllReadyH.nil
  go_simp
  refine (HE.out X0 HQ0.out).mono ?_
  rintro e X1 ⟨rfl, hbx⟩
  have HQ1 : Hid (RowKit.Below w0.heap.size w0 X1) := HQ0.out.trans (hbx.mono HQ0.out.size)
  have HK1 := Lib.hid (HK0.out.on HQ1.out)
  have hS1 := HQ1.out
  clear ka kb kc kd ke kf kg kh ki kj sa sb hbx
  obtain ⟨ka, kb, kc, kd, ke, kf, kg, kh, ki, kj, sa, sb⟩ := HK1.out
  unfold KeepC at ka kb kc kd ke kf kg kh ki kj
  unfold KeepS at sa sb
  refine hK.out _ _ hS1 (fun _ => ?_)
  clear hK K
  refine wpAnyH_mono (S' := fun V => RowKit.Below X1.heap.size X1 V) (fun V hV => hS1.trans (RowKit.Below.mono hV hS1.size)) _ _ _ _ ?_
  clear hS1 hHeld
  have hHeld := RowKit.Below.refl X1.heap.size X1
  refine wpAnyH_takeAt (i := 5) (d := 84) (v := ?_) rfl rfl (by kernel_rfl) (by kernel_rfl) (by kernel_rfl) (fun _ _ _ h => h) (Or.inl ⟨by rfl, ?_⟩) hHeld ?_
  rotate_left
  · (intro _ hSw; go_simp; try with_reducible rfl)
  simp only [List.setIfInBounds_toArray, List.set_cons_zero, List.set_cons_succ]
  refine wpAnyH_takeAt (i := 6) (d := 85) (v := ?_) rfl rfl (by kernel_rfl) (by kernel_rfl) (by kernel_rfl) (fun _ _ _ h => h) (Or.inl ⟨by rfl, ?_⟩) hHeld ?_
  rotate_left
  · (intro _ hSw; go_simp; try with_reducible rfl)
  simp only [List.setIfInBounds_toArray, List.set_cons_zero, List.set_cons_succ]
  refine wpAnyH_takeAt (i := 7) (d := 86) (v := ?_) rfl rfl (by kernel_rfl) (by kernel_rfl) (by kernel_rfl) (fun _ _ _ h => h) (Or.inl ⟨by rfl, ?_⟩) hHeld ?_
  rotate_left
  · (intro _ hSw; go_simp; try with_reducible rfl)
  simp only [List.setIfInBounds_toArray, List.set_cons_zero, List.set_cons_succ]
  refine wpAnyH_takeAt (i := 8) (d := 87) (v := ?_) rfl rfl (by kernel_rfl) (by kernel_rfl) (by kernel_rfl) (fun _ _ _ h => h) (Or.inl ⟨by rfl, ?_⟩) hHeld ?_
  rotate_left
  · (intro _ hSw; go_simp; try with_reducible rfl)
  simp only [List.setIfInBounds_toArray, List.set_cons_zero, List.set_cons_succ]
  refine wpAnyH_takeAt (i := 9) (d := 88) (v := ?_) rfl rfl (by kernel_rfl) (by kernel_rfl) (by kernel_rfl) (fun _ _ _ h => h) (Or.inl ⟨by rfl, ?_⟩) hHeld ?_
  rotate_left
  · (intro _ hSw; go_simp; try with_reducible rfl)
  simp only [List.setIfInBounds_toArray, List.set_cons_zero, List.set_cons_succ]
  refine wpAnyH_ready (rs := [10]) (by kernel_rfl) (by simp) ?_
  refine AllReadyH.cons rfl (fun K hK => ?_) AllReadyH.nil
  go_simp
  refine (HX.out X1 HQ1.out).mono ?_
  rintro e X2 ⟨rfl, hbx⟩
  have HQ2 : Hid (RowKit.Below w0.heap.size w0 X2) := HQ1.out.trans (hbx.mono HQ1.out.size)
  have HK2 := Lib.hid (HK0.out.on HQ2.out)
  have hS2 : RowKit.Below X1.heap.size X1 X2 := hbx
  clear ka kb kc kd ke kf kg kh ki kj sa sb hbx
  obtain ⟨ka, kb, kc, kd, ke, kf, kg, kh, ki, kj, sa, sb⟩ := HK2.out
  unfold KeepC at ka kb kc kd ke kf kg kh ki kj
  unfold KeepS at sa sb
  refine hK.out _ _ hS2 (fun _ => ?_)
  clear hK K
  refine wpAnyH_mono (S' := fun V => RowKit.Below X2.heap.size X2 V) (fun V hV => hS2.trans (RowKit.Below.mono hV hS2.size)) _ _ _ _ ?_
  clear hS2 hHeld
  have hHeld := RowKit.Below.refl X2.heap.size X2
  refine wpAnyH_takeAt (i := 11) (d := 90) (v := ?_) rfl rfl (by kernel_rfl) (by kernel_rfl) (by kernel_rfl) (fun _ _ _ h => h) (Or.inl ⟨by rfl, ?_⟩) hHeld ?_
  rotate_left
  · (intro _ hSw; go_simp; try with_reducible rfl)
  simp only [List.setIfInBounds_toArray, List.set_cons_zero, List.set_cons_succ]
  refine wpAnyH_takeAt (i := 12) (d := 91) (v := ?_) rfl rfl (by kernel_rfl) (by kernel_rfl) (by kernel_rfl) (fun _ _ _ h => h) (Or.inl ⟨by rfl, ?_⟩) hHeld ?_
  rotate_left
  · (intro _ hSw; go_simp; try with_reducible rfl)
  simp only [List.setIfInBounds_toArray, List.set_cons_zero, List.set_cons_succ]
  refine wpAnyH_takeAt (i := 13) (d := 92) (v := ?_) rfl rfl (by kernel_rfl) (by kernel_rfl) (by kernel_rfl) (fun _ _ _ h => h) (Or.inl ⟨by rfl, ?_⟩) hHeld ?_
  rotate_left
  · (intro _ hSw; go_simp; try with_reducible rfl)
  simp only [List.setIfInBounds_toArray, List.set_cons_zero, List.set_cons_succ]
  refine wpAnyH_takeAt (i := 14) (d := 93) (v := ?_) rfl rfl (by kernel_rfl) (by kernel_rfl) (by kernel_rfl) (fun _ _ _ h => h) (Or.inl ⟨by rfl, ?_⟩) hHeld ?_
  rotate_left
  · (intro _ hSw; go_simp; try with_reducible rfl)
  simp only [List.setIfInBounds_toArray, List.set_cons_zero, List.set_cons_succ]
  refine wpAnyH_takeAt (i := 17) (d := 96) (v := ?_) rfl rfl (by kernel_rfl) (by kernel_rfl) (by kernel_rfl) (fun _ _ _ h => h) (Or.inl ⟨by rfl, ?_⟩) hHeld ?_
  rotate_left
  · (intro _ hSw; go_simp; try with_reducible rfl)
  simp only [List.setIfInBounds_toArray, List.set_cons_zero, List.set_cons_succ]
  refine wpAnyH_takeAt (i := 18) (d := 97) (v := ?_) rfl rfl (by kernel_rfl) (by kernel_rfl) (by kernel_rfl) (fun _ _ _ h => h) (Or.inl ⟨by rfl, ?_⟩) hHeld ?_
  rotate_left
  · (intro _ hSw; go_simp; try with_reducible rfl)
  simp only [List.setIfInBounds_toArray, List.set_cons_zero, List.set_cons_succ]
  refine wpAnyH_ready (rs := [15]) (by kernel_rfl) (by simp) ?_
  refine AllReadyH.cons rfl (fun K hK => ?_) AllReadyH.nil
  go_simp
  refine (HDa.out X2 HQ2.out).mono ?_
  rintro e X3 ⟨A1, n1, c1, rfl, s1, hbx⟩
  unfold KeepS at s1
  have HQ3 : Hid (RowKit.Below w0.heap.size w0 X3) := HQ2.out.trans (hbx.mono HQ2.out.size)
  have HK3 := Lib.hid (HK0.out.on HQ3.out)
  have hS3 : RowKit.Below X2.heap.size X2 X3 := hbx
  clear ka kb kc kd ke kf kg kh ki kj sa sb hbx
  obtain ⟨ka, kb, kc, kd, ke, kf, kg, kh, ki, kj, sa, sb⟩ := HK3.out
  unfold KeepC at ka kb kc kd ke kf kg kh ki kj
  unfold KeepS at sa sb
  refine hK.out _ _ hS3 (fun _ => ?_)
  clear hK K
  refine wpAnyH_mono (S' := fun V => RowKit.Below X3.heap.size X3 V) (fun V hV => hS3.trans (RowKit.Below.mono hV hS3.size)) _ _ _ _ ?_
  clear hS3 hHeld
  have hHeld := RowKit.Below.refl X3.heap.size X3
  refine wpAnyH_takeAt (i := 16) (d := 95) (v := ?_) rfl rfl (by kernel_rfl) (by kernel_rfl) (by kernel_rfl) (fun _ _ _ h => h) (Or.inl ⟨by rfl, ?_⟩) hHeld ?_
  rotate_left
  · (intro _ hSw; go_simp; try with_reducible rfl)
  simp only [List.setIfInBounds_toArray, List.set_cons_zero, List.set_cons_succ]
  refine wpAnyH_ready (rs := [19]) (by kernel_rfl) (by simp) ?_
  refine AllReadyH.cons rfl (fun K hK => ?_) AllReadyH.nil
  go_simp
  refine (HDb.out X3 HQ3.out).mono ?_
  rintro e X4 ⟨A2, n2, c2, rfl, s2, hbx⟩
  unfold KeepS at s2
  have HQ4 : Hid (RowKit.Below w0.heap.size w0 X4) := HQ3.out.trans (hbx.mono HQ3.out.size)
  have HK4 := Lib.hid (HK0.out.on HQ4.out)
  have hS4 : RowKit.Below X3.heap.size X3 X4 := hbx
  clear ka kb kc kd ke kf kg kh ki kj sa sb hbx
  obtain ⟨ka, kb, kc, kd, ke, kf, kg, kh, ki, kj, sa, sb⟩ := HK4.out
  unfold KeepC at ka kb kc kd ke kf kg kh ki kj
  unfold KeepS at sa sb
  refine hK.out _ _ hS4 (fun _ => ?_)
  clear hK K
  refine wpAnyH_mono (S' := fun V => RowKit.Below X4.heap.size X4 V) (fun V hV => hS4.trans (RowKit.Below.mono hV hS4.size)) _ _ _ _ ?_
  clear hS4 hHeld
  have hHeld := RowKit.Below.refl X4.heap.size X4
  refine wpAnyH_takeAt (i := 20) (d := 99) (v := ?_) rfl rfl (by kernel_rfl) (by kernel_rfl) (by kernel_rfl) (fun _ _ _ h => h) (Or.inl ⟨by rfl, ?_⟩) hHeld ?_
  rotate_left
  · (intro _ hSw; go_simp; try with_reducible rfl)
  simp only [List.setIfInBounds_toArray, List.set_cons_zero, List.set_cons_succ]
  refine wpAnyH_takeAt (i := 21) (d := 100) (v := ?_) rfl rfl (by kernel_rfl) (by kernel_rfl) (by kernel_rfl) (fun _ _ _ h => h) (Or.inl ⟨by rfl, ?_⟩) hHeld ?_
  rotate_left
  · (intro _ hSw; go_simp; try with_reducible rfl)
  simp only [List.setIfInBounds_toArray, List.set_cons_zero, List.set_cons_succ]
  refine wpAnyH_takeAt (i := 22) (d := 101) (v := ?_) rfl rfl (by kernel_rfl) (by kernel_rfl) (by kernel_rfl) (fun _ _ _ h => h) (Or.inl ⟨by rfl, ?_⟩) hHeld ?_
  rotate_left
  · (intro _ hSw; go_simp; try with_reducible rfl)
  simp only [List.setIfInBounds_toArray, List.set_cons_zero, List.set_cons_succ]
  refine wpAnyH_takeAt (i := 23) (d := 102) (v := ?_) rfl rfl (by kernel_rfl) (by kernel_rfl) (by kernel_rfl) (fun _ _ _ h => h) (Or.inl ⟨by rfl, ?_⟩) hHeld ?_
  rotate_left
  · (intro _ hSw; go_simp; try with_reducible rfl)
  simp only [List.setIfInBounds_toArray, List.set_cons_zero, List.set_cons_succ]
  refine wpAnyH_takeAt (i := 24) (d := 103) (v := ?_) rfl rfl (by kernel_rfl) (by kernel_rfl) (by kernel_rfl) (fun _ _ _ h => h) (Or.inl ⟨by rfl, ?_⟩) hHeld ?_
  rotate_left
  · (intro _ hSw; go_simp; try with_reducible rfl)
  simp only [List.setIfInBounds_toArray, List.set_cons_zero, List.set_cons_succ]
  refine wpAnyH_takeAt (i := 25) (d := 104) (v := ?_) rfl rfl (by kernel_rfl) (by kernel_rfl) (by kernel_rfl) (fun _ _ _ h => h) (Or.inl ⟨by rfl, ?_⟩) hHeld ?_
  rotate_left
  · (intro _ hSw; go_simp; try with_reducible rfl)
  simp only [List.setIfInBounds_toArray, List.set_cons_zero, List.set_cons_succ]
  refine wpAnyH_takeAt (i := 28) (d := 107) (v := ?_) rfl rfl (by kernel_rfl) (by kernel_rfl) (by kernel_rfl) (fun _ _ _ h => h) (Or.inl ⟨by rfl, ?_⟩) hHeld ?_
  rotate_left
  · (intro _ hSw; go_simp; try with_reducible rfl)
  simp only [List.setIfInBounds_toArray, List.set_cons_zero, List.set_cons_succ]
  refine wpAnyH_takeAt (i := 29) (d := 108) (v := ?_) rfl rfl (by kernel_rfl) (by kernel_rfl) (by kernel_rfl) (fun _ _ _ h => h) (Or.inl ⟨by rfl, ?_⟩) hHeld ?_
  rotate_left
  · (intro _ hSw; go_simp; try with_reducible rfl)
  simp only [List.setIfInBounds_toArray, List.set_cons_zero, List.set_cons_succ]
  refine wpAnyH_ready (rs := [26]) (by kernel_rfl) (by simp) ?_
  refine AllReadyH.cons rfl (fun K hK => ?_) AllReadyH.nil
  go_simp
  refine (HHa.out X4 HQ4.out).mono ?_
  rintro e X5 ⟨A3, n3, c3, rfl, s3, hbx⟩
  unfold KeepS at s3
  have HQ5 : Hid (RowKit.Below w0.heap.size w0 X5) := HQ4.out.trans (hbx.mono HQ4.out.size)
  have HK5 := Lib.hid (HK0.out.on HQ5.out)
  have hS5 : RowKit.Below X4.heap.size X4 X5 := hbx
  clear ka kb kc kd ke kf kg kh ki kj sa sb hbx
  obtain ⟨ka, kb, kc, kd, ke, kf, kg, kh, ki, kj, sa, sb⟩ := HK5.out
  unfold KeepC at ka kb kc kd ke kf kg kh ki kj
  unfold KeepS at sa sb
  refine hK.out _ _ hS5 (fun _ => ?_)
  clear hK K
  refine wpAnyH_mono (S' := fun V => RowKit.Below X5.heap.size X5 V) (fun V hV => hS5.trans (RowKit.Below.mono hV hS5.size)) _ _ _ _ ?_
  clear hS5 hHeld
  have hHeld := RowKit.Below.refl X5.heap.size X5
  refine wpAnyH_takeAt (i := 27) (d := 106) (v := ?_) rfl rfl (by kernel_rfl) (by kernel_rfl) (by kernel_rfl) (fun _ _ _ h => h) (Or.inl ⟨by rfl, ?_⟩) hHeld ?_
  rotate_left
  · (intro _ hSw; go_simp; try with_reducible rfl)
  simp only [List.setIfInBounds_toArray, List.set_cons_zero, List.set_cons_succ]
  refine wpAnyH_ready (rs := [30]) (by kernel_rfl) (by simp) ?_
  refine AllReadyH.cons rfl (fun K hK => ?_) AllReadyH.nil
  go_simp
  refine (HHb.out X5 HQ5.out).mono ?_
  rintro e X6 ⟨A4, n4, c4, rfl, s4, hbx⟩
  unfold KeepS at s4
  have HQ6 : Hid (RowKit.Below w0.heap.size w0 X6) := HQ5.out.trans (hbx.mono HQ5.out.size)
  have HK6 := Lib.hid (HK0.out.on HQ6.out)
  have hS6 : RowKit.Below X5.heap.size X5 X6 := hbx
  clear ka kb kc kd ke kf kg kh ki kj sa sb hbx
  obtain ⟨ka, kb, kc, kd, ke, kf, kg, kh, ki, kj, sa, sb⟩ := HK6.out
  unfold KeepC at ka kb kc kd ke kf kg kh ki kj
  unfold KeepS at sa sb
  refine hK.out _ _ hS6 (fun _ => ?_)
  clear hK K
  refine wpAnyH_mono (S' := fun V => RowKit.Below X6.heap.size X6 V) (fun V hV => hS6.trans (RowKit.Below.mono hV hS6.size)) _ _ _ _ ?_
  clear hS6 hHeld
  have hHeld := RowKit.Below.refl X6.heap.size X6
  refine wpAnyH_takeAt (i := 31) (d := 110) (v := ?_) rfl rfl (by kernel_rfl) (by kernel_rfl) (by kernel_rfl) (fun _ _ _ h => h) (Or.inl ⟨by rfl, ?_⟩) hHeld ?_
  rotate_left
  · (intro _ hSw; go_simp; try with_reducible rfl)
  simp only [List.setIfInBounds_toArray, List.set_cons_zero, List.set_cons_succ]
  refine wpAnyH_takeAt (i := 32) (d := 111) (v := ?_) rfl rfl (by kernel_rfl) (by kernel_rfl) (by kernel_rfl) (fun _ _ _ h => h) (Or.inl ⟨by rfl, ?_⟩) hHeld ?_
  rotate_left
  · (intro _ hSw; go_simp; try with_reducible rfl)
  simp only [List.setIfInBounds_toArray, List.set_cons_zero, List.set_cons_succ]
  refine wpAnyH_takeAt (i := 33) (d := 112) (v := ?_) rfl rfl (by kernel_rfl) (by kernel_rfl) (by kernel_rfl) (fun _ _ _ h => h) (Or.inl ⟨by rfl, ?_⟩) hHeld ?_
  rotate_left
  · (intro _ hSw; go_simp; try with_reducible rfl)
  simp only [List.setIfInBounds_toArray, List.set_cons_zero, List.set_cons_succ]
  refine wpAnyH_takeAt (i := 34) (d := 113) (v := ?_) rfl rfl (by kernel_rfl) (by kernel_rfl) (by kernel_rfl) (fun _ _ _ h => h) (Or.inl ⟨by rfl, ?_⟩) hHeld ?_
  rotate_left
  · (intro _ hSw; go_simp; try with_reducible rfl)
  simp only [List.setIfInBounds_toArray, List.set_cons_zero, List.set_cons_succ]
  refine wpAnyH_takeAt (i := 35) (d := 114) (v := ?_) rfl rfl (by kernel_rfl) (by kernel_rfl) (by kernel_rfl) (fun _ _ _ h => h) (Or.inl ⟨by rfl, ?_⟩) hHeld ?_
  rotate_left
  · (intro _ hSw; go_simp; try with_reducible rfl)
  simp only [List.setIfInBounds_toArray, List.set_cons_zero, List.set_cons_succ]
  refine wpAnyH_takeAt (i := 36) (d := 115) (v := ?_) rfl rfl (by kernel_rfl) (by kernel_rfl) (by kernel_rfl) (fun _ _ _ h => h) (Or.inl ⟨by rfl, ?_⟩) hHeld ?_
  rotate_left
  · (intro _ hSw; go_simp; try with_reducible rfl)
  simp only [List.setIfInBounds_toArray, List.set_cons_zero, List.set_cons_succ]
  refine wpAnyH_takeAt (i := 37) (d := 116) (v := ?_) rfl rfl (by kernel_rfl) (by kernel_rfl) (by kernel_rfl) (fun _ _ _ h => h) (Or.inl ⟨by rfl, ?_⟩) hHeld ?_
  rotate_left
  · (intro _ hSw; go_simp; try with_reducible rfl)
  simp only [List.setIfInBounds_toArray, List.set_cons_zero, List.set_cons_succ]
  refine wpAnyH_takeAt (i := 38) (d := 117) (v := ?_) rfl rfl (by kernel_rfl) (by kernel_rfl) (by kernel_rfl) (fun _ _ _ h => h) (Or.inl ⟨by rfl, ?_⟩) hHeld ?_
  rotate_left
  · (intro _ hSw; go_simp; try with_reducible rfl)
  simp only [List.setIfInBounds_toArray, List.set_cons_zero, List.set_cons_succ]
  refine wpAnyH_takeAt (i := 39) (d := 118) (v := ?_) rfl rfl (by kernel_rfl) (by kernel_rfl) (by kernel_rfl) (fun _ _ _ h => h) (Or.inl ⟨by rfl, ?_⟩) hHeld ?_
  rotate_left
  · (intro _ hSw; go_simp; try with_reducible rfl)
  simp only [List.setIfInBounds_toArray, List.set_cons_zero, List.set_cons_succ]
  refine wpAnyH_takeAt (i := 40) (d := 119) (v := ?_) rfl rfl (by kernel_rfl) (by kernel_rfl) (by kernel_rfl) (fun _ _ _ h => h) (Or.inl ⟨by rfl, ?_⟩) hHeld ?_
  rotate_left
  · (intro _ hSw; go_simp; try with_reducible rfl)
  simp only [List.setIfInBounds_toArray, List.set_cons_zero, List.set_cons_succ]
  refine wpAnyH_takeAt (i := 41) (d := 120) (v := ?_) rfl rfl (by kernel_rfl) (by kernel_rfl) (by kernel_rfl) (fun _ _ _ h => h) (Or.inl ⟨by rfl, ?_⟩) hHeld ?_
  rotate_left
  · (intro _ hSw; go_simp; try with_reducible rfl)
  simp only [List.setIfInBounds_toArray, List.set_cons_zero, List.set_cons_succ]
  refine wpAnyH_takeAt (i := 42) (d := 121) (v := ?_) rfl rfl (by kernel_rfl) (by kernel_rfl) (by kernel_rfl) (fun _ _ _ h => h) (Or.inl ⟨by rfl, ?_⟩) hHeld ?_
  rotate_left
  · (intro _ hSw; go_simp; try with_reducible rfl)
  simp only [List.setIfInBounds_toArray, List.set_cons_zero, List.set_cons_succ]
  refine wpAnyH_takeAt (i := 43) (d := 4) (v := ?_) rfl rfl (by kernel_rfl) (by kernel_rfl) (by kernel_rfl) (fun _ _ _ h => h) (Or.inl ⟨by rfl, ?_⟩) hHeld ?_
  rotate_left
  · (intro _ hSw; go_simp; try with_reducible rfl)
  simp only [List.setIfInBounds_toArray, List.set_cons_zero, List.set_cons_succ]
  refine wpAnyH_done (by kernel_rfl) ?_ _
  go_wp2
  go_ret
  exact ⟨rfl, HB0.out.trans (HQ6.out.mono HB0.out.size)⟩

end Go.Proofs.Ytbfjfidodpgohaa
