/- Stage 16: words (picked out of elder texts). -/
import Derived.Test.YtmnjedpnhilndaaSlD
import Derived.Test.YtmnjedpnhilndaaStr
import Derived.BigQuiet
import Derived.Deep.Cut
import Derived.Deep.CutRange
import Derived.Deep.MidRow
import Derived.Deep.QuietTactic
import Derived.Deep.RegionWith
import Derived.Deep.Strs
import Derived.DeepKeys4
import Derived.IntWalk
import Derived.Laws.OwnMore
import Derived.Laws.Rows
import Derived.Laws.Tables
import Derived.Lib.Hide
import Derived.Lib.SmallJoins
import Derived.Maps.Ext
import Derived.Maps.RangeWalk
import Derived.OpenShut
import Derived.Shelf.Abstract
import Derived.Shelf.SlSortCmp.QuietGrown
import Derived.Shelf.SlicesE.Clone
import Derived.WalkKit
import Derived.WalkLawsBesides
import Derived.WalkSpells
namespace Go.Proofs.Ytmnjedpnhilndaa
open Go.RowKit Go.Sort Go.ChangeShapes Go.WideShapes Go.ChangeAt

/-- A frame, and where its five slices lie. -/
structure Pf where
  F : Fr
  p : Fin 5 → Hd

def Pf.cs (x : Pf) : Array Value := frCells x.F (.slice (x.p 0).1 x.F.est.length (x.p 0).2) (.slice (x.p 1).1 x.F.aux.length (x.p 1).2) (.slice (x.p 2).1 x.F.done.length (x.p 2).2) (.slice (x.p 3).1 x.F.held.length (x.p 3).2) (.slice (x.p 4).1 x.F.data.length (x.p 4).2)

def encPf (x : Pf) : List Value := x.cs.toList

theorem encPf_len (x : Pf) : (encPf x).length = 16 := rfl

theorem Pf.size (x : Pf) : x.cs.size = 16 := rfl

theorem encPf_one (x : Pf) : ∀ v ∈ encPf x, v.oneCell' = true := by
  intro v hv
  simp only [encPf, Pf.cs, frCells, List.mem_cons, List.not_mem_nil, or_false] at hv
  rcases hv with rfl | rfl | rfl | rfl | rfl | rfl | rfl | rfl | rfl | rfl | rfl | rfl | rfl | rfl | rfl | rfl <;> rfl

theorem Pf.one (x : Pf) : x.cs.all (·.oneCell') = true := all_oneCell_toArray (encPf_one x)

/-- Its slices lie outside of D. -/
def Pf.X (w : World) (D : Nat → Prop) (x : Pf) : Prop :=
  LiesX w D (x.p 0).1 (flat encRn x.F.est) ∧ LiesX w D (x.p 1).1 (flat encRn x.F.aux) ∧ LiesX w D (x.p 2).1 (uvs x.F.done) ∧ LiesX w D (x.p 3).1 (uvs x.F.held) ∧ LiesX w D (x.p 4).1 (bvs x.F.data)

theorem Pf.X.kept {w w' : World} {D : Nat → Prop} {x : Pf} (h : x.X w D) (ho : OnlyE w w' D) : x.X w' D := ⟨h.1.kept ho, h.2.1.kept ho, h.2.2.1.kept ho, h.2.2.2.1.kept ho, h.2.2.2.2.kept ho⟩

theorem Pf.X.widen {w : World} {D D' : Nat → Prop} {x : Pf} (h : x.X w D) (hD : ∀ k, D' k → w.heap.size ≤ k ∨ D k) : x.X w D' := ⟨h.1.widen hD, h.2.1.widen hD, h.2.2.1.widen hD, h.2.2.2.1.widen hD, h.2.2.2.2.widen hD⟩

theorem Pf.X.on {w w' : World} {D : Nat → Prop} {x : Pf} (h : x.X w D) (hb : RowKit.Below w.heap.size w w') : x.X w' D := h.kept (OnlyE.of_below hb)

theorem Pf.X.frl {w : World} {D : Nat → Prop} {x : Pf} (h : x.X w D) : FrL w x.F x.cs := ⟨x.p, rfl, h.1.lies, h.2.1.lies, h.2.2.1.lies, h.2.2.2.1.lies, h.2.2.2.2.lies⟩

theorem Pf.X.mono {w : World} {D D' : Nat → Prop} {x : Pf} (h : x.X w D) (hD : ∀ k, D' k → D k) : x.X w D' := h.widen fun k hk => .inr (hD k hk)

theorem FrX.pf {w : World} {D : Nat → Prop} {F : Fr} {cs : Array Value} (h : FrX w D F cs) : ∃ x : Pf, x.F = F ∧ cs = x.cs ∧ x.X w D := by
  obtain ⟨p, rfl, h0, h1, h2, h3, h4⟩ := h
  exact ⟨⟨F, p⟩, rfl, rfl, h0, h1, h2, h3, h4⟩

theorem FrV.pf {w : World} {D : Nat → Prop} {F : Fr} {cs : Array Value} (h : FrV w D F cs) : ∃ x : Pf, x.F = F ∧ cs = x.cs ∧ x.X w D := by
  obtain ⟨ve, vx, vn, vh, vd, rfl, ⟨A1, c1, rfl, -, -, h1⟩, ⟨A2, c2, rfl, -, -, h2⟩, ⟨A3, c3, rfl, -, -, h3⟩, ⟨A4, c4, rfl, -, -, h4⟩, ⟨A5, c5, rfl, -, -, h5⟩⟩ := h
  exact ⟨⟨F, fun i => match i with | 0 => (A1, c1) | 1 => (A2, c2) | 2 => (A3, c3) | 3 => (A4, c4) | 4 => (A5, c5)⟩, rfl, rfl, h1, h2, h3, h4, h5⟩

/-- Its slices are of the call's own. -/
def Pf.Own (w : World) (base : Nat) (x : Pf) : Prop :=
  w.ownsRow base 84 3 (.slice (x.p 0).1 x.F.est.length (x.p 0).2) x.F.est.length (flat encRn x.F.est) ∧ w.ownsRow base 84 3 (.slice (x.p 1).1 x.F.aux.length (x.p 1).2) x.F.aux.length (flat encRn x.F.aux) ∧
  w.ownsRow base 32 1 (.slice (x.p 2).1 x.F.done.length (x.p 2).2) x.F.done.length (uvs x.F.done) ∧ w.ownsRow base 32 1 (.slice (x.p 3).1 x.F.held.length (x.p 3).2) x.F.held.length (uvs x.F.held) ∧
  w.ownsRow base 5 1 (.slice (x.p 4).1 x.F.data.length (x.p 4).2) x.F.data.length (bvs x.F.data)

theorem Pf.Own.toX {w : World} {base : Nat} {D : Nat → Prop} {x : Pf} (h : x.Own w base) (hD : ∀ k, D k → k < base) : x.X w D := ⟨LiesX.of_own h.1 hD, LiesX.of_own h.2.1 hD, LiesX.of_own h.2.2.1 hD, LiesX.of_own h.2.2.2.1 hD, LiesX.of_own h.2.2.2.2 hD⟩

theorem Pf.Own.only {w w' : World} {base : Nat} {D : Nat → Prop} {x : Pf} (h : x.Own w base) (ho : OnlyE w w' D) (hD : ∀ k, D k → k < base ∨ w.heap.size ≤ k) : x.Own w' base := by
  have key : ∀ {k : Nat} {e : TypeId} {v : Value} {n : Nat} {xs : List Value}, w.ownsRow base e k v n xs → w'.ownsRow base e k v n xs := fun h => own_only h ho fun b hb hd => by
    have := h.lt b hb
    have := hD b hd
    omega
  exact ⟨key h.1, key h.2.1, key h.2.2.1, key h.2.2.2.1, key h.2.2.2.2⟩

theorem Pf.Own.on {w w' : World} {base : Nat} {x : Pf} (h : x.Own w base) (hb : RowKit.Below w.heap.size w w') : x.Own w' base := h.only (D := fun _ => False) (OnlyE.of_below hb) fun _ h => h.elim

theorem Pf.Own.base {w : World} {base base' : Nat} {x : Pf} (h : x.Own w base) (hb : base' ≤ base) : x.Own w base' := ⟨own_base h.1 hb |> fun h => h, own_base h.2.1 hb, own_base h.2.2.1 hb, own_base h.2.2.2.1 hb, own_base h.2.2.2.2 hb⟩

/-- .. in blocks below the heap's end. -/
theorem Pf.Own.X {w : World} {base : Nat} {D : Nat → Prop} {x : Pf} (h : x.Own w base) (hD : ∀ k, D k → k < base ∨ w.heap.size ≤ k) : x.X w D := by
  have h1 : x.X w (fun k => k < base) := h.toX fun _ h => h
  exact h1.widen fun k hk => (hD k hk).symm

theorem own_heap {w : World} {base k : Nat} {e : TypeId} {v : Value} {n : Nat} {xs : List Value} (h : w.ownsRow base e k v n xs) {g : Nat} (hg : v.ownBlock = some g) : ∃ cur, w.heap[g]? = some (.cells cur e (0, 0)) := by
  rcases h.2 with ⟨h1, _⟩ | ⟨g', c, cur, h1, _, h2, _⟩
  · rw [h1] at hg; simp [Value.ownBlock] at hg
  · rw [h1] at hg
    simp only [Value.ownBlock, Option.some.injEq] at hg
    subst hg
    exact ⟨cur, h2⟩

/-- The cells of an element of a row of frames. -/
theorem row_at {w : World} {B : Nat} {A : Option Addr} {l : List Pf} (h : Lies w B A (flat encPf l)) {i : Nat} (hi : i < l.length) : ∃ b off, A = some ⟨b, off, none⟩ ∧ b < B ∧ w.rangeAt b (off + i * 16) (encPf l[i]) := by
  have hne : flat encPf l ≠ [] := by
    intro h0
    have := congrArg List.length h0
    rw [flat_length encPf_len] at this
    simp at this
    omega
  obtain ⟨b, off, e, hb, hc⟩ := h hne
  refine ⟨b, off, e, hb, fun j v hv => ?_⟩
  have hj : j < 16 := by
    have := (List.getElem?_eq_some_iff.1 hv).1
    rwa [encPf_len] at this
  have := flat_at encPf_len l i j hj hi
  rw [hv] at this
  have h2 := hc (i * 16 + j) v this
  rwa [← Nat.add_assoc] at h2

theorem infoFr : (Try.prog.info? 40).map (·.size) = some 16 := by kernel_rfl

section
variable {ops : Array Oper} {rest : List Oper} {dst : Option Tmp} {ty : TypeId} {pos : String} {aft : Array Edge} {a : Act} {w : World} {Q : Exit → Act → World → Prop}

/-- An element of a row of frames is loaded whole. -/
theorem load_elem (y : Operand) {b o : Nat} {x : Pf} (hx : a.eval y = .pointer (some ⟨b, o, none⟩)) (hc : w.rangeAt b o (encPf x))
    (h : wpList Try.prog ops Q rest (a.put dst (.agg x.cs)) w) : wpList Try.prog ops Q (⟨dst, .load 40 y, ty, pos, aft, none⟩ :: rest) a w :=
  wpList_load_mid rfl _ y rfl b o hx (encPf x) _ hc Try.underlying40 rfl (infoFr.trans (by rw [encPf_len])) h

end

theorem Try.infoRn : (Try.prog.info? 84).map (fun i => (i.zero, i.size, i.bytes)) = some (some (.agg #[.int .u8 0, .int .u64 0, .int .u64 0]), 3, 24) := by kernel_rfl

theorem Try.infoN : (Try.prog.info? 32).map (fun i => (i.zero, i.size, i.bytes)) = some (some (.int .u64 0), 1, 8) := by kernel_rfl

theorem Try.infoB : (Try.prog.info? 5).map (fun i => (i.zero, i.size, i.bytes)) = some (some (.int .u8 0), 1, 1) := by kernel_rfl

theorem encRn_one (x : Rn) : ∀ v ∈ encRn x, v.oneCell' = true := by
  intro v hv
  simp only [encRn, List.mem_cons, List.not_mem_nil, or_false] at hv
  rcases hv with rfl | rfl | rfl <;> rfl

theorem uvs_one (l : List Nat) : ∀ v ∈ uvs l, v.oneCell' = true := by
  intro v hv
  simp only [uvs, List.mem_map] at hv
  obtain ⟨c, _, rfl⟩ := hv
  rfl

def zeroF : Array Value := #[.int .u8 0, .int .u8 0, .int .u8 0, .int .u8 0, .int .u64 0, .int .u64 0, .int .u32 0, .int .u32 0, .int .u32 0, .int .u64 0, .int .u64 0, .slice none 0 0, .slice none 0 0, .slice none 0 0, .slice none 0 0, .slice none 0 0]

/-- What stands while a frame is copied: its box, that of the answer. -/
structure CpS (w : World) (cs : Array Value) (W : World) : Prop where
  below : RowKit.Below w.heap.size w W
  box : W.heap[w.heap.size]? = some (.cells cs 40 (0, 0))
  res : W.heap[w.heap.size + 1]? = some (.cells zeroF 40 (0, 0))

theorem CpS.start {w W : World} {cs : Array Value} (h : (w.alloc (.cells cs 40)).alloc (.cells zeroF 40) = W) : CpS w cs W := by
  obtain ⟨h1, h2, h3⟩ := alloc2_blocks w _ _ h
  exact ⟨h3, h1, h2⟩

theorem CpS.lt {w W : World} {cs : Array Value} (h : CpS w cs W) : w.heap.size + 2 ≤ W.heap.size := (Array.getElem?_eq_some_iff.1 h.res).1

theorem CpS.on {w W W' : World} {cs : Array Value} (h : CpS w cs W) (hb : RowKit.Below W.heap.size W W') : CpS w cs W' :=
  ⟨h.below.trans (hb.mono h.below.size), (hb.block _ (by have := h.lt; omega)).trans h.box, (hb.block _ (by have := h.lt; omega)).trans h.res⟩

theorem CpS.up {w W W' : World} {cs : Array Value} (h : CpS w cs W) (hb : RowKit.Below (w.heap.size + 2) W W') : CpS w cs W' :=
  ⟨h.below.trans (hb.mono (by omega)), (hb.block _ (by omega)).trans h.box, (hb.block _ (by omega)).trans h.res⟩

theorem uvs_length (l : List Nat) : (uvs l).length = l.length := List.length_map _

theorem CpS.set {w W : World} {cs : Array Value} (h : CpS w cs W) (i : Nat) (u : Value) : CpS w (cs.setIfInBounds i u) (W.setCell ⟨w.heap.size, i, none⟩ u) :=
  ⟨h.below.setCell (p := ⟨w.heap.size, i, none⟩) (Nat.le_refl _) u, heap_setCell_same W _ i _ _ u h.box, (heap_setCell_other W ⟨w.heap.size, i, none⟩ (w.heap.size + 1) u (by simp)).trans h.res⟩

theorem CpS.cell {w W : World} {cs : Array Value} (h : CpS w cs W) (i : Nat) : W.cell? ⟨w.heap.size, i, none⟩ = cs[i]? := cell_of_row W _ i _ _ _ h.box

theorem CpS.fr {w W : World} {cs : Array Value} (h : CpS w cs W) (i : Nat) : W.frozen? ⟨w.heap.size, i, none⟩ = false := frozen_of_row W _ i _ _ h.box

/-- What a copy is. -/
def Copied (w : World) (F : Fr) (e : Ending) (w' : World) : Prop := ∃ x : Pf, x.F = F ∧ e = .returned (.agg x.cs) ∧ x.Own w' w.heap.size ∧ RowKit.Below w.heap.size w w'

/-- A slice of the call's own, in a block behind the two boxes, while these are written. -/
theorem own_step {w W W' : World} {base k n : Nat} {e : TypeId} {v : Value} {xs : List Value} (h : W.ownsRow base e k v n xs) (hb : w.heap.size + 2 ≤ base) (ho : OnlyE W W' (fun b => b < w.heap.size + 2)) : W'.ownsRow base e k v n xs :=
  own_only h ho fun b hb' hd => by have := (h.lt b hb').1; omega

set_option maxRecDepth 20000 in
set_option maxHeartbeats 3200000 in
theorem fresh_any (F : Fr) (cs : Array Value) (w : World) (hF : FrL w F cs) (hok : F.Ok) : Calls Try.prog 33 #[.agg cs] w (Copied w F) := by
  obtain ⟨p, rfl, h0, h1, h2, h3, h4⟩ := hF
  have HE0 : Hid (F.est.length ≤ 100) := hok.est
  have HE1 : Hid (F.aux.length ≤ 100) := hok.aux
  have HE2 : Hid (F.done.length ≤ 100) := hok.done
  have HE3 : Hid (F.held.length ≤ 100) := hok.held
  have HE4 : Hid (F.data.length ≤ 4000) := hok.data
  have HL0 : Hid (∀ W, RowKit.Below w.heap.size w W → Lies W w.heap.size (p 0).1 (flat encRn F.est)) := fun W hW => h0.below hW
  have HL1 : Hid (∀ W, RowKit.Below w.heap.size w W → Lies W w.heap.size (p 1).1 (flat encRn F.aux)) := fun W hW => h1.below hW
  have HL2 : Hid (∀ W, RowKit.Below w.heap.size w W → Lies W w.heap.size (p 2).1 (uvs F.done)) := fun W hW => h2.below hW
  have HL3 : Hid (∀ W, RowKit.Below w.heap.size w W → Lies W w.heap.size (p 3).1 (uvs F.held)) := fun W hW => h3.below hW
  have HL4 : Hid (∀ W, RowKit.Below w.heap.size w W → Lies W w.heap.size (p 4).1 (bvs F.data)) := fun W hW => h4.below hW
  obtain ⟨ir, hir, hr0, hr1, hr2⟩ := info_parts Try.infoRn
  obtain ⟨iu, hiu, hu0, hu1, hu2⟩ := info_parts Try.infoN
  obtain ⟨ib, hib, hb0, hb1, hb2⟩ := info_parts Try.infoB
  have HIR := Lib.hid hir
  have HR0 := Lib.hid hr0
  have HR1 := Lib.hid hr1
  have HR2 := Lib.hid hr2
  have HIU := Lib.hid hiu
  have HU0 := Lib.hid hu0
  have HU1 := Lib.hid hu1
  have HU2 := Lib.hid hu2
  have HIB := Lib.hid hib
  have HB0 := Lib.hid hb0
  have HB1 := Lib.hid hb1
  have HB2 := Lib.hid hb2
  clear hir hr0 hr1 hr2 hiu hu0 hu1 hu2 hib hb0 hb1 hb2 h0 h1 h2 h3 h4 hok
  generalize hcs : frCells F (.slice (p 0).1 F.est.length (p 0).2) (.slice (p 1).1 F.aux.length (p 1).2) (.slice (p 2).1 F.done.length (p 2).2) (.slice (p 3).1 F.held.length (p 3).2) (.slice (p 4).1 F.data.length (p 4).2) = cs
  have x11 : cs[11]? = some (.slice (p 0).1 F.est.length (p 0).2) := by rw [← hcs]; rfl
  have x12 : cs[12]? = some (.slice (p 1).1 F.aux.length (p 1).2) := by rw [← hcs]; rfl
  have x13 : cs[13]? = some (.slice (p 2).1 F.done.length (p 2).2) := by rw [← hcs]; rfl
  have x14 : cs[14]? = some (.slice (p 3).1 F.held.length (p 3).2) := by rw [← hcs]; rfl
  have x15 : cs[15]? = some (.slice (p 4).1 F.data.length (p 4).2) := by rw [← hcs]; rfl
  have HCS := Lib.hid hcs
  clear hcs
  generalize hn0 : F.est.length = n0 at *
  have HN0 := Lib.hid hn0
  clear hn0
  generalize hn1 : F.aux.length = n1 at *
  have HN1 := Lib.hid hn1
  clear hn1
  generalize hn2 : F.done.length = n2 at *
  have HN2 := Lib.hid hn2
  clear hn2
  generalize hn3 : F.held.length = n3 at *
  have HN3 := Lib.hid hn3
  clear hn3
  generalize hn4 : F.data.length = n4 at *
  have HN4 := Lib.hid hn4
  clear hn4
  have HS9 : Hid (∀ E, (w.alloc (.cells cs 40)).alloc (.cells zeroF 40) = E → CpS w cs E) := fun E h => CpS.start h
  go_enter Try.func33, Try.ntmps33
  go_wp2_with (first | (at_builtin; refine wpList_append_lstK rfl _ _ 36 rfl _ 3 (by decide) 84 _ (.agg #[.int .u8 0, .int .u64 0, .int .u64 0]) 24 Try.underlying36 HIR.out HR0.out HR1.out HR2.out rfl _ 0 [] rfl (World.ownsRow_nil _ _ _ _) _ _ _ _ (flat encRn F.est) rfl ?d0 (HL0.out _ ?l0) (flat_one encRn_one _) ?m0 ?k0 (Nat.le_refl _) ?_) | fail)
  case d0 => rw [flat_length encRn_len, HN0.out]
  case l0 => exact (HS9.out _ rfl).below
  case m0 => have := HE0.out; unfold maxLen; omega
  case k0 => have := HE0.out; omega
  intro v0 W0 ho0 _ hb0 _
  try rw [Nat.zero_add] at ho0
  try rw [List.nil_append] at ho0
  obtain ⟨A0, c0, rfl, -, -⟩ := own_sliceK ho0
  have HS0 : Hid (CpS w cs W0) := (HS9.out _ rfl).up (hb0.mono (by omega))
  have HO0_0 : Hid (W0.ownsRow (w.heap.size + 2) 84 3 (.slice A0 n0 c0) n0 (flat encRn F.est)) := own_base ho0 (by omega)
  have HV0 : Hid (CpS w (cs.setIfInBounds 11 (.slice A0 n0 c0)) (W0.setCell ⟨w.heap.size, 11, none⟩ (.slice A0 n0 c0))) := HS0.out.set 11 _
  have HO0_0v : Hid ((W0.setCell ⟨w.heap.size, 11, none⟩ (.slice A0 n0 c0)).ownsRow (w.heap.size + 2) 84 3 (.slice A0 n0 c0) n0 (flat encRn F.est)) := own_step (w := w) HO0_0.out (Nat.le_refl _) (onlyE_set (D := fun b => b < w.heap.size + 2) (by omega) _ _)
  clear ho0 hb0
  have q11 := HS0.out.fr 11
  have z11 : W0.cell? ⟨w.heap.size, 11, none⟩ = some (.slice (p 0).1 n0 (p 0).2) := by rw [HS0.out.cell 11]; simp [x11]
  have z12 : W0.cell? ⟨w.heap.size, 12, none⟩ = some (.slice (p 1).1 n1 (p 1).2) := by rw [HS0.out.cell 12]; simp [x12]
  clear x11
  have hs0 := HS0.out.lt
  go_wp2_with (first | (at_builtin; refine wpList_append_lstK rfl _ _ 36 rfl _ 3 (by decide) 84 _ (.agg #[.int .u8 0, .int .u64 0, .int .u64 0]) 24 Try.underlying36 HIR.out HR0.out HR1.out HR2.out rfl _ 0 [] rfl (World.ownsRow_nil _ _ _ _) _ _ _ _ (flat encRn F.aux) rfl ?d1 (HL1.out _ ?l1) (flat_one encRn_one _) ?m1 ?k1 (Nat.le_refl _) ?_) | fail)
  case d1 => rw [flat_length encRn_len, HN1.out]
  case l1 => exact (HV0.out).below
  case m1 => have := HE1.out; unfold maxLen; omega
  case k1 => have := HE1.out; omega
  intro v1 W1 ho1 _ hb1 _
  try rw [Nat.zero_add] at ho1
  try rw [List.nil_append] at ho1
  obtain ⟨A1, c1, rfl, -, -⟩ := own_sliceK ho1
  have HS1 : Hid (CpS w (cs.setIfInBounds 11 (.slice A0 n0 c0)) W1) := (HV0.out).up (hb1.mono (by have := HS0.out.lt; omega))
  have HO0_1 : Hid (W1.ownsRow (w.heap.size + 2) 84 3 (.slice A0 n0 c0) n0 (flat encRn F.est)) := own_below HO0_0v.out (hb1.mono (by simp))
  have HO1_1 : Hid (W1.ownsRow (w.heap.size + 2) 84 3 (.slice A1 n1 c1) n1 (flat encRn F.aux)) := own_base ho1 (by have := HS0.out.lt; omega)
  have HV1 : Hid (CpS w ((cs.setIfInBounds 11 (.slice A0 n0 c0)).setIfInBounds 12 (.slice A1 n1 c1)) (W1.setCell ⟨w.heap.size, 12, none⟩ (.slice A1 n1 c1))) := HS1.out.set 12 _
  have HO0_1v : Hid ((W1.setCell ⟨w.heap.size, 12, none⟩ (.slice A1 n1 c1)).ownsRow (w.heap.size + 2) 84 3 (.slice A0 n0 c0) n0 (flat encRn F.est)) := own_step (w := w) HO0_1.out (Nat.le_refl _) (onlyE_set (D := fun b => b < w.heap.size + 2) (by omega) _ _)
  have HO1_1v : Hid ((W1.setCell ⟨w.heap.size, 12, none⟩ (.slice A1 n1 c1)).ownsRow (w.heap.size + 2) 84 3 (.slice A1 n1 c1) n1 (flat encRn F.aux)) := own_step (w := w) HO1_1.out (Nat.le_refl _) (onlyE_set (D := fun b => b < w.heap.size + 2) (by omega) _ _)
  clear ho1 hb1 z11 z12 q11
  have q12 := HS1.out.fr 12
  have z12 : W1.cell? ⟨w.heap.size, 12, none⟩ = some (.slice (p 1).1 n1 (p 1).2) := by rw [HS1.out.cell 12]; simp [x12]
  have z13 : W1.cell? ⟨w.heap.size, 13, none⟩ = some (.slice (p 2).1 n2 (p 2).2) := by rw [HS1.out.cell 13]; simp [x13]
  clear x12
  have hs1 := HS1.out.lt
  go_wp2_with (first | (at_builtin; refine wpList_append_lstK rfl _ _ 37 rfl _ 1 (by decide) 32 _ (.int .u64 0) 8 Try.underlying37 HIU.out HU0.out HU1.out HU2.out rfl _ 0 [] rfl (World.ownsRow_nil _ _ _ _) _ _ _ _ (uvs F.done) rfl ?d2 (HL2.out _ ?l2) (uvs_one _) ?m2 ?k2 (Nat.le_refl _) ?_) | fail)
  case d2 => rw [uvs_length, HN2.out, Nat.mul_one]
  case l2 => exact (HV1.out).below
  case m2 => have := HE2.out; unfold maxLen; omega
  case k2 => have := HE2.out; omega
  intro v2 W2 ho2 _ hb2 _
  try rw [Nat.zero_add] at ho2
  try rw [List.nil_append] at ho2
  obtain ⟨A2, c2, rfl, -, -⟩ := own_sliceK ho2
  have HS2 : Hid (CpS w ((cs.setIfInBounds 11 (.slice A0 n0 c0)).setIfInBounds 12 (.slice A1 n1 c1)) W2) := (HV1.out).up (hb2.mono (by have := HS1.out.lt; omega))
  have HO0_2 : Hid (W2.ownsRow (w.heap.size + 2) 84 3 (.slice A0 n0 c0) n0 (flat encRn F.est)) := own_below HO0_1v.out (hb2.mono (by simp))
  have HO1_2 : Hid (W2.ownsRow (w.heap.size + 2) 84 3 (.slice A1 n1 c1) n1 (flat encRn F.aux)) := own_below HO1_1v.out (hb2.mono (by simp))
  have HO2_2 : Hid (W2.ownsRow (w.heap.size + 2) 32 1 (.slice A2 n2 c2) n2 (uvs F.done)) := own_base ho2 (by have := HS1.out.lt; omega)
  have HV2 : Hid (CpS w (((cs.setIfInBounds 11 (.slice A0 n0 c0)).setIfInBounds 12 (.slice A1 n1 c1)).setIfInBounds 13 (.slice A2 n2 c2)) (W2.setCell ⟨w.heap.size, 13, none⟩ (.slice A2 n2 c2))) := HS2.out.set 13 _
  have HO0_2v : Hid ((W2.setCell ⟨w.heap.size, 13, none⟩ (.slice A2 n2 c2)).ownsRow (w.heap.size + 2) 84 3 (.slice A0 n0 c0) n0 (flat encRn F.est)) := own_step (w := w) HO0_2.out (Nat.le_refl _) (onlyE_set (D := fun b => b < w.heap.size + 2) (by omega) _ _)
  have HO1_2v : Hid ((W2.setCell ⟨w.heap.size, 13, none⟩ (.slice A2 n2 c2)).ownsRow (w.heap.size + 2) 84 3 (.slice A1 n1 c1) n1 (flat encRn F.aux)) := own_step (w := w) HO1_2.out (Nat.le_refl _) (onlyE_set (D := fun b => b < w.heap.size + 2) (by omega) _ _)
  have HO2_2v : Hid ((W2.setCell ⟨w.heap.size, 13, none⟩ (.slice A2 n2 c2)).ownsRow (w.heap.size + 2) 32 1 (.slice A2 n2 c2) n2 (uvs F.done)) := own_step (w := w) HO2_2.out (Nat.le_refl _) (onlyE_set (D := fun b => b < w.heap.size + 2) (by omega) _ _)
  clear ho2 hb2 z12 z13 q12
  have q13 := HS2.out.fr 13
  have z13 : W2.cell? ⟨w.heap.size, 13, none⟩ = some (.slice (p 2).1 n2 (p 2).2) := by rw [HS2.out.cell 13]; simp [x13]
  have z14 : W2.cell? ⟨w.heap.size, 14, none⟩ = some (.slice (p 3).1 n3 (p 3).2) := by rw [HS2.out.cell 14]; simp [x14]
  clear x13
  have hs2 := HS2.out.lt
  go_wp2_with (first | (at_builtin; refine wpList_append_lstK rfl _ _ 37 rfl _ 1 (by decide) 32 _ (.int .u64 0) 8 Try.underlying37 HIU.out HU0.out HU1.out HU2.out rfl _ 0 [] rfl (World.ownsRow_nil _ _ _ _) _ _ _ _ (uvs F.held) rfl ?d3 (HL3.out _ ?l3) (uvs_one _) ?m3 ?k3 (Nat.le_refl _) ?_) | fail)
  case d3 => rw [uvs_length, HN3.out, Nat.mul_one]
  case l3 => exact (HV2.out).below
  case m3 => have := HE3.out; unfold maxLen; omega
  case k3 => have := HE3.out; omega
  intro v3 W3 ho3 _ hb3 _
  try rw [Nat.zero_add] at ho3
  try rw [List.nil_append] at ho3
  obtain ⟨A3, c3, rfl, -, -⟩ := own_sliceK ho3
  have HS3 : Hid (CpS w (((cs.setIfInBounds 11 (.slice A0 n0 c0)).setIfInBounds 12 (.slice A1 n1 c1)).setIfInBounds 13 (.slice A2 n2 c2)) W3) := (HV2.out).up (hb3.mono (by have := HS2.out.lt; omega))
  have HO0_3 : Hid (W3.ownsRow (w.heap.size + 2) 84 3 (.slice A0 n0 c0) n0 (flat encRn F.est)) := own_below HO0_2v.out (hb3.mono (by simp))
  have HO1_3 : Hid (W3.ownsRow (w.heap.size + 2) 84 3 (.slice A1 n1 c1) n1 (flat encRn F.aux)) := own_below HO1_2v.out (hb3.mono (by simp))
  have HO2_3 : Hid (W3.ownsRow (w.heap.size + 2) 32 1 (.slice A2 n2 c2) n2 (uvs F.done)) := own_below HO2_2v.out (hb3.mono (by simp))
  have HO3_3 : Hid (W3.ownsRow (w.heap.size + 2) 32 1 (.slice A3 n3 c3) n3 (uvs F.held)) := own_base ho3 (by have := HS2.out.lt; omega)
  have HV3 : Hid (CpS w ((((cs.setIfInBounds 11 (.slice A0 n0 c0)).setIfInBounds 12 (.slice A1 n1 c1)).setIfInBounds 13 (.slice A2 n2 c2)).setIfInBounds 14 (.slice A3 n3 c3)) (W3.setCell ⟨w.heap.size, 14, none⟩ (.slice A3 n3 c3))) := HS3.out.set 14 _
  have HO0_3v : Hid ((W3.setCell ⟨w.heap.size, 14, none⟩ (.slice A3 n3 c3)).ownsRow (w.heap.size + 2) 84 3 (.slice A0 n0 c0) n0 (flat encRn F.est)) := own_step (w := w) HO0_3.out (Nat.le_refl _) (onlyE_set (D := fun b => b < w.heap.size + 2) (by omega) _ _)
  have HO1_3v : Hid ((W3.setCell ⟨w.heap.size, 14, none⟩ (.slice A3 n3 c3)).ownsRow (w.heap.size + 2) 84 3 (.slice A1 n1 c1) n1 (flat encRn F.aux)) := own_step (w := w) HO1_3.out (Nat.le_refl _) (onlyE_set (D := fun b => b < w.heap.size + 2) (by omega) _ _)
  have HO2_3v : Hid ((W3.setCell ⟨w.heap.size, 14, none⟩ (.slice A3 n3 c3)).ownsRow (w.heap.size + 2) 32 1 (.slice A2 n2 c2) n2 (uvs F.done)) := own_step (w := w) HO2_3.out (Nat.le_refl _) (onlyE_set (D := fun b => b < w.heap.size + 2) (by omega) _ _)
  have HO3_3v : Hid ((W3.setCell ⟨w.heap.size, 14, none⟩ (.slice A3 n3 c3)).ownsRow (w.heap.size + 2) 32 1 (.slice A3 n3 c3) n3 (uvs F.held)) := own_step (w := w) HO3_3.out (Nat.le_refl _) (onlyE_set (D := fun b => b < w.heap.size + 2) (by omega) _ _)
  clear ho3 hb3 z13 z14 q13
  have q14 := HS3.out.fr 14
  have z14 : W3.cell? ⟨w.heap.size, 14, none⟩ = some (.slice (p 3).1 n3 (p 3).2) := by rw [HS3.out.cell 14]; simp [x14]
  have z15 : W3.cell? ⟨w.heap.size, 15, none⟩ = some (.slice (p 4).1 n4 (p 4).2) := by rw [HS3.out.cell 15]; simp [x15]
  clear x14
  have hs3 := HS3.out.lt
  
  go_wp2_with (first | (at_builtin; refine wpList_append_lstK rfl _ _ 38 rfl _ 1 (by decide) 5 _ (.int .u8 0) 1 Try.underlying38 HIB.out HB0.out HB1.out HB2.out rfl _ 0 [] rfl (World.ownsRow_nil _ _ _ _) _ _ _ _ (bvs F.data) rfl ?d4 (HL4.out _ ?l4) (bvs_one _) ?m4 ?k4 (Nat.le_refl _) ?_) | fail)
  case d4 => rw [bvs_length, HN4.out, Nat.mul_one]
  case l4 => exact (HV3.out).below
  case m4 => have := HE4.out; unfold maxLen; omega
  case k4 => have := HE4.out; omega
  intro v4 W4 ho4 _ hb4 _
  try rw [Nat.zero_add] at ho4
  try rw [List.nil_append] at ho4
  obtain ⟨A4, c4, rfl, -, -⟩ := own_sliceK ho4
  have HS4 : Hid (CpS w ((((cs.setIfInBounds 11 (.slice A0 n0 c0)).setIfInBounds 12 (.slice A1 n1 c1)).setIfInBounds 13 (.slice A2 n2 c2)).setIfInBounds 14 (.slice A3 n3 c3)) W4) := (HV3.out).up (hb4.mono (by have := HS3.out.lt; omega))
  have HO0_4 : Hid (W4.ownsRow (w.heap.size + 2) 84 3 (.slice A0 n0 c0) n0 (flat encRn F.est)) := own_below HO0_3v.out (hb4.mono (by simp))
  have HO1_4 : Hid (W4.ownsRow (w.heap.size + 2) 84 3 (.slice A1 n1 c1) n1 (flat encRn F.aux)) := own_below HO1_3v.out (hb4.mono (by simp))
  have HO2_4 : Hid (W4.ownsRow (w.heap.size + 2) 32 1 (.slice A2 n2 c2) n2 (uvs F.done)) := own_below HO2_3v.out (hb4.mono (by simp))
  have HO3_4 : Hid (W4.ownsRow (w.heap.size + 2) 32 1 (.slice A3 n3 c3) n3 (uvs F.held)) := own_below HO3_3v.out (hb4.mono (by simp))
  have HO4_4 : Hid (W4.ownsRow (w.heap.size + 2) 5 1 (.slice A4 n4 c4) n4 (bvs F.data)) := own_base ho4 (by have := HS3.out.lt; omega)
  have HV4 : Hid (CpS w (((((cs.setIfInBounds 11 (.slice A0 n0 c0)).setIfInBounds 12 (.slice A1 n1 c1)).setIfInBounds 13 (.slice A2 n2 c2)).setIfInBounds 14 (.slice A3 n3 c3)).setIfInBounds 15 (.slice A4 n4 c4)) (W4.setCell ⟨w.heap.size, 15, none⟩ (.slice A4 n4 c4))) := HS4.out.set 15 _
  have HO0_4v : Hid ((W4.setCell ⟨w.heap.size, 15, none⟩ (.slice A4 n4 c4)).ownsRow (w.heap.size + 2) 84 3 (.slice A0 n0 c0) n0 (flat encRn F.est)) := own_step (w := w) HO0_4.out (Nat.le_refl _) (onlyE_set (D := fun b => b < w.heap.size + 2) (by omega) _ _)
  have HO1_4v : Hid ((W4.setCell ⟨w.heap.size, 15, none⟩ (.slice A4 n4 c4)).ownsRow (w.heap.size + 2) 84 3 (.slice A1 n1 c1) n1 (flat encRn F.aux)) := own_step (w := w) HO1_4.out (Nat.le_refl _) (onlyE_set (D := fun b => b < w.heap.size + 2) (by omega) _ _)
  have HO2_4v : Hid ((W4.setCell ⟨w.heap.size, 15, none⟩ (.slice A4 n4 c4)).ownsRow (w.heap.size + 2) 32 1 (.slice A2 n2 c2) n2 (uvs F.done)) := own_step (w := w) HO2_4.out (Nat.le_refl _) (onlyE_set (D := fun b => b < w.heap.size + 2) (by omega) _ _)
  have HO3_4v : Hid ((W4.setCell ⟨w.heap.size, 15, none⟩ (.slice A4 n4 c4)).ownsRow (w.heap.size + 2) 32 1 (.slice A3 n3 c3) n3 (uvs F.held)) := own_step (w := w) HO3_4.out (Nat.le_refl _) (onlyE_set (D := fun b => b < w.heap.size + 2) (by omega) _ _)
  have HO4_4v : Hid ((W4.setCell ⟨w.heap.size, 15, none⟩ (.slice A4 n4 c4)).ownsRow (w.heap.size + 2) 5 1 (.slice A4 n4 c4) n4 (bvs F.data)) := own_step (w := w) HO4_4.out (Nat.le_refl _) (onlyE_set (D := fun b => b < w.heap.size + 2) (by omega) _ _)
  clear ho4 hb4 z14 z15 q14
  have q15 := HS4.out.fr 15
  have z15 : W4.cell? ⟨w.heap.size, 15, none⟩ = some (.slice (p 4).1 n4 (p 4).2) := by rw [HS4.out.cell 15]; simp [x15]
  clear x15
  have HBX := Lib.hid HV4.out.box
  have HRX := Lib.hid HV4.out.res
  have HSZ : Hid ((((((cs.setIfInBounds 11 (.slice A0 n0 c0)).setIfInBounds 12 (.slice A1 n1 c1)).setIfInBounds 13 (.slice A2 n2 c2)).setIfInBounds 14 (.slice A3 n3 c3)).setIfInBounds 15 (.slice A4 n4 c4)).size = 16) := by show _ = _; rw [← HCS.out]; rfl
  have HEQ : Hid ((((((cs.setIfInBounds 11 (.slice A0 n0 c0)).setIfInBounds 12 (.slice A1 n1 c1)).setIfInBounds 13 (.slice A2 n2 c2)).setIfInBounds 14 (.slice A3 n3 c3)).setIfInBounds 15 (.slice A4 n4 c4)) = (Pf.mk F (fun i => match i with | 0 => (A0, c0) | 1 => (A1, c1) | 2 => (A2, c2) | 3 => (A3, c3) | 4 => (A4, c4))).cs) := by show _ = _; rw [← HCS.out]; unfold Pf.cs; simp only [HN0.out, HN1.out, HN2.out, HN3.out, HN4.out]; rfl
  have H1C : Hid ((((((cs.setIfInBounds 11 (.slice A0 n0 c0)).setIfInBounds 12 (.slice A1 n1 c1)).setIfInBounds 13 (.slice A2 n2 c2)).setIfInBounds 14 (.slice A3 n3 c3)).setIfInBounds 15 (.slice A4 n4 c4)).all (·.oneCell') = true) := by show _ = _; rw [HEQ.out]; exact Pf.one _
  have HB4W : Hid (RowKit.Below w.heap.size w (W4.setCell ⟨w.heap.size, 15, none⟩ (.slice A4 n4 c4))) := HV4.out.below
  have HOW : Hid ((Pf.mk F (fun i => match i with | 0 => (A0, c0) | 1 => (A1, c1) | 2 => (A2, c2) | 3 => (A3, c3) | 4 => (A4, c4))).Own (W4.setCell ⟨w.heap.size, 15, none⟩ (.slice A4 n4 c4)) (w.heap.size + 2)) := by unfold Pf.Own; simp only [HN0.out, HN1.out, HN2.out, HN3.out, HN4.out]; exact ⟨HO0_4v.out, HO1_4v.out, HO2_4v.out, HO3_4v.out, HO4_4v.out⟩
  go_upto_region 6 with fail
  generalize W4.setCell ⟨w.heap.size, 15, none⟩ (.slice A4 n4 c4) = V at HBX HRX HB4W HOW ⊢
  generalize (((((cs.setIfInBounds 11 (.slice A0 n0 c0)).setIfInBounds 12 (.slice A1 n1 c1)).setIfInBounds 13 (.slice A2 n2 c2)).setIfInBounds 14 (.slice A3 n3 c3)).setIfInBounds 15 (.slice A4 n4 c4)) = c5 at HBX HSZ HEQ H1C
  have HRT : Hid ((V.setRow (w.heap.size + 1) c5).heap[w.heap.size + 1]? = some (.cells c5 40 (0, 0))) := setRow_heap _ _ _ _ _ _ HRX.out
  go_wp2_with (first | (refine load_frame (.tmp 1) rfl HBX.out HSZ.out ?_) | (refine store_frame (.tmp 2) (.tmp 23) rfl rfl HRX.out rfl HSZ.out H1C.out ?_) | fail)
  refine bodyPost_ret (results_cell_row rfl _ _ _ _ _ _ _ rfl HRT.out Try.underlying40 rfl (info33 HSZ.out)) rfl ?_
  refine ⟨_, rfl, by rw [HEQ.out], ?_, ?_⟩
  · exact (HOW.out.only (onlyE_setRow (D := fun b => b = w.heap.size + 1) rfl _) fun k hk => .inl (by omega)).base (by omega)
  · exact Below.setRow HB4W.out (by omega) _

theorem Try.infoFrame : (Try.prog.info? 40).map (fun i => (i.zero, i.size, i.bytes)) = some (some (.agg zeroF), 16, 184) := by kernel_rfl

/-- append(frames, one). -/
theorem app_frame {W : World} {base n B m c : Nat} {v : Value} {xs : List Value} {A : Option Addr} {ys : List Pf} (hown : W.ownsRow base 40 16 v n xs) (hl : ys.length = m) (hL : Lies W B A (flat encPf ys)) (hb : base ≤ W.heap.size) (hn : n + m ≤ 10000) :
    ∃ A' c' W', (Builtin.append_ #[26, 26] 26 #[v, .slice A m c]).run Try.prog W = .ok (.slice A' (n + m) c') W' ∧ W'.ownsRow base 40 16 (.slice A' (n + m) c') (n + m) (xs ++ flat encPf ys) ∧
      W.grownBy W' v.ownBlock ∧ ((Value.slice A' (n + m) c').ownBlock = v.ownBlock ∨ (Value.slice A' (n + m) c').ownBlock = some W.heap.size) ∧ n + m ≤ c' ∧ c' ≤ maxLen := by
  obtain ⟨i0, hi, hz0, hz1, hz2⟩ := info_parts Try.infoFrame
  obtain ⟨v', W', hrun, ho, hg, hk⟩ := run_append_lstK (P := Try.prog) base 16 (by decide) 26 26 40 i0 (.agg zeroF) 184 Try.underlying26 hi hz0 hz1 hz2 rfl v n xs hown B A m c (flat encPf ys)
    (by rw [flat_length encPf_len, hl]) hL (flat_one encPf_one _) (by unfold maxLen; omega) (by omega) hb
  obtain ⟨A', c', rfl, h1, h2⟩ := own_sliceK ho
  exact ⟨A', c', W', hrun, ho, hg, hk, h1, h2⟩

theorem flat_single (x : Pf) : flat encPf [x] = x.cs.toList := by simp [flat, encPf]

set_option maxRecDepth 20000 in
theorem wp_build1 {o : Oper} {a : Act} {w : World} {K : Act → World → Prop} {Q : Exit → Act → World → Prop} {x : Operand} {y : Pf} (ho : o.op = .buildSlice 26 1 #[(0, x)]) (hx : a.eval x = .agg y.cs)
    (h : K (a.put o.dst (.slice (some ⟨w.heap.size, 0, none⟩) 1 1)) (w.alloc (.cells y.cs 40))) : o.wp Try.prog a w K Q := by
  obtain ⟨F, p⟩ := y
  unfold Oper.wp execOp
  simp only [ho, List.map_toArray, List.map_cons, List.map_nil, hx]
  unfold Pf.cs frCells at h ⊢
  go_simp
  exact h

theorem wpList_build1 {ops : Array Oper} {rest : List Oper} {o : Oper} {a : Act} {w : World} {Q : Exit → Act → World → Prop} (hgd : o.guard = none) {x : Operand} {y : Pf} (ho : o.op = .buildSlice 26 1 #[(0, x)]) (hx : a.eval x = .agg y.cs)
    (h : wpList Try.prog ops Q rest (a.put o.dst (.slice (some ⟨w.heap.size, 0, none⟩) 1 1)) (w.alloc (.cells y.cs 40))) : wpList Try.prog ops Q (o :: rest) a w :=
  wpList_plain hgd fun _ hK => wp_build1 ho hx (hK _ _ h)

theorem wp_build1_step {o : Oper} {a : Act} {w : World} {ys : Nat → Option Bool} {K : Act → World → Prop} {Q : Exit → Act → World → Prop} (hgd : o.guard = none) {x : Operand} {y : Pf} (ho : o.op = .buildSlice 26 1 #[(0, x)]) (hx : a.eval x = .agg y.cs)
    (hk : K (a.put o.dst (.slice (some ⟨w.heap.size, 0, none⟩) 1 1)) (w.alloc (.cells y.cs 40))) : if Region.wanted o ys = true then Oper.wp Try.prog o a w K Q else K (a.put o.dst undef) w := by
  rw [if_pos (by simp [Region.wanted, hgd])]
  exact wp_build1 ho hx hk

/-- append, where what it comes to is known. -/
theorem wpList_append_run {P : Program} {ops : Array Oper} {rest : List Oper} {o : Oper} {a : Act} {w w' : World} {v vx v' : Value} {Q : Exit → Act → World → Prop} (hgd : o.guard = none) (s x : Operand) (t : TypeId) (ho : o.op = .call { callee := .builtin .append, args := #[s, x], argTypes := #[t, t] })
    (hs : a.eval s = v) (hx : a.eval x = vx) (hrun : (Builtin.append_ #[t, t] o.type #[v, vx]).run P w = .ok v' w') (h : wpList P ops Q rest (a.put o.dst v') w') : wpList P ops Q (o :: rest) a w := by
  refine wpList_plain hgd fun K hK => ?_
  have hk := hK _ _ h
  unfold Oper.wp execOp
  simp only [ho, resolve, invoke, builtin, Sem.run_bind, Sem.run_pure, Result.andThen_ok, List.map_toArray, List.map_cons, List.map_nil, hs, hx, hrun]
  exact hk

/-- append(s[:0], s[j:]...) in the block of s itself. -/
theorem own_shift {base k g n c j : Nat} {e t ty : TypeId} {i : TypeInfo} {w : World} {xs : List Value} (ht : Try.prog.underlying t = some (.slice e)) (hi : Try.prog.info? e = some i) (hk : i.size = k) (hj : j ≤ n)
    (h : w.ownsRow base e k (.slice (some ⟨g, 0, none⟩) n c) n xs) (h1 : ∀ u ∈ xs, u.oneCell' = true) (a : Addr) (c' : Nat) (ha : j < n → a = ⟨g, j * k, none⟩) :
    ∃ w', (Builtin.append_ #[t, t] ty #[.slice (some ⟨g, 0, none⟩) 0 c, .slice (some a) (n - j) c']).run Try.prog w = .ok (.slice (some ⟨g, 0, none⟩) (n - j) c) w' ∧
      w'.ownsRow base e k (.slice (some ⟨g, 0, none⟩) n c) n (xs.drop (j * k) ++ xs.drop ((n - j) * k)) ∧ w.grownBy w' (some g) := by
  have hlen := h.1
  rcases h.2 with ⟨h0, _⟩ | ⟨g', cap, cur, hv, hbg, hg, hnc, hcm, hcs, htake⟩
  · simp at h0
  simp only [Value.slice.injEq, Option.some.injEq, Addr.mk.injEq, and_true, true_and] at hv
  obtain ⟨rfl, rfl⟩ := hv
  have hck : n * k ≤ cur.size := by rw [hcs]; exact Nat.mul_le_mul_right k hnc
  have e2 : j * k + (n - j) * k = n * k := by rw [← Nat.add_mul]; congr 1; omega
  have e3 : (n - j) * k + j * k = n * k := by rw [← Nat.add_mul]; congr 1; omega
  have hdl : (xs.drop (j * k)).length = (n - j) * k := by rw [List.length_drop, hlen]; omega
  have hnews : ∀ q u, (xs.drop (j * k))[q]? = some u → w.cell? (a.add q) = some u := fun q u hu => by
    have hq : q < (n - j) * k := by rw [← hdl]; exact (List.getElem?_eq_some_iff.1 hu).1
    have hin : j < n := by
      rcases Nat.lt_or_ge j n with h | h
      · exact h
      · have : n - j = 0 := by omega
        rw [this] at hq; simp at hq
    rw [ha hin, add_plain, h.cellAt _ (by omega)]
    rw [List.getElem?_drop] at hu
    exact hu
  have hrun := run_append_room (P := Try.prog) w t ty e i ht hi g 0 c cur hg a (n - j) c' (xs.drop (j * k)) (by rw [hk]; exact hdl) hnews (fun u hu => h1 u (List.mem_of_mem_drop hu)) (by omega) (by rw [hk, hdl]; omega)
  rw [Nat.zero_add, hk, hdl, Nat.zero_mul, Nat.zero_add, List.take_zero, List.nil_append] at hrun
  refine ⟨_, hrun, ⟨?_, .inr ⟨g, c, _, rfl, hbg, setRow_heap w g cur _ e (0, 0) hg, hnc, hcm, ?_, ?_⟩⟩, grown_setRow w g _⟩
  · have l3 : (xs.drop ((n - j) * k)).length = j * k := by rw [List.length_drop, hlen]; omega
    rw [List.length_append, l3, hdl]; omega
  · rw [List.size_toArray, List.length_append, hdl, List.length_drop, Array.length_toList]
    omega
  · have ht2 : (cur.toList.drop ((n - j) * k)).take (j * k) = xs.drop ((n - j) * k) := by rw [← htake, List.drop_take]; congr 1; omega
    simp only []
    rw [List.take_append, hdl, show (xs.drop (j * k)).take (n * k) = xs.drop (j * k) from List.take_of_length_le (by rw [hdl]; omega), ← ht2, show n * k - (n - j) * k = j * k by omega]

theorem own_apart {w : World} {base base' k k' : Nat} {e e' : TypeId} {v v' : Value} {n n' : Nat} {xs xs' : List Value} (h : w.ownsRow base e k v n xs) (h' : w.ownsRow base' e' k' v' n' xs') (hne : e ≠ e') {b : Nat} (hb : v.ownBlock = some b) : v'.ownBlock ≠ some b := fun hb' => by
  obtain ⟨cur, hc⟩ := own_heap h hb
  obtain ⟨cur', hc'⟩ := own_heap h' hb'
  rw [hc] at hc'
  injection hc' with hc'
  injection hc' with _ hc'
  exact hne hc'

def zid : Id := ⟨0, 0, by decide, by decide⟩

/-- A frame that has At alone. -/
def atF (n : Nat) : Fr := ⟨0, 0, 0, zid, 0, n, 0, 0, 0, 0, [], [], [], [], []⟩

def atP (n : Nat) : Pf := ⟨atF n, fun _ => (none, 0)⟩

theorem atP_X (w : World) (D : Nat → Prop) (n : Nat) : (atP n).X w D := ⟨LiesX.nil, LiesX.nil, LiesX.nil, LiesX.nil, LiesX.nil⟩

theorem atF_ok {n : Nat} (h : n < 4294967296) : (atF n).Ok := ⟨(by decide : 0 < 256), (by decide : 0 < 256), (by decide : 0 < 256), (by decide : 0 < 18446744073709551616), h, (by decide : 0 < 4294967296), (by decide : 0 < 4294967296), (by decide : 0 < 18446744073709551616), (by decide : 0 < 18446744073709551616), Nat.zero_le _, Nat.zero_le _, Nat.zero_le _, Nat.zero_le _, Nat.zero_le _, by simp [atF], by simp [atF]⟩

/-- A list that was just built. -/
theorem LiesX.of_new {w : World} {D : Nat → Prop} (cs : Array Value) (t : TypeId) (hD : ¬ D w.heap.size) : LiesX (w.alloc (.cells cs t)) D (some ⟨w.heap.size, 0, none⟩) cs.toList := fun hn => by
  obtain ⟨b, off, e, hb, hc⟩ := lies_new w cs t hn
  injection e with e
  injection e with e1 e2
  subst e1 e2
  exact ⟨_, _, rfl, by simp, hD, hc⟩

/-- Two elements of lists, as cells. -/
def TwoE (b o b' o' : Nat) (x y : Pf) (V : World) : Prop := V.rangeAt b o (encPf x) ∧ V.rangeAt b' o' (encPf y)

theorem map_at {ys zs : List Pf} (h : ys.map Pf.F = zs.map Pf.F) {i : Nat} (hi : i < ys.length) (hj : i < zs.length) : zs[i].F = ys[i].F := by
  have h1 : (ys.map Pf.F)[i]? = (zs.map Pf.F)[i]? := by rw [h]
  rw [List.getElem?_map, List.getElem?_map, List.getElem?_eq_getElem hi, List.getElem?_eq_getElem hj] at h1
  exact (Option.some.inj h1).symm

set_option maxRecDepth 20000 in
set_option maxHeartbeats 3200000 in
theorem refSameL_any (A B : Option Addr) (n c c' : Nat) (ys zs : List Pf) (w : World) (hl : ys.length = n) (hl' : zs.length = n) (hm : ys.map Pf.F = zs.map Pf.F) (hok : ∀ y ∈ ys, y.F.Ok) (hA : Lies w w.heap.size A (flat encPf ys)) (hB : Lies w w.heap.size B (flat encPf zs))
    (hyl : ∀ y ∈ ys, FrL w y.F y.cs) (hzl : ∀ z ∈ zs, FrL w z.F z.cs) (hn : n ≤ 1000) :
    Calls Try.prog 14 #[.slice A n c, .slice B n c'] w fun e w' => e = .returned (.bool true) ∧ RowKit.Below w.heap.size w w' := by
  have HL := Lib.hid hl
  have HL' := Lib.hid hl'
  have HM := Lib.hid hm
  have HOK := Lib.hid hok
  have HA := Lib.hid hA
  have HB := Lib.hid hB
  have HY := Lib.hid hyl
  have HZ := Lib.hid hzl
  clear hl hl' hm hok hA hB hyl hzl
  go_enter Try.func14, Try.ntmps14
  go_wp2_with fail
  go_loopw [5, 13] (fun _ s wr => ∃ i : Nat, i ≤ n ∧ s = .int .i64 i ∧ RowKit.Below w.heap.size w wr) (fun _ s _ => n - (intOf s).toNat)
  case atStart => exact ⟨0, Nat.zero_le _, rfl, RowKit.Below.refl _ _⟩
  case round =>
    obtain ⟨i, hi, rfl, hb⟩ := hrel
    have HBW := Lib.hid hb
    clear hb
    by_cases hlt : i < n
    · have hiy : i < ys.length := by rw [HL.out]; exact hlt
      have hiz : i < zs.length := by rw [HL'.out]; exact hlt
      obtain ⟨b1, o1, rfl, hb1, hc1⟩ := row_at (HA.out.below HBW.out) hiy
      obtain ⟨b2, o2, rfl, hb2, hc2⟩ := row_at (HB.out.below HBW.out) hiz
      have hFe := map_at HM.out hiy hiz
      have hy := (HY.out _ (List.getElem_mem hiy)).on HBW.out
      have hz := (HZ.out _ (List.getElem_mem hiz)).on HBW.out
      have hyo := HOK.out _ (List.getElem_mem hiy)
      rw [hFe] at hz
      generalize ys[i] = y at hc1 hFe hy hz hyo
      generalize zs[i] = z at hc2 hFe hz
      have HCL : Hid (∀ W, RowKit.Below wr.heap.size wr W → Calls Try.prog 23 #[.agg y.cs, .agg z.cs] W fun e w' => e = .returned (.bool true) ∧ RowKit.Below W.heap.size W w') := fun W hW => refSame_any y.F y.cs z.cs W hyo (hy.on hW) (hz.on hW)
      have hHeld : TwoE b1 (o1 + i * 16) b2 (o2 + i * 16) y z wr.drew := ⟨hc1, hc2⟩
      have HBD : Hid (RowKit.Below wr.heap.size wr wr.drew) := drewB _
      clear hFe hy hz hyo hc1 hc2 hiy hiz
      go_wp2_with fail
      refine wp_region_held_drew (S := TwoE b1 (o1 + i * 16) b2 (o2 + i * 16) y z) (by kernel_rfl) hHeld (fun hHeld => ?_)
      generalize wr.drew = W0 at hHeld HBD ⊢
      refine wpAnyH_takeAt (i := 0) (d := 16) (v := ?_) rfl rfl (by kernel_rfl) (by kernel_rfl) (by kernel_rfl) (fun _ _ _ h => h) (Or.inl ⟨by rfl, ?_⟩) hHeld ?_
      rotate_left
      · (intro _ hSw; go_simp; try with_reducible rfl)
      simp only [List.setIfInBounds_toArray, List.set_cons_zero, List.set_cons_succ]
      refine wpAnyH_takeAt (i := 1) (d := 17) (v := ?_) rfl rfl (by kernel_rfl) (by kernel_rfl) (by kernel_rfl) (fun _ _ _ h => h) (Or.inl ⟨by rfl, ?_⟩) hHeld ?_
      rotate_left
      · (intro _ hSw; go_simp; try with_reducible rfl)
      simp only [List.setIfInBounds_toArray, List.set_cons_zero, List.set_cons_succ]
      refine wpAnyH_takeAt (i := 2) (d := 18) (v := ?_) rfl rfl (by kernel_rfl) (by kernel_rfl) (by kernel_rfl) (fun _ _ _ h => h) (Or.inl ⟨by rfl, ?_⟩) hHeld ?_
      rotate_left
      · (intro _ hSw; go_simp; try with_reducible rfl)
      simp only [List.setIfInBounds_toArray, List.set_cons_zero, List.set_cons_succ]
      refine wpAnyH_takeAt (i := 3) (d := 19) (v := .agg y.cs) rfl rfl (by kernel_rfl) (by kernel_rfl) (by kernel_rfl) (fun _ _ _ h => h) (yieldsIf_load_mid (S := TwoE b1 (o1 + i * 16) b2 (o2 + i * 16) y z) rfl 40 (.tmp 18) rfl b1 (o1 + i * 16) rfl (encPf y) _ (fun V hV => hV.1) Try.underlying40 rfl (infoFr.trans (by rw [encPf_len]))) hHeld ?_
      simp only [List.setIfInBounds_toArray, List.set_cons_zero, List.set_cons_succ]
      refine wpAnyH_takeAt (i := 4) (d := 20) (v := ?_) rfl rfl (by kernel_rfl) (by kernel_rfl) (by kernel_rfl) (fun _ _ _ h => h) (Or.inl ⟨by rfl, ?_⟩) hHeld ?_
      rotate_left
      · (intro _ hSw; go_simp; try with_reducible rfl)
      simp only [List.setIfInBounds_toArray, List.set_cons_zero, List.set_cons_succ]
      refine wpAnyH_takeAt (i := 5) (d := 21) (v := ?_) rfl rfl (by kernel_rfl) (by kernel_rfl) (by kernel_rfl) (fun _ _ _ h => h) (Or.inl ⟨by rfl, ?_⟩) hHeld ?_
      rotate_left
      · (intro _ hSw; go_simp; try with_reducible rfl)
      simp only [List.setIfInBounds_toArray, List.set_cons_zero, List.set_cons_succ]
      refine wpAnyH_takeAt (i := 6) (d := 22) (v := ?_) rfl rfl (by kernel_rfl) (by kernel_rfl) (by kernel_rfl) (fun _ _ _ h => h) (Or.inl ⟨by rfl, ?_⟩) hHeld ?_
      rotate_left
      · (intro _ hSw; go_simp; try with_reducible rfl)
      simp only [List.setIfInBounds_toArray, List.set_cons_zero, List.set_cons_succ]
      refine wpAnyH_takeAt (i := 7) (d := 23) (v := .agg z.cs) rfl rfl (by kernel_rfl) (by kernel_rfl) (by kernel_rfl) (fun _ _ _ h => h) (yieldsIf_load_mid (S := TwoE b1 (o1 + i * 16) b2 (o2 + i * 16) y z) rfl 40 (.tmp 22) rfl b2 (o2 + i * 16) rfl (encPf z) _ (fun V hV => hV.2) Try.underlying40 rfl (infoFr.trans (by rw [encPf_len]))) hHeld ?_
      simp only [List.setIfInBounds_toArray, List.set_cons_zero, List.set_cons_succ]
      refine wpAnyH_ready (rs := [8]) (by kernel_rfl) (by simp) ?_
      refine AllReadyH.cons rfl (fun K hK => ?_) AllReadyH.nil
      go_simp
      refine (HCL.out W0 HBD.out).mono ?_
      rintro e W1 ⟨rfl, hb1'⟩
      have hH1 : TwoE b1 (o1 + i * 16) b2 (o2 + i * 16) y z W1 := ⟨fun j v hv => (hb1'.cell (p := ⟨b1, o1 + i * 16 + j, none⟩) (World.block_lt_of_cell? _ _ (hHeld.1 j v hv))).trans (hHeld.1 j v hv), fun j v hv => (hb1'.cell (p := ⟨b2, o2 + i * 16 + j, none⟩) (World.block_lt_of_cell? _ _ (hHeld.2 j v hv))).trans (hHeld.2 j v hv)⟩
      have HB1 : Hid (RowKit.Below w.heap.size w W1) := HBW.out.trans ((HBD.out.trans (hb1'.mono HBD.out.size)).mono HBW.out.size)
      refine hK.out _ _ hH1 (fun hHeld => ?_)
      clear hK K hb1' hH1
      refine wpAnyH_takeAt (i := 9) (d := 25) (v := ?_) rfl rfl (by kernel_rfl) (by kernel_rfl) (by kernel_rfl) (fun _ _ _ h => h) (Or.inl ⟨by rfl, ?_⟩) hHeld ?_
      rotate_left
      · (intro _ hSw; go_simp; try with_reducible rfl)
      simp only [List.setIfInBounds_toArray, List.set_cons_zero, List.set_cons_succ]
      refine wpAnyH_done (by kernel_rfl) ?_ _
      go_wp2
      go_roundw
      case rel => exact ⟨i + 1, by omega, by go_num, HB1.out⟩
      case measure => simp [intOf]; omega
    · obtain rfl : i = n := by omega
      go_wp2
      go_ret
      exact ⟨rfl, HBW.out⟩

theorem BytRows.nil {w : World} {B : Nat} : BytRows w B [] [] := ⟨rfl, fun _ h => absurd h (Nat.not_lt_zero _)⟩

/-- Kinds as cells. -/
def kv (k : Nat) : Value := .int .u8 (k : Int)

def kvs (l : List Nat) : List Value := l.map kv

/-- The first place at which p holds, or -1. -/
def FirstAt {α : Type} (p : α → Bool) (l : List α) (r : Int) : Prop :=
  (r = -1 ∧ ∀ x ∈ l, p x = false) ∨ ∃ k, ∃ hk : k < l.length, r = (k : Int) ∧ p l[k] = true ∧ ∀ x ∈ l.take k, p x = false

theorem FirstAt.found {α : Type} {p : α → Bool} {l : List α} {r : Int} (h : FirstAt p l r) : decide (0 ≤ r) = l.any p := by
  rcases h with ⟨rfl, h⟩ | ⟨k, hk, rfl, h1, _⟩
  · have : l.any p = false := by rw [List.any_eq_false]; intro x hx; rw [h x hx]; simp
    rw [this]; rfl
  · have : l.any p = true := by rw [List.any_eq_true]; exact ⟨_, List.getElem_mem hk, h1⟩
    rw [this]; simp

theorem OnlyE.of_old {w w' : World} {X D : Nat → Prop} (h : OnlyE w w' X) (hD : ∀ k, X k → w.heap.size ≤ k ∨ D k) : OnlyE w w' D :=
  ⟨h.1, fun k hk hn => h.2 k hk fun hx => (hD k hx).elim (fun h1 => absurd hk (by omega)) hn, h.3⟩

theorem turned_only {w w' : World} {D : Nat → Prop} {b : Nat} (h : w.mapTurned w' b) (hD : D b) : OnlyE w w' D := OnlyE.of_grown h.grown hD

theorem ownsMap_only {H : Type} {P : Program} {k : TypeId} {R : Value → Option (DataW H × List MemPlace)} {w w' : World} {b n : Nat} {D : DataW H} {X : Nat → Prop} (h : w.ownsMap P k R b n D) (ho : OnlyE w w' X) (hX : ¬ X b) : w'.ownsMap P k R b n D := by
  have hlt := h.lt
  obtain ⟨es, clock, hb, F, hs, hD⟩ := h
  exact ⟨es, clock, (ho.same b hlt hX).trans hb, F, hs, hD⟩

theorem ownsMap_tight {H : Type} {P : Program} {k : TypeId} {R : Value → Option (DataW H × List MemPlace)} {w : World} {b n : Nat} {D : DataW H} (h : w.ownsMap P k R b n D) : w.ownsMap P k R b (Maps.size D) D := by
  obtain ⟨es, clock, hb, F, hs, rfl⟩ := h
  exact ⟨es, clock, hb, F, by simp [Maps.size, length_sorted], rfl⟩

theorem wp_mapUpdate_step {P : Program} {o : Oper} {a : Act} {w w' : World} {vm vx vv : Value} {ys : Nat → Option Bool} {K : Act → World → Prop} {Q : Exit → Act → World → Prop} {x y z : Operand} {t : TypeId} (hgd : o.guard = none) (ho : o.op = .mapUpdate t x y z)
    (hm : a.eval x = vm) (hx : a.eval y = vx) (hv : a.eval z = vv) (hrun : (Instr.mapUpdate t vm vx vv).run P w = .ok () w') (hk : K (a.put o.dst undef) w') :
    if Region.wanted o ys = true then Oper.wp P o a w K Q else K (a.put o.dst undef) w := by
  rw [if_pos (by simp [Region.wanted, hgd])]
  unfold Oper.wp execOp
  simp only [ho, Sem.run_bind, Sem.run_pure, Result.andThen_ok, hm, hx, hv, hrun]
  exact hk

/-- The chunk number j. -/
def chL (l : List UInt8) (k j : Nat) : List UInt8 := (l.drop (j * k)).take k

def frAt (id : Id) (l : List UInt8) (k N i : Nat) : Fr := ⟨0, 0, 0, id, 0, i, N, l.length, 0, 0, [], [], [], [], chL l k i⟩

theorem OnlyE.cell {w w' : World} {D : Nat → Prop} (h : OnlyE w w' D) {b : Nat} (hb : b < w.heap.size) (hD : ¬ D b) {i : Nat} : w'.cell? ⟨b, i, none⟩ = w.cell? ⟨b, i, none⟩ := by
  have := h.same b hb hD
  simp only [World.cell?, this]

/-- What DeleteFunc has made: of the first j those that are kept stand in front, i of them; from j on all is as it was. -/
structure Kept {α : Type} (keep : α → Bool) (l dk : List α) (i j : Nat) : Prop where
  len : dk.length = l.length
  lt : i < j
  le : j ≤ l.length
  front : dk.take i = (l.take j).filter keep
  back : ∀ t, j ≤ t → dk[t]? = l[t]?

theorem Kept.start {α : Type} {keep : α → Bool} {l : List α} {k : Nat} (hk : k < l.length) (h1 : keep l[k] = false) (h2 : ∀ x ∈ l.take k, keep x = true) : Kept keep l l k (k + 1) := by
  refine ⟨rfl, by omega, hk, ?_, fun _ _ => rfl⟩
  rw [List.take_succ_eq_append_getElem hk, List.filter_append]
  simp [h1, List.filter_eq_self.2 h2]

theorem Kept.keep {α : Type} {keep : α → Bool} {l dk : List α} {i j : Nat} (h : Kept keep l dk i j) (hj : j < l.length) (hk : keep l[j] = true) : Kept keep l (dk.set i l[j]) (i + 1) (j + 1) := by
  refine ⟨by simp [h.len], by have := h.lt; omega, hj, ?_, fun t ht => ?_⟩
  · have hi : i < dk.length := by have := h.lt; have := h.len; omega
    rw [List.take_succ_eq_append_getElem (by simpa using hi), List.take_succ_eq_append_getElem hj, List.filter_append, ← h.front, List.take_set_of_le (Nat.le_refl i)]
    simp [hk]
  · rw [List.getElem?_set_ne (by have := h.lt; omega)]
    exact h.back t (by omega)

theorem Kept.skip {α : Type} {keep : α → Bool} {l dk : List α} {i j : Nat} (h : Kept keep l dk i j) (hj : j < l.length) (hk : keep l[j] = false) : Kept keep l dk i (j + 1) := by
  refine ⟨h.len, by have := h.lt; omega, hj, ?_, fun t ht => h.back t (by omega)⟩
  rw [List.take_succ_eq_append_getElem hj, List.filter_append, ← h.front]
  simp [hk]

theorem Kept.at_ {α : Type} {keep : α → Bool} {l dk : List α} {i j : Nat} (h : Kept keep l dk i j) (hj : j < l.length) : dk[j]'(by rw [h.len]; exact hj) = l[j] := by
  have := h.back j (Nat.le_refl _)
  rw [List.getElem?_eq_getElem (by rw [h.len]; exact hj), List.getElem?_eq_getElem hj] at this
  exact Option.some.inj this

instance : Inhabited Pf := ⟨⟨frAt zid [] 1 1 0, fun _ => (none, 0)⟩⟩

/-- Its frame's numbers are numbers of their kinds; its slices lie below block B. -/
structure PfOk (w : World) (B : Nat) (x : Pf) : Prop where
  wf : x.F.Wf
  x : x.X w (fun k => B ≤ k)

theorem PfOk.on {w w' : World} {B : Nat} {x : Pf} (h : PfOk w B x) (hb : Below B w w') : PfOk w' B x :=
  ⟨h.wf, h.x.kept ⟨hb.size, fun k _ hn => hb.block k (Nat.lt_of_not_le hn), hb.mono (Nat.zero_le _)⟩⟩

section
variable {H : Type} {enc : TypeId × Value → H} {w : World} {base : Nat} {spare : Nat → Bool} {held : Bool}

set_option maxRecDepth 10000 in
theorem open_frame_cells {fuel : Nat} {c0 c1 c2 c3 c4 c5 c6 c7 c8 c9 c10 c11 c12 c13 c14 c15 : Value} {x : DataW H × List MemPlace} (hf' : DataW.trod enc Try.prog w base spare held fuel 40 [c0, c1, c2, c3, c4, c5, c6, c7, c8, c9, c10, c11, c12, c13, c14, c15] = some x) :
    ∃ F, FrV w (fun _ => False) F #[c0, c1, c2, c3, c4, c5, c6, c7, c8, c9, c10, c11, c12, c13, c14, c15] ∧ F.Wf := by
  have hH : Try.prog.cellsOf 31 = 3 := by kernel_rfl
  have hI : Try.prog.cellsOf 34 = 2 := by kernel_rfl
  have h8 : Try.prog.cellsOf 5 = 1 := by kernel_rfl
  have h64 : Try.prog.cellsOf 32 = 1 := by kernel_rfl
  have h32 : Try.prog.cellsOf 35 = 1 := by kernel_rfl
  have hE : Try.prog.cellsOf 36 = 1 := by kernel_rfl
  have hU : Try.prog.cellsOf 37 = 1 := by kernel_rfl
  have hD : Try.prog.cellsOf 38 = 1 := by kernel_rfl
  obtain ⟨xs, n, -, -, -, hxl, hfs⟩ := DataW.trod_struct Try.underlying40 hf'
  have hx : ∀ i, i < 13 → ∃ y, xs[i]? = some y := fun i hi => ⟨_, List.getElem?_eq_getElem (by rw [hxl]; exact hi)⟩
  obtain ⟨y0, e0⟩ := hx 0 (by decide)
  obtain ⟨y1, e1⟩ := hx 1 (by decide)
  obtain ⟨y2, e2⟩ := hx 2 (by decide)
  obtain ⟨y3, e3⟩ := hx 3 (by decide)
  obtain ⟨y4, e4⟩ := hx 4 (by decide)
  obtain ⟨y5, e5⟩ := hx 5 (by decide)
  obtain ⟨y6, e6⟩ := hx 6 (by decide)
  obtain ⟨y7, e7⟩ := hx 7 (by decide)
  obtain ⟨y8, e8⟩ := hx 8 (by decide)
  obtain ⟨y9, e9⟩ := hx 9 (by decide)
  obtain ⟨y10, e10⟩ := hx 10 (by decide)
  obtain ⟨y11, e11⟩ := hx 11 (by decide)
  obtain ⟨y12, e12⟩ := hx 12 (by decide)
  have k0 : DataW.trod enc Try.prog w base spare held n 31 (List.take (Try.prog.cellsOf 31) (List.drop 0 [c0, c1, c2, c3, c4, c5, c6, c7, c8, c9, c10, c11, c12, c13, c14, c15])) = some y0 := (hfs 0 _ rfl).trans e0
  have k1 : DataW.trod enc Try.prog w base spare held n 34 (List.take (Try.prog.cellsOf 34) (List.drop 3 [c0, c1, c2, c3, c4, c5, c6, c7, c8, c9, c10, c11, c12, c13, c14, c15])) = some y1 := (hfs 1 _ rfl).trans e1
  have k2 : DataW.trod enc Try.prog w base spare held n 32 (List.take (Try.prog.cellsOf 32) (List.drop 5 [c0, c1, c2, c3, c4, c5, c6, c7, c8, c9, c10, c11, c12, c13, c14, c15])) = some y2 := (hfs 2 _ rfl).trans e2
  have k3 : DataW.trod enc Try.prog w base spare held n 35 (List.take (Try.prog.cellsOf 35) (List.drop 6 [c0, c1, c2, c3, c4, c5, c6, c7, c8, c9, c10, c11, c12, c13, c14, c15])) = some y3 := (hfs 3 _ rfl).trans e3
  have k4 : DataW.trod enc Try.prog w base spare held n 35 (List.take (Try.prog.cellsOf 35) (List.drop 7 [c0, c1, c2, c3, c4, c5, c6, c7, c8, c9, c10, c11, c12, c13, c14, c15])) = some y4 := (hfs 4 _ rfl).trans e4
  have k5 : DataW.trod enc Try.prog w base spare held n 35 (List.take (Try.prog.cellsOf 35) (List.drop 8 [c0, c1, c2, c3, c4, c5, c6, c7, c8, c9, c10, c11, c12, c13, c14, c15])) = some y5 := (hfs 5 _ rfl).trans e5
  have k6 : DataW.trod enc Try.prog w base spare held n 32 (List.take (Try.prog.cellsOf 32) (List.drop 9 [c0, c1, c2, c3, c4, c5, c6, c7, c8, c9, c10, c11, c12, c13, c14, c15])) = some y6 := (hfs 6 _ rfl).trans e6
  have k7 : DataW.trod enc Try.prog w base spare held n 32 (List.take (Try.prog.cellsOf 32) (List.drop 10 [c0, c1, c2, c3, c4, c5, c6, c7, c8, c9, c10, c11, c12, c13, c14, c15])) = some y7 := (hfs 7 _ rfl).trans e7
  have k8 : DataW.trod enc Try.prog w base spare held n 36 (List.take (Try.prog.cellsOf 36) (List.drop 11 [c0, c1, c2, c3, c4, c5, c6, c7, c8, c9, c10, c11, c12, c13, c14, c15])) = some y8 := (hfs 8 _ rfl).trans e8
  have k9 : DataW.trod enc Try.prog w base spare held n 36 (List.take (Try.prog.cellsOf 36) (List.drop 12 [c0, c1, c2, c3, c4, c5, c6, c7, c8, c9, c10, c11, c12, c13, c14, c15])) = some y9 := (hfs 9 _ rfl).trans e9
  have k10 : DataW.trod enc Try.prog w base spare held n 37 (List.take (Try.prog.cellsOf 37) (List.drop 13 [c0, c1, c2, c3, c4, c5, c6, c7, c8, c9, c10, c11, c12, c13, c14, c15])) = some y10 := (hfs 10 _ rfl).trans e10
  have k11 : DataW.trod enc Try.prog w base spare held n 37 (List.take (Try.prog.cellsOf 37) (List.drop 14 [c0, c1, c2, c3, c4, c5, c6, c7, c8, c9, c10, c11, c12, c13, c14, c15])) = some y11 := (hfs 11 _ rfl).trans e11
  have k12 : DataW.trod enc Try.prog w base spare held n 38 (List.take (Try.prog.cellsOf 38) (List.drop 15 [c0, c1, c2, c3, c4, c5, c6, c7, c8, c9, c10, c11, c12, c13, c14, c15])) = some y12 := (hfs 12 _ rfl).trans e12
  simp only [hH, hI, h64, h32, hE, hU, hD, List.drop_succ_cons, List.drop_zero, List.take_succ_cons, List.take_zero] at k0 k1 k2 k3 k4 k5 k6 k7 k8 k9 k10 k11 k12
  clear hfs hx e0 e1 e2 e3 e4 e5 e6 e7 e8 e9 e10 e11 e12
  obtain ⟨m0, m1, m2, n', _, _, t0, t1, t2⟩ := Deep.trod_struct3 Try.underlying31 k0
  simp only [h8, List.drop_succ_cons, List.drop_zero, List.take_succ_cons, List.take_zero] at t0 t1 t2
  obtain ⟨z0, rfl, b0⟩ := one_u8 t0
  obtain ⟨z1, rfl, b1⟩ := one_u8 t1
  obtain ⟨z2, rfl, b2⟩ := one_u8 t2
  obtain ⟨m3, m4, n'', _, _, t3, t4⟩ := trod_struct2 Try.underlying34 k1
  simp only [h8, h64, List.drop_succ_cons, List.drop_zero, List.take_succ_cons, List.take_zero] at t3 t4
  obtain ⟨z3, rfl, b3⟩ := one_u8 t3
  obtain ⟨z4, rfl, b4⟩ := one_u64 t4
  obtain ⟨z5, rfl, b5⟩ := one_u64 k2
  obtain ⟨z6, rfl, b6⟩ := one_u32 k3
  obtain ⟨z7, rfl, b7⟩ := one_u32 k4
  obtain ⟨z8, rfl, b8⟩ := one_u32 k5
  obtain ⟨z9, rfl, b9⟩ := one_u64 k6
  obtain ⟨z10, rfl, b10⟩ := one_u64 k7
  obtain ⟨Ae, ne, ce, le, rfl, hle, q1, q2, hLe⟩ := open_rns k8
  obtain ⟨Ax, nx, cx, lx, rfl, hlx, q3, q4, hLx⟩ := open_rns k9
  obtain ⟨ln, An, nn, cn, rfl, hln, q5, q6, hLn, hbn⟩ := open_nums Try.underlying37 Try.underlying32 h64 k10
  obtain ⟨lh, Ah, nh, ch, rfl, hlh, q7, q8, hLh, hbh⟩ := open_nums Try.underlying37 Try.underlying32 h64 k11
  obtain ⟨ld, Ad, nd, cd, rfl, hld, q9, q10, hLd⟩ := open_bytes Try.underlying38 Try.underlying5 h8 k12
  subst hle hlx hln hlh hld
  refine ⟨⟨z0, z1, z2, ⟨z3, z4, b3, b4⟩, z5, z6, z7, z8, z9, z10, le, lx, ln, lh, ld⟩, ⟨_, _, _, _, _, rfl, sl_of q1 q2 hLe, sl_of q3 q4 hLx, sl_of q5 q6 hLn, sl_of q7 q8 hLh, sl_of q9 q10 hLd⟩, ⟨b0, b1, b2, b5, b6, b7, b8, b9, b10, hbn, hbh⟩⟩

end

def lt (x y : Id) : Prop := x.f < y.f ∨ (x.f = y.f ∧ x.s < y.s)

end Go.Proofs.Ytmnjedpnhilndaa
