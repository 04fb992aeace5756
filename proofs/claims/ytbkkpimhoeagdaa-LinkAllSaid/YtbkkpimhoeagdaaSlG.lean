/- fresh.Frame: a frame with slices of its own. -/
import Derived.Test.YtbkkpimhoeagdaaSlF
namespace Go.Proofs.Ytbkkpimhoeagdaa
open Go.RowKit Go.Sort

theorem Try.infoRn : (Try.prog.info? 99).map (fun i => (i.zero, i.size, i.bytes)) = some (some (.agg #[.int .u8 0, .int .u64 0, .int .u64 0]), 3, 24) := by kernel_rfl
theorem Try.infoN : (Try.prog.info? 27).map (fun i => (i.zero, i.size, i.bytes)) = some (some (.int .u64 0), 1, 8) := by kernel_rfl
theorem Try.infoB : (Try.prog.info? 5).map (fun i => (i.zero, i.size, i.bytes)) = some (some (.int .u8 0), 1, 1) := by kernel_rfl

theorem encRn_one (x : Rn) : ∀ v ∈ encRn x, v.oneCell' = true := by
  intro v hv
  simp only [encRn, List.mem_cons, List.not_mem_nil, or_false] at hv
  rcases hv with rfl | rfl | rfl <;> rfl
theorem uvs_one (l : List Nat) : ∀ v ∈ uvs l, v.oneCell' = true := by
  intro v hv
  simp only [uvs, List.mem_map] at hv
  obtain ⟨c, _, rfl⟩ := hv
  rfl

def zeroF : Array Value := #[.int .u8 0, .int .u8 0, .int .u8 0, .int .u8 0, .int .u64 0, .int .u64 0, .int .u32 0, .int .u32 0, .int .u32 0, .int .u64 0, .int .u64 0, .slice none 0 0, .slice none 0 0, .slice none 0 0, .slice none 0 0, .slice none 0 0]

/-- What stands while a frame is copied: its box, that of the answer. -/
structure CpS (w : World) (cs : Array Value) (W : World) : Prop where
  below : RowKit.Below w.heap.size w W
  box : W.heap[w.heap.size]? = some (.cells cs 44 (0, 0))
  res : W.heap[w.heap.size + 1]? = some (.cells zeroF 44 (0, 0))

theorem CpS.start {w W : World} {cs : Array Value} (h : (w.alloc (.cells cs 44)).alloc (.cells zeroF 44) = W) : CpS w cs W := by
  obtain ⟨h1, h2, h3⟩ := alloc2_blocks w _ _ h
  exact ⟨h3, h1, h2⟩
theorem CpS.lt {w W : World} {cs : Array Value} (h : CpS w cs W) : w.heap.size + 2 ≤ W.heap.size := (Array.getElem?_eq_some_iff.1 h.res).1
theorem CpS.on {w W W' : World} {cs : Array Value} (h : CpS w cs W) (hb : RowKit.Below W.heap.size W W') : CpS w cs W' :=
  ⟨h.below.trans (hb.mono h.below.size), (hb.block _ (by have := h.lt; omega)).trans h.box, (hb.block _ (by have := h.lt; omega)).trans h.res⟩
theorem CpS.up {w W W' : World} {cs : Array Value} (h : CpS w cs W) (hb : RowKit.Below (w.heap.size + 2) W W') : CpS w cs W' :=
  ⟨h.below.trans (hb.mono (by omega)), (hb.block _ (by omega)).trans h.box, (hb.block _ (by omega)).trans h.res⟩
theorem uvs_length (l : List Nat) : (uvs l).length = l.length := List.length_map _
theorem CpS.set {w W : World} {cs : Array Value} (h : CpS w cs W) (i : Nat) (u : Value) : CpS w (cs.setIfInBounds i u) (W.setCell ⟨w.heap.size, i, none⟩ u) :=
  ⟨h.below.setCell (p := ⟨w.heap.size, i, none⟩) (Nat.le_refl _) u, heap_setCell_same W _ i _ _ u h.box, (heap_setCell_other W ⟨w.heap.size, i, none⟩ (w.heap.size + 1) u (by simp)).trans h.res⟩
theorem CpS.cell {w W : World} {cs : Array Value} (h : CpS w cs W) (i : Nat) : W.cell? ⟨w.heap.size, i, none⟩ = cs[i]? := cell_of_row W _ i _ _ _ h.box
theorem CpS.fr {w W : World} {cs : Array Value} (h : CpS w cs W) (i : Nat) : W.frozen? ⟨w.heap.size, i, none⟩ = false := frozen_of_row W _ i _ _ h.box

/-- What a copy is. -/
def Copied (w : World) (F : Fr) (e : Ending) (w' : World) : Prop := ∃ x : Pf, x.F = F ∧ e = .returned (.agg x.cs) ∧ x.Own w' w.heap.size ∧ RowKit.Below w.heap.size w w'

/-- A slice of the call's own, in a block behind the two boxes, while these are written. -/
theorem own_step {w W W' : World} {base k n : Nat} {e : TypeId} {v : Value} {xs : List Value} (h : W.ownsRow base e k v n xs) (hb : w.heap.size + 2 ≤ base) (ho : OnlyE W W' (fun b => b < w.heap.size + 2)) : W'.ownsRow base e k v n xs :=
  own_only h ho fun b hb' hd => by have := (h.lt b hb').1; omega

set_option maxRecDepth 20000 in
set_option maxHeartbeats 3200000 in
theorem fresh_any (F : Fr) (cs : Array Value) (w : World) (hF : FrL w F cs) (hok : F.Ok) : Calls Try.prog 36 #[.agg cs] w (Copied w F) := by
  obtain ⟨p, rfl, h0, h1, h2, h3, h4⟩ := hF
  have HE0 : Hid (F.est.length ≤ 100) := hok.est
  have HE1 : Hid (F.aux.length ≤ 100) := hok.aux
  have HE2 : Hid (F.done.length ≤ 100) := hok.done
  have HE3 : Hid (F.held.length ≤ 100) := hok.held
  have HE4 : Hid (F.data.length ≤ 4000) := hok.data
  have HL0 : Hid (∀ W, RowKit.Below w.heap.size w W → Lies W w.heap.size (p 0).1 (flat encRn F.est)) := fun W hW => h0.below hW
  have HL1 : Hid (∀ W, RowKit.Below w.heap.size w W → Lies W w.heap.size (p 1).1 (flat encRn F.aux)) := fun W hW => h1.below hW
  have HL2 : Hid (∀ W, RowKit.Below w.heap.size w W → Lies W w.heap.size (p 2).1 (uvs F.done)) := fun W hW => h2.below hW
  have HL3 : Hid (∀ W, RowKit.Below w.heap.size w W → Lies W w.heap.size (p 3).1 (uvs F.held)) := fun W hW => h3.below hW
  have HL4 : Hid (∀ W, RowKit.Below w.heap.size w W → Lies W w.heap.size (p 4).1 (bvs F.data)) := fun W hW => h4.below hW
  obtain ⟨ir, hir, hr0, hr1, hr2⟩ := info_parts Try.infoRn
  obtain ⟨iu, hiu, hu0, hu1, hu2⟩ := info_parts Try.infoN
  obtain ⟨ib, hib, hb0, hb1, hb2⟩ := info_parts Try.infoB
  have HIR := Lib.hid hir
  have HR0 := Lib.hid hr0
  have HR1 := Lib.hid hr1
  have HR2 := Lib.hid hr2
  have HIU := Lib.hid hiu
  have HU0 := Lib.hid hu0
  have HU1 := Lib.hid hu1
  have HU2 := Lib.hid hu2
  have HIB := Lib.hid hib
  have HB0 := Lib.hid hb0
  have HB1 := Lib.hid hb1
  have HB2 := Lib.hid hb2
  clear hir hr0 hr1 hr2 hiu hu0 hu1 hu2 hib hb0 hb1 hb2 h0 h1 h2 h3 h4 hok
  generalize hcs : frCells F (.slice (p 0).1 F.est.length (p 0).2) (.slice (p 1).1 F.aux.length (p 1).2) (.slice (p 2).1 F.done.length (p 2).2) (.slice (p 3).1 F.held.length (p 3).2) (.slice (p 4).1 F.data.length (p 4).2) = cs
  have x11 : cs[11]? = some (.slice (p 0).1 F.est.length (p 0).2) := by rw [← hcs]; rfl
  have x12 : cs[12]? = some (.slice (p 1).1 F.aux.length (p 1).2) := by rw [← hcs]; rfl
  have x13 : cs[13]? = some (.slice (p 2).1 F.done.length (p 2).2) := by rw [← hcs]; rfl
  have x14 : cs[14]? = some (.slice (p 3).1 F.held.length (p 3).2) := by rw [← hcs]; rfl
  have x15 : cs[15]? = some (.slice (p 4).1 F.data.length (p 4).2) := by rw [← hcs]; rfl
  have HCS := Lib.hid hcs
  clear hcs
  generalize hn0 : F.est.length = n0 at *
  have HN0 := Lib.hid hn0
  clear hn0
  generalize hn1 : F.aux.length = n1 at *
  have HN1 := Lib.hid hn1
  clear hn1
  generalize hn2 : F.done.length = n2 at *
  have HN2 := Lib.hid hn2
  clear hn2
  generalize hn3 : F.held.length = n3 at *
  have HN3 := Lib.hid hn3
  clear hn3
  generalize hn4 : F.data.length = n4 at *
  have HN4 := Lib.hid hn4
  clear hn4
  have HS9 : Hid (∀ E, (w.alloc (.cells cs 44)).alloc (.cells zeroF 44) = E → CpS w cs E) := fun E h => CpS.start h
  go_enter Try.func36, Try.ntmps36
  go_wp2_with (first | (at_builtin; refine wpList_append_lstK rfl _ _ 41 rfl _ 3 (by decide) 99 _ (.agg #[.int .u8 0, .int .u64 0, .int .u64 0]) 24 Try.underlying41 HIR.out HR0.out HR1.out HR2.out rfl _ 0 [] rfl (World.ownsRow_nil _ _ _ _) _ _ _ _ (flat encRn F.est) rfl ?d0 (HL0.out _ ?l0) (flat_one encRn_one _) ?m0 ?k0 (Nat.le_refl _) ?_) | fail)
  case d0 => rw [flat_length encRn_len, HN0.out]
  case l0 => exact (HS9.out _ rfl).below
  case m0 => have := HE0.out; unfold maxLen; omega
  case k0 => have := HE0.out; omega
  intro v0 W0 ho0 _ hb0 _
  try rw [Nat.zero_add] at ho0
  try rw [List.nil_append] at ho0
  obtain ⟨A0, c0, rfl, -, -⟩ := own_sliceK ho0
  have HS0 : Hid (CpS w cs W0) := (HS9.out _ rfl).up (hb0.mono (by omega))
  have HO0_0 : Hid (W0.ownsRow (w.heap.size + 2) 99 3 (.slice A0 n0 c0) n0 (flat encRn F.est)) := own_base ho0 (by omega)
  have HV0 : Hid (CpS w (cs.setIfInBounds 11 (.slice A0 n0 c0)) (W0.setCell ⟨w.heap.size, 11, none⟩ (.slice A0 n0 c0))) := HS0.out.set 11 _
  have HO0_0v : Hid ((W0.setCell ⟨w.heap.size, 11, none⟩ (.slice A0 n0 c0)).ownsRow (w.heap.size + 2) 99 3 (.slice A0 n0 c0) n0 (flat encRn F.est)) := own_step (w := w) HO0_0.out (Nat.le_refl _) (onlyE_set (D := fun b => b < w.heap.size + 2) (by omega) _ _)
  clear ho0 hb0
  have q11 := HS0.out.fr 11
  have z11 : W0.cell? ⟨w.heap.size, 11, none⟩ = some (.slice (p 0).1 n0 (p 0).2) := by rw [HS0.out.cell 11]; simp [x11]
  have z12 : W0.cell? ⟨w.heap.size, 12, none⟩ = some (.slice (p 1).1 n1 (p 1).2) := by rw [HS0.out.cell 12]; simp [x12]
  clear x11
  have hs0 := HS0.out.lt
  go_wp2_with (first | (at_builtin; refine wpList_append_lstK rfl _ _ 41 rfl _ 3 (by decide) 99 _ (.agg #[.int .u8 0, .int .u64 0, .int .u64 0]) 24 Try.underlying41 HIR.out HR0.out HR1.out HR2.out rfl _ 0 [] rfl (World.ownsRow_nil _ _ _ _) _ _ _ _ (flat encRn F.aux) rfl ?d1 (HL1.out _ ?l1) (flat_one encRn_one _) ?m1 ?k1 (Nat.le_refl _) ?_) | fail)
  case d1 => rw [flat_length encRn_len, HN1.out]
  case l1 => exact (HV0.out).below
  case m1 => have := HE1.out; unfold maxLen; omega
  case k1 => have := HE1.out; omega
  intro v1 W1 ho1 _ hb1 _
  try rw [Nat.zero_add] at ho1
  try rw [List.nil_append] at ho1
  obtain ⟨A1, c1, rfl, -, -⟩ := own_sliceK ho1
  have HS1 : Hid (CpS w (cs.setIfInBounds 11 (.slice A0 n0 c0)) W1) := (HV0.out).up (hb1.mono (by have := HS0.out.lt; omega))
  have HO0_1 : Hid (W1.ownsRow (w.heap.size + 2) 99 3 (.slice A0 n0 c0) n0 (flat encRn F.est)) := own_below HO0_0v.out (hb1.mono (by simp))
  have HO1_1 : Hid (W1.ownsRow (w.heap.size + 2) 99 3 (.slice A1 n1 c1) n1 (flat encRn F.aux)) := own_base ho1 (by have := HS0.out.lt; omega)
  have HV1 : Hid (CpS w ((cs.setIfInBounds 11 (.slice A0 n0 c0)).setIfInBounds 12 (.slice A1 n1 c1)) (W1.setCell ⟨w.heap.size, 12, none⟩ (.slice A1 n1 c1))) := HS1.out.set 12 _
  have HO0_1v : Hid ((W1.setCell ⟨w.heap.size, 12, none⟩ (.slice A1 n1 c1)).ownsRow (w.heap.size + 2) 99 3 (.slice A0 n0 c0) n0 (flat encRn F.est)) := own_step (w := w) HO0_1.out (Nat.le_refl _) (onlyE_set (D := fun b => b < w.heap.size + 2) (by omega) _ _)
  have HO1_1v : Hid ((W1.setCell ⟨w.heap.size, 12, none⟩ (.slice A1 n1 c1)).ownsRow (w.heap.size + 2) 99 3 (.slice A1 n1 c1) n1 (flat encRn F.aux)) := own_step (w := w) HO1_1.out (Nat.le_refl _) (onlyE_set (D := fun b => b < w.heap.size + 2) (by omega) _ _)
  clear ho1 hb1 z11 z12 q11
  have q12 := HS1.out.fr 12
  have z12 : W1.cell? ⟨w.heap.size, 12, none⟩ = some (.slice (p 1).1 n1 (p 1).2) := by rw [HS1.out.cell 12]; simp [x12]
  have z13 : W1.cell? ⟨w.heap.size, 13, none⟩ = some (.slice (p 2).1 n2 (p 2).2) := by rw [HS1.out.cell 13]; simp [x13]
  clear x12
  have hs1 := HS1.out.lt
  go_wp2_with (first | (at_builtin; refine wpList_append_lstK rfl _ _ 42 rfl _ 1 (by decide) 27 _ (.int .u64 0) 8 Try.underlying42 HIU.out HU0.out HU1.out HU2.out rfl _ 0 [] rfl (World.ownsRow_nil _ _ _ _) _ _ _ _ (uvs F.done) rfl ?d2 (HL2.out _ ?l2) (uvs_one _) ?m2 ?k2 (Nat.le_refl _) ?_) | fail)
  case d2 => rw [uvs_length, HN2.out, Nat.mul_one]
  case l2 => exact (HV1.out).below
  case m2 => have := HE2.out; unfold maxLen; omega
  case k2 => have := HE2.out; omega
  intro v2 W2 ho2 _ hb2 _
  try rw [Nat.zero_add] at ho2
  try rw [List.nil_append] at ho2
  obtain ⟨A2, c2, rfl, -, -⟩ := own_sliceK ho2
  have HS2 : Hid (CpS w ((cs.setIfInBounds 11 (.slice A0 n0 c0)).setIfInBounds 12 (.slice A1 n1 c1)) W2) := (HV1.out).up (hb2.mono (by have := HS1.out.lt; omega))
  have HO0_2 : Hid (W2.ownsRow (w.heap.size + 2) 99 3 (.slice A0 n0 c0) n0 (flat encRn F.est)) := own_below HO0_1v.out (hb2.mono (by simp))
  have HO1_2 : Hid (W2.ownsRow (w.heap.size + 2) 99 3 (.slice A1 n1 c1) n1 (flat encRn F.aux)) := own_below HO1_1v.out (hb2.mono (by simp))
  have HO2_2 : Hid (W2.ownsRow (w.heap.size + 2) 27 1 (.slice A2 n2 c2) n2 (uvs F.done)) := own_base ho2 (by have := HS1.out.lt; omega)
  have HV2 : Hid (CpS w (((cs.setIfInBounds 11 (.slice A0 n0 c0)).setIfInBounds 12 (.slice A1 n1 c1)).setIfInBounds 13 (.slice A2 n2 c2)) (W2.setCell ⟨w.heap.size, 13, none⟩ (.slice A2 n2 c2))) := HS2.out.set 13 _
  have HO0_2v : Hid ((W2.setCell ⟨w.heap.size, 13, none⟩ (.slice A2 n2 c2)).ownsRow (w.heap.size + 2) 99 3 (.slice A0 n0 c0) n0 (flat encRn F.est)) := own_step (w := w) HO0_2.out (Nat.le_refl _) (onlyE_set (D := fun b => b < w.heap.size + 2) (by omega) _ _)
  have HO1_2v : Hid ((W2.setCell ⟨w.heap.size, 13, none⟩ (.slice A2 n2 c2)).ownsRow (w.heap.size + 2) 99 3 (.slice A1 n1 c1) n1 (flat encRn F.aux)) := own_step (w := w) HO1_2.out (Nat.le_refl _) (onlyE_set (D := fun b => b < w.heap.size + 2) (by omega) _ _)
  have HO2_2v : Hid ((W2.setCell ⟨w.heap.size, 13, none⟩ (.slice A2 n2 c2)).ownsRow (w.heap.size + 2) 27 1 (.slice A2 n2 c2) n2 (uvs F.done)) := own_step (w := w) HO2_2.out (Nat.le_refl _) (onlyE_set (D := fun b => b < w.heap.size + 2) (by omega) _ _)
  clear ho2 hb2 z12 z13 q12
  have q13 := HS2.out.fr 13
  have z13 : W2.cell? ⟨w.heap.size, 13, none⟩ = some (.slice (p 2).1 n2 (p 2).2) := by rw [HS2.out.cell 13]; simp [x13]
  have z14 : W2.cell? ⟨w.heap.size, 14, none⟩ = some (.slice (p 3).1 n3 (p 3).2) := by rw [HS2.out.cell 14]; simp [x14]
  clear x13
  have hs2 := HS2.out.lt
  go_wp2_with (first | (at_builtin; refine wpList_append_lstK rfl _ _ 42 rfl _ 1 (by decide) 27 _ (.int .u64 0) 8 Try.underlying42 HIU.out HU0.out HU1.out HU2.out rfl _ 0 [] rfl (World.ownsRow_nil _ _ _ _) _ _ _ _ (uvs F.held) rfl ?d3 (HL3.out _ ?l3) (uvs_one _) ?m3 ?k3 (Nat.le_refl _) ?_) | fail)
  case d3 => rw [uvs_length, HN3.out, Nat.mul_one]
  case l3 => exact (HV2.out).below
  case m3 => have := HE3.out; unfold maxLen; omega
  case k3 => have := HE3.out; omega
  intro v3 W3 ho3 _ hb3 _
  try rw [Nat.zero_add] at ho3
  try rw [List.nil_append] at ho3
  obtain ⟨A3, c3, rfl, -, -⟩ := own_sliceK ho3
  have HS3 : Hid (CpS w (((cs.setIfInBounds 11 (.slice A0 n0 c0)).setIfInBounds 12 (.slice A1 n1 c1)).setIfInBounds 13 (.slice A2 n2 c2)) W3) := (HV2.out).up (hb3.mono (by have := HS2.out.lt; omega))
  have HO0_3 : Hid (W3.ownsRow (w.heap.size + 2) 99 3 (.slice A0 n0 c0) n0 (flat encRn F.est)) := own_below HO0_2v.out (hb3.mono (by simp))
  have HO1_3 : Hid (W3.ownsRow (w.heap.size + 2) 99 3 (.slice A1 n1 c1) n1 (flat encRn F.aux)) := own_below HO1_2v.out (hb3.mono (by simp))
  have HO2_3 : Hid (W3.ownsRow (w.heap.size + 2) 27 1 (.slice A2 n2 c2) n2 (uvs F.done)) := own_below HO2_2v.out (hb3.mono (by simp))
  have HO3_3 : Hid (W3.ownsRow (w.heap.size + 2) 27 1 (.slice A3 n3 c3) n3 (uvs F.held)) := own_base ho3 (by have := HS2.out.lt; omega)
  have HV3 : Hid (CpS w ((((cs.setIfInBounds 11 (.slice A0 n0 c0)).setIfInBounds 12 (.slice A1 n1 c1)).setIfInBounds 13 (.slice A2 n2 c2)).setIfInBounds 14 (.slice A3 n3 c3)) (W3.setCell ⟨w.heap.size, 14, none⟩ (.slice A3 n3 c3))) := HS3.out.set 14 _
  have HO0_3v : Hid ((W3.setCell ⟨w.heap.size, 14, none⟩ (.slice A3 n3 c3)).ownsRow (w.heap.size + 2) 99 3 (.slice A0 n0 c0) n0 (flat encRn F.est)) := own_step (w := w) HO0_3.out (Nat.le_refl _) (onlyE_set (D := fun b => b < w.heap.size + 2) (by omega) _ _)
  have HO1_3v : Hid ((W3.setCell ⟨w.heap.size, 14, none⟩ (.slice A3 n3 c3)).ownsRow (w.heap.size + 2) 99 3 (.slice A1 n1 c1) n1 (flat encRn F.aux)) := own_step (w := w) HO1_3.out (Nat.le_refl _) (onlyE_set (D := fun b => b < w.heap.size + 2) (by omega) _ _)
  have HO2_3v : Hid ((W3.setCell ⟨w.heap.size, 14, none⟩ (.slice A3 n3 c3)).ownsRow (w.heap.size + 2) 27 1 (.slice A2 n2 c2) n2 (uvs F.done)) := own_step (w := w) HO2_3.out (Nat.le_refl _) (onlyE_set (D := fun b => b < w.heap.size + 2) (by omega) _ _)
  have HO3_3v : Hid ((W3.setCell ⟨w.heap.size, 14, none⟩ (.slice A3 n3 c3)).ownsRow (w.heap.size + 2) 27 1 (.slice A3 n3 c3) n3 (uvs F.held)) := own_step (w := w) HO3_3.out (Nat.le_refl _) (onlyE_set (D := fun b => b < w.heap.size + 2) (by omega) _ _)
  clear ho3 hb3 z13 z14 q13
  have q14 := HS3.out.fr 14
  have z14 : W3.cell? ⟨w.heap.size, 14, none⟩ = some (.slice (p 3).1 n3 (p 3).2) := by rw [HS3.out.cell 14]; simp [x14]
  have z15 : W3.cell? ⟨w.heap.size, 15, none⟩ = some (.slice (p 4).1 n4 (p 4).2) := by rw [HS3.out.cell 15]; simp [x15]
  clear x14
  have hs3 := HS3.out.lt
  
  go_wp2_with (first | (at_builtin; refine wpList_append_lstK rfl _ _ 30 rfl _ 1 (by decide) 5 _ (.int .u8 0) 1 Try.underlying30 HIB.out HB0.out HB1.out HB2.out rfl _ 0 [] rfl (World.ownsRow_nil _ _ _ _) _ _ _ _ (bvs F.data) rfl ?d4 (HL4.out _ ?l4) (bvs_one _) ?m4 ?k4 (Nat.le_refl _) ?_) | fail)
  case d4 => rw [bvs_length, HN4.out, Nat.mul_one]
  case l4 => exact (HV3.out).below
  case m4 => have := HE4.out; unfold maxLen; omega
  case k4 => have := HE4.out; omega
  intro v4 W4 ho4 _ hb4 _
  try rw [Nat.zero_add] at ho4
  try rw [List.nil_append] at ho4
  obtain ⟨A4, c4, rfl, -, -⟩ := own_sliceK ho4
  have HS4 : Hid (CpS w ((((cs.setIfInBounds 11 (.slice A0 n0 c0)).setIfInBounds 12 (.slice A1 n1 c1)).setIfInBounds 13 (.slice A2 n2 c2)).setIfInBounds 14 (.slice A3 n3 c3)) W4) := (HV3.out).up (hb4.mono (by have := HS3.out.lt; omega))
  have HO0_4 : Hid (W4.ownsRow (w.heap.size + 2) 99 3 (.slice A0 n0 c0) n0 (flat encRn F.est)) := own_below HO0_3v.out (hb4.mono (by simp))
  have HO1_4 : Hid (W4.ownsRow (w.heap.size + 2) 99 3 (.slice A1 n1 c1) n1 (flat encRn F.aux)) := own_below HO1_3v.out (hb4.mono (by simp))
  have HO2_4 : Hid (W4.ownsRow (w.heap.size + 2) 27 1 (.slice A2 n2 c2) n2 (uvs F.done)) := own_below HO2_3v.out (hb4.mono (by simp))
  have HO3_4 : Hid (W4.ownsRow (w.heap.size + 2) 27 1 (.slice A3 n3 c3) n3 (uvs F.held)) := own_below HO3_3v.out (hb4.mono (by simp))
  have HO4_4 : Hid (W4.ownsRow (w.heap.size + 2) 5 1 (.slice A4 n4 c4) n4 (bvs F.data)) := own_base ho4 (by have := HS3.out.lt; omega)
  have HV4 : Hid (CpS w (((((cs.setIfInBounds 11 (.slice A0 n0 c0)).setIfInBounds 12 (.slice A1 n1 c1)).setIfInBounds 13 (.slice A2 n2 c2)).setIfInBounds 14 (.slice A3 n3 c3)).setIfInBounds 15 (.slice A4 n4 c4)) (W4.setCell ⟨w.heap.size, 15, none⟩ (.slice A4 n4 c4))) := HS4.out.set 15 _
  have HO0_4v : Hid ((W4.setCell ⟨w.heap.size, 15, none⟩ (.slice A4 n4 c4)).ownsRow (w.heap.size + 2) 99 3 (.slice A0 n0 c0) n0 (flat encRn F.est)) := own_step (w := w) HO0_4.out (Nat.le_refl _) (onlyE_set (D := fun b => b < w.heap.size + 2) (by omega) _ _)
  have HO1_4v : Hid ((W4.setCell ⟨w.heap.size, 15, none⟩ (.slice A4 n4 c4)).ownsRow (w.heap.size + 2) 99 3 (.slice A1 n1 c1) n1 (flat encRn F.aux)) := own_step (w := w) HO1_4.out (Nat.le_refl _) (onlyE_set (D := fun b => b < w.heap.size + 2) (by omega) _ _)
  have HO2_4v : Hid ((W4.setCell ⟨w.heap.size, 15, none⟩ (.slice A4 n4 c4)).ownsRow (w.heap.size + 2) 27 1 (.slice A2 n2 c2) n2 (uvs F.done)) := own_step (w := w) HO2_4.out (Nat.le_refl _) (onlyE_set (D := fun b => b < w.heap.size + 2) (by omega) _ _)
  have HO3_4v : Hid ((W4.setCell ⟨w.heap.size, 15, none⟩ (.slice A4 n4 c4)).ownsRow (w.heap.size + 2) 27 1 (.slice A3 n3 c3) n3 (uvs F.held)) := own_step (w := w) HO3_4.out (Nat.le_refl _) (onlyE_set (D := fun b => b < w.heap.size + 2) (by omega) _ _)
  have HO4_4v : Hid ((W4.setCell ⟨w.heap.size, 15, none⟩ (.slice A4 n4 c4)).ownsRow (w.heap.size + 2) 5 1 (.slice A4 n4 c4) n4 (bvs F.data)) := own_step (w := w) HO4_4.out (Nat.le_refl _) (onlyE_set (D := fun b => b < w.heap.size + 2) (by omega) _ _)
  clear ho4 hb4 z14 z15 q14
  have q15 := HS4.out.fr 15
  have z15 : W4.cell? ⟨w.heap.size, 15, none⟩ = some (.slice (p 4).1 n4 (p 4).2) := by rw [HS4.out.cell 15]; simp [x15]
  clear x15
  have HBX := Lib.hid HV4.out.box
  have HRX := Lib.hid HV4.out.res
  have HSZ : Hid ((((((cs.setIfInBounds 11 (.slice A0 n0 c0)).setIfInBounds 12 (.slice A1 n1 c1)).setIfInBounds 13 (.slice A2 n2 c2)).setIfInBounds 14 (.slice A3 n3 c3)).setIfInBounds 15 (.slice A4 n4 c4)).size = 16) := by show _ = _; rw [← HCS.out]; rfl
  have HEQ : Hid ((((((cs.setIfInBounds 11 (.slice A0 n0 c0)).setIfInBounds 12 (.slice A1 n1 c1)).setIfInBounds 13 (.slice A2 n2 c2)).setIfInBounds 14 (.slice A3 n3 c3)).setIfInBounds 15 (.slice A4 n4 c4)) = (Pf.mk F (fun i => match i with | 0 => (A0, c0) | 1 => (A1, c1) | 2 => (A2, c2) | 3 => (A3, c3) | 4 => (A4, c4))).cs) := by show _ = _; rw [← HCS.out]; unfold Pf.cs; simp only [HN0.out, HN1.out, HN2.out, HN3.out, HN4.out]; rfl
  have H1C : Hid ((((((cs.setIfInBounds 11 (.slice A0 n0 c0)).setIfInBounds 12 (.slice A1 n1 c1)).setIfInBounds 13 (.slice A2 n2 c2)).setIfInBounds 14 (.slice A3 n3 c3)).setIfInBounds 15 (.slice A4 n4 c4)).all (·.oneCell') = true) := by show _ = _; rw [HEQ.out]; exact Pf.one _
  have HB4W : Hid (RowKit.Below w.heap.size w (W4.setCell ⟨w.heap.size, 15, none⟩ (.slice A4 n4 c4))) := HV4.out.below
  have HOW : Hid ((Pf.mk F (fun i => match i with | 0 => (A0, c0) | 1 => (A1, c1) | 2 => (A2, c2) | 3 => (A3, c3) | 4 => (A4, c4))).Own (W4.setCell ⟨w.heap.size, 15, none⟩ (.slice A4 n4 c4)) (w.heap.size + 2)) := by unfold Pf.Own; simp only [HN0.out, HN1.out, HN2.out, HN3.out, HN4.out]; exact ⟨HO0_4v.out, HO1_4v.out, HO2_4v.out, HO3_4v.out, HO4_4v.out⟩
  go_upto_region 6 with fail
  generalize W4.setCell ⟨w.heap.size, 15, none⟩ (.slice A4 n4 c4) = V at HBX HRX HB4W HOW ⊢
  generalize (((((cs.setIfInBounds 11 (.slice A0 n0 c0)).setIfInBounds 12 (.slice A1 n1 c1)).setIfInBounds 13 (.slice A2 n2 c2)).setIfInBounds 14 (.slice A3 n3 c3)).setIfInBounds 15 (.slice A4 n4 c4)) = c5 at HBX HSZ HEQ H1C
  have HRT : Hid ((V.setRow (w.heap.size + 1) c5).heap[w.heap.size + 1]? = some (.cells c5 44 (0, 0))) := setRow_heap _ _ _ _ _ _ HRX.out
  go_wp2_with (first | (refine load_frame (.tmp 1) rfl HBX.out HSZ.out ?_) | (refine store_frame (.tmp 2) (.tmp 23) rfl rfl HRX.out rfl HSZ.out H1C.out ?_) | fail)
  refine bodyPost_ret (results_cell_row rfl _ _ _ _ _ _ _ rfl HRT.out Try.underlying44 rfl (info33 HSZ.out)) rfl ?_
  refine ⟨_, rfl, by rw [HEQ.out], ?_, ?_⟩
  · exact (HOW.out.only (onlyE_setRow (D := fun b => b = w.heap.size + 1) rfl _) fun k hk => .inl (by omega)).base (by omega)
  · exact Below.setRow HB4W.out (by omega) _

end Go.Proofs.Ytbkkpimhoeagdaa
