/- The document's May: the words. -/
import Derived.Test.YtbfjfidodpgohaaT24
import Derived.Test.YtbfjfidodpgohaaT25
import Derived.Test.YtbfjfidodpgohaaT26
import Derived.Test.YtbfjfidodpgohaaT27

namespace Go.Proofs.Ytbfjfidodpgohaa
open Go.RowKit Go.Sort

theorem beq_cast (a b : Nat) : ((a : Int) == (b : Int)) = (a == b) := by rw [Bool.eq_iff_iff]; simp; omega
theorem refMay64 (x : Id) (V : World) : Calls Try.prog 39 #[.agg #[.int .u8 (x.f : Int), .int .u64 (x.s : Int)], .int .i64 64] V fun e w' => e = .returned (.bool (mayB x)) ∧ RowKit.Below V.heap.size V w' := by
  have := refMay_any x 64 V (by omega)
  rw [may64] at this
  exact this.mono fun _ _ h => ⟨h.1, h.2.below⟩

noncomputable def mayK1 (F : Fr) : Bool := absB F ⟨#[113, 100, 97, 111, 122, 98]⟩ && !decide (63 < F.src) && !decide (63 < F.dst) && !(F.src == F.dst) && !decide (4611686018427387904 < F.seq) && !decide (4611686018427387904 < F.inst) && !decide (4611686018427387904 < F.rnd) && mayB F.id && !decide (1048576 ≤ F.at_) && !decide (F.of_ ≤ F.at_) && !decide (1048576 < F.of_) && !decide (1048576 < F.size) && !decide (65536 < F.data.length) && runsB F.est && runsB F.aux && vecB F.done && vecB F.held
noncomputable def mayK2 (F : Fr) : Bool := absB F ⟨#[113]⟩ && !decide (63 < F.src) && !decide (63 < F.dst) && !(F.src == F.dst) && !decide (4611686018427387904 < F.seq) && !decide (4611686018427387904 < F.inst) && !decide (4611686018427387904 < F.rnd) && !decide (1048576 ≤ F.at_) && runsB F.est && runsB F.aux && vecB F.done && vecB F.held
noncomputable def mayK3 (F : Fr) : Bool := absB F ⟨#[100, 97]⟩ && !decide (63 < F.src) && !decide (63 < F.dst) && !(F.src == F.dst) && !decide (4611686018427387904 < F.seq) && !decide (4611686018427387904 < F.inst) && !decide (4611686018427387904 < F.rnd) && mayB F.id && !decide (1048576 ≤ F.at_) && runsB F.est && runsB F.aux && vecB F.done && vecB F.held
noncomputable def mayK4 (F : Fr) : Bool := absB F ⟨#[100, 97, 111, 122, 98]⟩ && !decide (63 < F.src) && !decide (63 < F.dst) && !(F.src == F.dst) && !decide (4611686018427387904 < F.seq) && !decide (4611686018427387904 < F.inst) && !decide (4611686018427387904 < F.rnd) && mayB F.id && !decide (1048576 ≤ F.at_) && !decide (F.of_ ≤ F.at_) && !decide (1048576 < F.of_) && !decide (1048576 < F.size) && !decide (65536 < F.data.length) && runsB F.est && runsB F.aux && vecB F.done && vecB F.held
noncomputable def mayK5 (F : Fr) : Bool := absB F ⟨#[113]⟩ && !decide (63 < F.src) && !decide (63 < F.dst) && !(F.src == F.dst) && !decide (4611686018427387904 < F.seq) && !decide (4611686018427387904 < F.inst) && !decide (4611686018427387904 < F.rnd) && !decide (1048576 ≤ F.at_) && runsB F.est && runsB F.aux && vecB F.done && vecB F.held
noncomputable def mayK6 (F : Fr) : Bool := absB F ⟨#[105, 114, 101]⟩ && !decide (63 < F.src) && !decide (63 < F.dst) && !(F.src == F.dst) && !decide (4611686018427387904 < F.seq) && !decide (4611686018427387904 < F.inst) && !decide (4611686018427387904 < F.rnd) && !(F.inst == 0) && !decide (1048576 ≤ F.at_) && runsB F.est && runsB F.aux && vecB F.done && vecB F.held
noncomputable def mayK7 (F : Fr) : Bool := absB F ⟨#[105, 114, 101, 120]⟩ && !decide (63 < F.src) && !decide (63 < F.dst) && !(F.src == F.dst) && !decide (4611686018427387904 < F.seq) && !decide (4611686018427387904 < F.inst) && !decide (4611686018427387904 < F.rnd) && !(F.inst == 0) && !decide (1048576 ≤ F.at_) && runsB F.est && runsB F.aux && vecB F.done && vecB F.held
noncomputable def mayK8 (F : Fr) : Bool := absB F ⟨#[105, 101]⟩ && !decide (63 < F.src) && !decide (63 < F.dst) && !(F.src == F.dst) && !decide (4611686018427387904 < F.seq) && !decide (4611686018427387904 < F.inst) && !decide (4611686018427387904 < F.rnd) && !(F.inst == 0) && !decide (1048576 ≤ F.at_) && runsB F.est && runsB F.aux && vecB F.done && vecB F.held && decide (0 < F.est.length)
noncomputable def mayK9 (F : Fr) : Bool := absB F ⟨#[105, 110, 104]⟩ && !decide (63 < F.src) && !decide (63 < F.dst) && !(F.src == F.dst) && !decide (4611686018427387904 < F.seq) && !decide (4611686018427387904 < F.inst) && !decide (4611686018427387904 < F.rnd) && !decide (1048576 ≤ F.at_) && runsB F.est && runsB F.aux && vecB F.done && vecB F.held
noncomputable def mayK10 (F : Fr) : Bool := absB F ⟨#[113]⟩ && !decide (63 < F.src) && !decide (63 < F.dst) && !(F.src == F.dst) && !decide (4611686018427387904 < F.seq) && !decide (4611686018427387904 < F.inst) && !decide (4611686018427387904 < F.rnd) && !decide (1048576 ≤ F.at_) && runsB F.est && runsB F.aux && vecB F.done && vecB F.held

end Go.Proofs.Ytbfjfidodpgohaa

/- The document's May is the program's (plain). -/
namespace Go.Proofs.Ytbfjfidodpgohaa
open Go.RowKit Go.Sort

theorem runsB_nil : runsB [] = true := by
  have h1 : rowsB [] = true := rowsB_true (fun i hi => absurd hi (by simp))
  have h2 : cntN [] = 0 := rfl
  unfold runsB
  rw [h1, h2]
  decide
theorem vecB_nil : vecB [] = true := rfl
theorem cSeq (F : Fr) (b : Bool) : vSeq ckV (F, b) = ({ F with seq := 0 }, b || !decide (F.seq ≤ 4611686018427387904)) := rfl
theorem cInst (F : Fr) (b : Bool) : vInst ckV (F, b) = ({ F with inst := 0 }, b || !decide (F.inst ≤ 4611686018427387904)) := rfl
theorem cRnd (F : Fr) (b : Bool) : vRnd ckV (F, b) = ({ F with rnd := 0 }, b || !decide (F.rnd ≤ 4611686018427387904)) := rfl
theorem cAt (F : Fr) (b : Bool) : vAt ckV (F, b) = ({ F with at_ := 0 }, b) := rfl
theorem cOf (F : Fr) (b : Bool) : vOf ckV (F, b) = ({ F with of_ := 0 }, b) := rfl
theorem cSize (F : Fr) (b : Bool) : vSize ckV (F, b) = ({ F with size := 0 }, b) := rfl
theorem cId (F : Fr) (b : Bool) : vId ckV (F, b) = ({ F with id := zeroId }, b || !mayB F.id) := rfl
theorem cEst (F : Fr) (b : Bool) : vEst ckV (F, b) = ({ F with est := [] }, b || !runsB F.est) := rfl
theorem cAux (F : Fr) (b : Bool) : vAux ckV (F, b) = ({ F with aux := [] }, b || !runsB F.aux) := rfl
theorem cDone (F : Fr) (b : Bool) : vDone ckV (F, b) = ({ F with done := [] }, b || !vecB F.done) := rfl
theorem cHeld (F : Fr) (b : Bool) : vHeld ckV (F, b) = ({ F with held := [] }, b || !vecB F.held) := rfl
theorem cData (F : Fr) (b : Bool) : vData ckV (F, b) = ({ F with data := [] }, b || !decide (F.data.length ≤ 65536)) := rfl
theorem id_zero (x : Id) : x = zeroId ↔ x.f = 0 ∧ x.s = 0 := by
  constructor
  · rintro rfl; exact ⟨rfl, rfl⟩
  · intro h
    obtain ⟨f, s, hf, hs⟩ := x
    obtain ⟨rfl, rfl⟩ := h
    rfl

theorem mayK1_eq (F : Fr) (hk : F.kind = 1) : mayK1 F = mayF F := by
  have e : ckAll F = _ := vAll1 ckV (F, false) hk
  simp only [vChunk, cSeq, cId, cAt, cOf, cSize, cData] at e
  unfold mayF mayK1 absB
  rw [e, show inB ⟨#[113, 100, 97, 111, 122, 98]⟩ 113 = true from by decide, show inB ⟨#[113, 100, 97, 111, 122, 98]⟩ 100 = true from by decide, show inB ⟨#[113, 100, 97, 111, 122, 98]⟩ 97 = true from by decide, show inB ⟨#[113, 100, 97, 111, 122, 98]⟩ 111 = true from by decide, show inB ⟨#[113, 100, 97, 111, 122, 98]⟩ 122 = true from by decide, show inB ⟨#[113, 100, 97, 111, 122, 98]⟩ 105 = false from by decide, show inB ⟨#[113, 100, 97, 111, 122, 98]⟩ 114 = false from by decide, show inB ⟨#[113, 100, 97, 111, 122, 98]⟩ 101 = false from by decide, show inB ⟨#[113, 100, 97, 111, 122, 98]⟩ 120 = false from by decide, show inB ⟨#[113, 100, 97, 111, 122, 98]⟩ 110 = false from by decide, show inB ⟨#[113, 100, 97, 111, 122, 98]⟩ 104 = false from by decide, show inB ⟨#[113, 100, 97, 111, 122, 98]⟩ 98 = true from by decide]
  clear e
  unfold bareB headB placeB kindB isKind
  dsimp only
  simp only [hk]
  have r0 := runsB_nil
  have v0 := vecB_nil
  have he : F.est.length = 0 → runsB F.est = true := fun q => by rw [List.eq_nil_of_length_eq_zero q]; first | exact r0 | exact v0
  have hx : F.aux.length = 0 → runsB F.aux = true := fun q => by rw [List.eq_nil_of_length_eq_zero q]; first | exact r0 | exact v0
  have hn : F.done.length = 0 → vecB F.done = true := fun q => by rw [List.eq_nil_of_length_eq_zero q]; first | exact r0 | exact v0
  have hh : F.held.length = 0 → vecB F.held = true := fun q => by rw [List.eq_nil_of_length_eq_zero q]; first | exact r0 | exact v0
  clear r0 v0
  generalize runsB F.est = qe at *
  generalize runsB F.aux = qx at *
  generalize vecB F.done = qn at *
  generalize vecB F.held = qh at *
  generalize mayB F.id = qd at *
  rw [Bool.eq_iff_iff]
  grind

theorem mayK2_eq (F : Fr) (hk : F.kind = 2) : mayK2 F = mayF F := by
  have e : ckAll F = _ := vAll2 ckV (F, false) hk
  simp only [cSeq] at e
  unfold mayF mayK2 absB
  rw [e, show inB ⟨#[113]⟩ 113 = true from by decide, show inB ⟨#[113]⟩ 100 = false from by decide, show inB ⟨#[113]⟩ 97 = false from by decide, show inB ⟨#[113]⟩ 111 = false from by decide, show inB ⟨#[113]⟩ 122 = false from by decide, show inB ⟨#[113]⟩ 105 = false from by decide, show inB ⟨#[113]⟩ 114 = false from by decide, show inB ⟨#[113]⟩ 101 = false from by decide, show inB ⟨#[113]⟩ 120 = false from by decide, show inB ⟨#[113]⟩ 110 = false from by decide, show inB ⟨#[113]⟩ 104 = false from by decide, show inB ⟨#[113]⟩ 98 = false from by decide]
  clear e
  unfold bareB headB placeB kindB isKind
  dsimp only
  simp only [hk, id_zero]
  have r0 := runsB_nil
  have v0 := vecB_nil
  have he : F.est.length = 0 → runsB F.est = true := fun q => by rw [List.eq_nil_of_length_eq_zero q]; first | exact r0 | exact v0
  have hx : F.aux.length = 0 → runsB F.aux = true := fun q => by rw [List.eq_nil_of_length_eq_zero q]; first | exact r0 | exact v0
  have hn : F.done.length = 0 → vecB F.done = true := fun q => by rw [List.eq_nil_of_length_eq_zero q]; first | exact r0 | exact v0
  have hh : F.held.length = 0 → vecB F.held = true := fun q => by rw [List.eq_nil_of_length_eq_zero q]; first | exact r0 | exact v0
  clear r0 v0
  generalize runsB F.est = qe at *
  generalize runsB F.aux = qx at *
  generalize vecB F.done = qn at *
  generalize vecB F.held = qh at *
  generalize mayB F.id = qd at *
  rw [Bool.eq_iff_iff]
  grind

theorem mayK3_eq (F : Fr) (hk : F.kind = 3) : mayK3 F = mayF F := by
  have e : ckAll F = _ := vAll3 ckV (F, false) hk
  simp only [cId, cAt] at e
  unfold mayF mayK3 absB
  rw [e, show inB ⟨#[100, 97]⟩ 113 = false from by decide, show inB ⟨#[100, 97]⟩ 100 = true from by decide, show inB ⟨#[100, 97]⟩ 97 = true from by decide, show inB ⟨#[100, 97]⟩ 111 = false from by decide, show inB ⟨#[100, 97]⟩ 122 = false from by decide, show inB ⟨#[100, 97]⟩ 105 = false from by decide, show inB ⟨#[100, 97]⟩ 114 = false from by decide, show inB ⟨#[100, 97]⟩ 101 = false from by decide, show inB ⟨#[100, 97]⟩ 120 = false from by decide, show inB ⟨#[100, 97]⟩ 110 = false from by decide, show inB ⟨#[100, 97]⟩ 104 = false from by decide, show inB ⟨#[100, 97]⟩ 98 = false from by decide]
  clear e
  unfold bareB headB placeB kindB isKind
  dsimp only
  simp only [hk]
  have r0 := runsB_nil
  have v0 := vecB_nil
  have he : F.est.length = 0 → runsB F.est = true := fun q => by rw [List.eq_nil_of_length_eq_zero q]; first | exact r0 | exact v0
  have hx : F.aux.length = 0 → runsB F.aux = true := fun q => by rw [List.eq_nil_of_length_eq_zero q]; first | exact r0 | exact v0
  have hn : F.done.length = 0 → vecB F.done = true := fun q => by rw [List.eq_nil_of_length_eq_zero q]; first | exact r0 | exact v0
  have hh : F.held.length = 0 → vecB F.held = true := fun q => by rw [List.eq_nil_of_length_eq_zero q]; first | exact r0 | exact v0
  clear r0 v0
  generalize runsB F.est = qe at *
  generalize runsB F.aux = qx at *
  generalize vecB F.done = qn at *
  generalize vecB F.held = qh at *
  generalize mayB F.id = qd at *
  rw [Bool.eq_iff_iff]
  grind

theorem mayK4_eq (F : Fr) (hk : F.kind = 4) : mayK4 F = mayF F := by
  have e : ckAll F = _ := vAll4 ckV (F, false) hk
  simp only [vChunk, cId, cAt, cOf, cSize, cData] at e
  unfold mayF mayK4 absB
  rw [e, show inB ⟨#[100, 97, 111, 122, 98]⟩ 113 = false from by decide, show inB ⟨#[100, 97, 111, 122, 98]⟩ 100 = true from by decide, show inB ⟨#[100, 97, 111, 122, 98]⟩ 97 = true from by decide, show inB ⟨#[100, 97, 111, 122, 98]⟩ 111 = true from by decide, show inB ⟨#[100, 97, 111, 122, 98]⟩ 122 = true from by decide, show inB ⟨#[100, 97, 111, 122, 98]⟩ 105 = false from by decide, show inB ⟨#[100, 97, 111, 122, 98]⟩ 114 = false from by decide, show inB ⟨#[100, 97, 111, 122, 98]⟩ 101 = false from by decide, show inB ⟨#[100, 97, 111, 122, 98]⟩ 120 = false from by decide, show inB ⟨#[100, 97, 111, 122, 98]⟩ 110 = false from by decide, show inB ⟨#[100, 97, 111, 122, 98]⟩ 104 = false from by decide, show inB ⟨#[100, 97, 111, 122, 98]⟩ 98 = true from by decide]
  clear e
  unfold bareB headB placeB kindB isKind
  dsimp only
  simp only [hk]
  have r0 := runsB_nil
  have v0 := vecB_nil
  have he : F.est.length = 0 → runsB F.est = true := fun q => by rw [List.eq_nil_of_length_eq_zero q]; first | exact r0 | exact v0
  have hx : F.aux.length = 0 → runsB F.aux = true := fun q => by rw [List.eq_nil_of_length_eq_zero q]; first | exact r0 | exact v0
  have hn : F.done.length = 0 → vecB F.done = true := fun q => by rw [List.eq_nil_of_length_eq_zero q]; first | exact r0 | exact v0
  have hh : F.held.length = 0 → vecB F.held = true := fun q => by rw [List.eq_nil_of_length_eq_zero q]; first | exact r0 | exact v0
  clear r0 v0
  generalize runsB F.est = qe at *
  generalize runsB F.aux = qx at *
  generalize vecB F.done = qn at *
  generalize vecB F.held = qh at *
  generalize mayB F.id = qd at *
  rw [Bool.eq_iff_iff]
  grind

theorem mayK5_eq (F : Fr) (hk : F.kind = 5) : mayK5 F = mayF F := by
  have e : ckAll F = _ := vAll5 ckV (F, false) hk
  simp only [cSeq] at e
  unfold mayF mayK5 absB
  rw [e, show inB ⟨#[113]⟩ 113 = true from by decide, show inB ⟨#[113]⟩ 100 = false from by decide, show inB ⟨#[113]⟩ 97 = false from by decide, show inB ⟨#[113]⟩ 111 = false from by decide, show inB ⟨#[113]⟩ 122 = false from by decide, show inB ⟨#[113]⟩ 105 = false from by decide, show inB ⟨#[113]⟩ 114 = false from by decide, show inB ⟨#[113]⟩ 101 = false from by decide, show inB ⟨#[113]⟩ 120 = false from by decide, show inB ⟨#[113]⟩ 110 = false from by decide, show inB ⟨#[113]⟩ 104 = false from by decide, show inB ⟨#[113]⟩ 98 = false from by decide]
  clear e
  unfold bareB headB placeB kindB isKind
  dsimp only
  simp only [hk, id_zero]
  have r0 := runsB_nil
  have v0 := vecB_nil
  have he : F.est.length = 0 → runsB F.est = true := fun q => by rw [List.eq_nil_of_length_eq_zero q]; first | exact r0 | exact v0
  have hx : F.aux.length = 0 → runsB F.aux = true := fun q => by rw [List.eq_nil_of_length_eq_zero q]; first | exact r0 | exact v0
  have hn : F.done.length = 0 → vecB F.done = true := fun q => by rw [List.eq_nil_of_length_eq_zero q]; first | exact r0 | exact v0
  have hh : F.held.length = 0 → vecB F.held = true := fun q => by rw [List.eq_nil_of_length_eq_zero q]; first | exact r0 | exact v0
  clear r0 v0
  generalize runsB F.est = qe at *
  generalize runsB F.aux = qx at *
  generalize vecB F.done = qn at *
  generalize vecB F.held = qh at *
  generalize mayB F.id = qd at *
  rw [Bool.eq_iff_iff]
  grind

theorem mayK6_eq (F : Fr) (hk : F.kind = 6) : mayK6 F = mayF F := by
  have e : ckAll F = _ := vAll6 ckV (F, false) hk
  simp only [cInst, cRnd, cEst] at e
  unfold mayF mayK6 absB
  rw [e, show inB ⟨#[105, 114, 101]⟩ 113 = false from by decide, show inB ⟨#[105, 114, 101]⟩ 100 = false from by decide, show inB ⟨#[105, 114, 101]⟩ 97 = false from by decide, show inB ⟨#[105, 114, 101]⟩ 111 = false from by decide, show inB ⟨#[105, 114, 101]⟩ 122 = false from by decide, show inB ⟨#[105, 114, 101]⟩ 105 = true from by decide, show inB ⟨#[105, 114, 101]⟩ 114 = true from by decide, show inB ⟨#[105, 114, 101]⟩ 101 = true from by decide, show inB ⟨#[105, 114, 101]⟩ 120 = false from by decide, show inB ⟨#[105, 114, 101]⟩ 110 = false from by decide, show inB ⟨#[105, 114, 101]⟩ 104 = false from by decide, show inB ⟨#[105, 114, 101]⟩ 98 = false from by decide]
  clear e
  unfold bareB headB placeB kindB isKind
  dsimp only
  simp only [hk, id_zero]
  have r0 := runsB_nil
  have v0 := vecB_nil
  have hx : F.aux.length = 0 → runsB F.aux = true := fun q => by rw [List.eq_nil_of_length_eq_zero q]; first | exact r0 | exact v0
  have hn : F.done.length = 0 → vecB F.done = true := fun q => by rw [List.eq_nil_of_length_eq_zero q]; first | exact r0 | exact v0
  have hh : F.held.length = 0 → vecB F.held = true := fun q => by rw [List.eq_nil_of_length_eq_zero q]; first | exact r0 | exact v0
  clear r0 v0
  generalize runsB F.est = qe at *
  generalize runsB F.aux = qx at *
  generalize vecB F.done = qn at *
  generalize vecB F.held = qh at *
  generalize mayB F.id = qd at *
  rw [Bool.eq_iff_iff]
  grind

theorem mayK7_eq (F : Fr) (hk : F.kind = 7) : mayK7 F = mayF F := by
  have e : ckAll F = _ := vAll7 ckV (F, false) hk
  simp only [cInst, cRnd, cEst, cAux] at e
  unfold mayF mayK7 absB
  rw [e, show inB ⟨#[105, 114, 101, 120]⟩ 113 = false from by decide, show inB ⟨#[105, 114, 101, 120]⟩ 100 = false from by decide, show inB ⟨#[105, 114, 101, 120]⟩ 97 = false from by decide, show inB ⟨#[105, 114, 101, 120]⟩ 111 = false from by decide, show inB ⟨#[105, 114, 101, 120]⟩ 122 = false from by decide, show inB ⟨#[105, 114, 101, 120]⟩ 105 = true from by decide, show inB ⟨#[105, 114, 101, 120]⟩ 114 = true from by decide, show inB ⟨#[105, 114, 101, 120]⟩ 101 = true from by decide, show inB ⟨#[105, 114, 101, 120]⟩ 120 = true from by decide, show inB ⟨#[105, 114, 101, 120]⟩ 110 = false from by decide, show inB ⟨#[105, 114, 101, 120]⟩ 104 = false from by decide, show inB ⟨#[105, 114, 101, 120]⟩ 98 = false from by decide]
  clear e
  unfold bareB headB placeB kindB isKind
  dsimp only
  simp only [hk, id_zero]
  have r0 := runsB_nil
  have v0 := vecB_nil
  have hn : F.done.length = 0 → vecB F.done = true := fun q => by rw [List.eq_nil_of_length_eq_zero q]; first | exact r0 | exact v0
  have hh : F.held.length = 0 → vecB F.held = true := fun q => by rw [List.eq_nil_of_length_eq_zero q]; first | exact r0 | exact v0
  clear r0 v0
  generalize runsB F.est = qe at *
  generalize runsB F.aux = qx at *
  generalize vecB F.done = qn at *
  generalize vecB F.held = qh at *
  generalize mayB F.id = qd at *
  rw [Bool.eq_iff_iff]
  grind

theorem mayK8_eq (F : Fr) (hk : F.kind = 8) : mayK8 F = mayF F := by
  have e : ckAll F = _ := vAll8 ckV (F, false) hk
  simp only [cInst, cEst] at e
  unfold mayF mayK8 absB
  rw [e, show inB ⟨#[105, 101]⟩ 113 = false from by decide, show inB ⟨#[105, 101]⟩ 100 = false from by decide, show inB ⟨#[105, 101]⟩ 97 = false from by decide, show inB ⟨#[105, 101]⟩ 111 = false from by decide, show inB ⟨#[105, 101]⟩ 122 = false from by decide, show inB ⟨#[105, 101]⟩ 105 = true from by decide, show inB ⟨#[105, 101]⟩ 114 = false from by decide, show inB ⟨#[105, 101]⟩ 101 = true from by decide, show inB ⟨#[105, 101]⟩ 120 = false from by decide, show inB ⟨#[105, 101]⟩ 110 = false from by decide, show inB ⟨#[105, 101]⟩ 104 = false from by decide, show inB ⟨#[105, 101]⟩ 98 = false from by decide]
  clear e
  unfold bareB headB placeB kindB isKind
  dsimp only
  simp only [hk, id_zero]
  have r0 := runsB_nil
  have v0 := vecB_nil
  have hx : F.aux.length = 0 → runsB F.aux = true := fun q => by rw [List.eq_nil_of_length_eq_zero q]; first | exact r0 | exact v0
  have hn : F.done.length = 0 → vecB F.done = true := fun q => by rw [List.eq_nil_of_length_eq_zero q]; first | exact r0 | exact v0
  have hh : F.held.length = 0 → vecB F.held = true := fun q => by rw [List.eq_nil_of_length_eq_zero q]; first | exact r0 | exact v0
  clear r0 v0
  generalize runsB F.est = qe at *
  generalize runsB F.aux = qx at *
  generalize vecB F.done = qn at *
  generalize vecB F.held = qh at *
  generalize mayB F.id = qd at *
  rw [Bool.eq_iff_iff]
  grind

theorem mayK9_eq (F : Fr) (hk : F.kind = 9) : mayK9 F = mayF F := by
  have e : ckAll F = _ := vAll9 ckV (F, false) hk
  simp only [cInst, cDone, cHeld] at e
  unfold mayF mayK9 absB
  rw [e, show inB ⟨#[105, 110, 104]⟩ 113 = false from by decide, show inB ⟨#[105, 110, 104]⟩ 100 = false from by decide, show inB ⟨#[105, 110, 104]⟩ 97 = false from by decide, show inB ⟨#[105, 110, 104]⟩ 111 = false from by decide, show inB ⟨#[105, 110, 104]⟩ 122 = false from by decide, show inB ⟨#[105, 110, 104]⟩ 105 = true from by decide, show inB ⟨#[105, 110, 104]⟩ 114 = false from by decide, show inB ⟨#[105, 110, 104]⟩ 101 = false from by decide, show inB ⟨#[105, 110, 104]⟩ 120 = false from by decide, show inB ⟨#[105, 110, 104]⟩ 110 = true from by decide, show inB ⟨#[105, 110, 104]⟩ 104 = true from by decide, show inB ⟨#[105, 110, 104]⟩ 98 = false from by decide]
  clear e
  unfold bareB headB placeB kindB isKind
  dsimp only
  simp only [hk, id_zero]
  have r0 := runsB_nil
  have v0 := vecB_nil
  have he : F.est.length = 0 → runsB F.est = true := fun q => by rw [List.eq_nil_of_length_eq_zero q]; first | exact r0 | exact v0
  have hx : F.aux.length = 0 → runsB F.aux = true := fun q => by rw [List.eq_nil_of_length_eq_zero q]; first | exact r0 | exact v0
  clear r0 v0
  generalize runsB F.est = qe at *
  generalize runsB F.aux = qx at *
  generalize vecB F.done = qn at *
  generalize vecB F.held = qh at *
  generalize mayB F.id = qd at *
  rw [Bool.eq_iff_iff]
  grind

theorem mayK10_eq (F : Fr) (hk : F.kind = 10) : mayK10 F = mayF F := by
  have e : ckAll F = _ := vAll10 ckV (F, false) hk
  simp only [cSeq] at e
  unfold mayF mayK10 absB
  rw [e, show inB ⟨#[113]⟩ 113 = true from by decide, show inB ⟨#[113]⟩ 100 = false from by decide, show inB ⟨#[113]⟩ 97 = false from by decide, show inB ⟨#[113]⟩ 111 = false from by decide, show inB ⟨#[113]⟩ 122 = false from by decide, show inB ⟨#[113]⟩ 105 = false from by decide, show inB ⟨#[113]⟩ 114 = false from by decide, show inB ⟨#[113]⟩ 101 = false from by decide, show inB ⟨#[113]⟩ 120 = false from by decide, show inB ⟨#[113]⟩ 110 = false from by decide, show inB ⟨#[113]⟩ 104 = false from by decide, show inB ⟨#[113]⟩ 98 = false from by decide]
  clear e
  unfold bareB headB placeB kindB isKind
  dsimp only
  simp only [hk, id_zero]
  have r0 := runsB_nil
  have v0 := vecB_nil
  have he : F.est.length = 0 → runsB F.est = true := fun q => by rw [List.eq_nil_of_length_eq_zero q]; first | exact r0 | exact v0
  have hx : F.aux.length = 0 → runsB F.aux = true := fun q => by rw [List.eq_nil_of_length_eq_zero q]; first | exact r0 | exact v0
  have hn : F.done.length = 0 → vecB F.done = true := fun q => by rw [List.eq_nil_of_length_eq_zero q]; first | exact r0 | exact v0
  have hh : F.held.length = 0 → vecB F.held = true := fun q => by rw [List.eq_nil_of_length_eq_zero q]; first | exact r0 | exact v0
  clear r0 v0
  generalize runsB F.est = qe at *
  generalize runsB F.aux = qx at *
  generalize vecB F.done = qn at *
  generalize vecB F.held = qh at *
  generalize mayB F.id = qd at *
  rw [Bool.eq_iff_iff]
  grind

end Go.Proofs.Ytbfjfidodpgohaa
