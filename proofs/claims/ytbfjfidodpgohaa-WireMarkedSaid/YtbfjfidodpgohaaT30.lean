/- The document's May, of frames of these kinds: 3, 4, 10. -/
import Derived.Test.YtbfjfidodpgohaaT28

namespace Go.Proofs.Ytbfjfidodpgohaa
open Go.RowKit Go.Sort

set_option maxRecDepth 100000 in
set_option maxHeartbeats 3200000 in
theorem refMay_3 (F : Fr) (cs : Array Value) (w : World) (hok : F.Ok) (hk : F.kind = 3) (hF : FrL w F cs) :
    Calls Try.prog 16 #[.agg cs] w fun e w' => e = .returned (.bool (mayK3 F)) ∧ RowKit.Below w.heap.size w w' := by
  have HS := Lib.hid hF.size
  have HAb : Hid (∀ V, RowKit.Below w.heap.size w V → Calls Try.prog 37 #[.agg cs, .string ⟨#[100, 97]⟩] V fun e w' => e = .returned (.bool (absB F ⟨#[100, 97]⟩)) ∧ RowKit.Below V.heap.size V w') := fun V hV => absent_da F cs V (hF.on hV)
  have HFl : Hid (∀ V, Calls Try.prog 24 #[.int .u8 3] V fun e w' => e = .returned (.string ⟨#[100, 97]⟩) ∧ V = w') := fun V => fields_any 3 V (by decide)
  have HId : Hid (∀ V, RowKit.Below w.heap.size w V → Calls Try.prog 39 #[.agg #[.int .u8 (F.id.f : Int), .int .u64 (F.id.s : Int)], .int .i64 64] V fun e w' => e = .returned (.bool (mayB F.id)) ∧ RowKit.Below V.heap.size V w') := fun V hV => refMay64 F.id V
  obtain ⟨x0, x1, x2, x3, x4, x5, x6, x7, x8, x9, x10⟩ := hF.at_
  obtain ⟨p, hcs, l0, l1, l2, l3, -⟩ := id hF
  have HE : Hid (∀ V, RowKit.Below w.heap.size w V → Calls Try.prog 40 #[.slice (p 0).1 F.est.length (p 0).2] V fun e w' => e = .returned (.bool (runsB F.est)) ∧ RowKit.Below V.heap.size V w') := fun V hV => refRuns_may _ _ _ F.est V rfl hok.est (l0.later hV)
  have HX : Hid (∀ V, RowKit.Below w.heap.size w V → Calls Try.prog 40 #[.slice (p 1).1 F.aux.length (p 1).2] V fun e w' => e = .returned (.bool (runsB F.aux)) ∧ RowKit.Below V.heap.size V w') := fun V hV => refRuns_may _ _ _ F.aux V rfl hok.aux (l1.later hV)
  have HN : Hid (∀ V, RowKit.Below w.heap.size w V → Calls Try.prog 41 #[.slice (p 2).1 F.done.length (p 2).2] V fun e w' => e = .returned (.bool (vecB F.done)) ∧ V = w') := fun V hV => refCounts_may _ _ _ F.done V rfl hok.done (l2.later hV)
  have HH : Hid (∀ V, RowKit.Below w.heap.size w V → Calls Try.prog 41 #[.slice (p 3).1 F.held.length (p 3).2] V fun e w' => e = .returned (.bool (vecB F.held)) ∧ V = w') := fun V hV => refCounts_may _ _ _ F.held V rfl hok.held (l3.later hV)
  have x11 : cs[11]? = some (.slice (p 0).1 F.est.length (p 0).2) := by rw [hcs]; rfl
  have x12 : cs[12]? = some (.slice (p 1).1 F.aux.length (p 1).2) := by rw [hcs]; rfl
  have x13 : cs[13]? = some (.slice (p 2).1 F.done.length (p 2).2) := by rw [hcs]; rfl
  have x14 : cs[14]? = some (.slice (p 3).1 F.held.length (p 3).2) := by rw [hcs]; rfl
  have x15 : cs[15]? = some (.slice (p 4).1 F.data.length (p 4).2) := by rw [hcs]; rfl
  rw [hk] at x0
  have x0' : cs[0]? = some (.int .u8 3) := x0
  unfold mayK3
  clear x0 hcs l0 l1 l2 l3 hok hk hF
  generalize hqe : runsB F.est = qe at HE ⊢
  generalize hqx : runsB F.aux = qx at HX ⊢
  generalize hqn : vecB F.done = qn at HN ⊢
  generalize hqh : vecB F.held = qh at HH ⊢
  clear hqe hqx hqn hqh
  generalize hab : absB F ⟨#[100, 97]⟩ = ab at HAb ⊢
  clear hab
  generalize hqd : mayB F.id = qd at HId ⊢
  clear hqd
  generalize F.est.length = n_e at HE x11 ⊢
  generalize F.data.length = n_b at x15 ⊢
  have d_t1 : decide ((63 : Int) < (F.src : Int)) = decide (63 < F.src) := cast_lt 63 _
  generalize hg_t1 : decide (63 < F.src) = t1 at d_t1 ⊢
  clear hg_t1
  have d_t2 : decide ((63 : Int) < (F.dst : Int)) = decide (63 < F.dst) := cast_lt 63 _
  generalize hg_t2 : decide (63 < F.dst) = t2 at d_t2 ⊢
  clear hg_t2
  have d_t3 : ((F.src : Int) == (F.dst : Int)) = (F.src == F.dst) := beq_cast _ _
  generalize hg_t3 : (F.src == F.dst) = t3 at d_t3 ⊢
  clear hg_t3
  have d_t4 : decide ((4611686018427387904 : Int) < (F.seq : Int)) = decide (4611686018427387904 < F.seq) := cast_lt 4611686018427387904 _
  generalize hg_t4 : decide (4611686018427387904 < F.seq) = t4 at d_t4 ⊢
  clear hg_t4
  have d_t5 : decide ((4611686018427387904 : Int) < (F.inst : Int)) = decide (4611686018427387904 < F.inst) := cast_lt 4611686018427387904 _
  generalize hg_t5 : decide (4611686018427387904 < F.inst) = t5 at d_t5 ⊢
  clear hg_t5
  have d_t6 : decide ((4611686018427387904 : Int) < (F.rnd : Int)) = decide (4611686018427387904 < F.rnd) := cast_lt 4611686018427387904 _
  generalize hg_t6 : decide (4611686018427387904 < F.rnd) = t6 at d_t6 ⊢
  clear hg_t6
  have d_t8 : decide ((1048576 : Int) ≤ (F.at_ : Int)) = decide (1048576 ≤ F.at_) := cast_le 1048576 _
  generalize hg_t8 : decide (1048576 ≤ F.at_) = t8 at d_t8 ⊢
  clear hg_t8
  go_enter Try.func16, Try.ntmps16
  go_wp2_with fail
  generalize hw0 : World.alloc w _ = w0
  obtain ⟨hs0, hG0, hcc⟩ := box1 w w0 _ _ hw0
  have hR0 : w0.heap[w.heap.size]? = some (.cells cs 33 (0, 0)) := by rw [← hw0]; exact heap_alloc_new _ _
  have HR0 := Lib.hid hR0
  have HB0 := Lib.hid hG0.below
  have k0 : ∀ V, RowKit.Below w0.heap.size w0 V → V.cell? ⟨w.heap.size, 0, none⟩ = some (.int .u8 3) := fun V hV => (hV.cell (p := ⟨w.heap.size, 0, none⟩) (by show w.heap.size < _; omega)).trans (hcc 0 _ x0')
  have k1 : ∀ V, RowKit.Below w0.heap.size w0 V → V.cell? ⟨w.heap.size, 1, none⟩ = some (.int .u8 (F.src : Int)) := fun V hV => (hV.cell (p := ⟨w.heap.size, 1, none⟩) (by show w.heap.size < _; omega)).trans (hcc 1 _ x1)
  have k2 : ∀ V, RowKit.Below w0.heap.size w0 V → V.cell? ⟨w.heap.size, 2, none⟩ = some (.int .u8 (F.dst : Int)) := fun V hV => (hV.cell (p := ⟨w.heap.size, 2, none⟩) (by show w.heap.size < _; omega)).trans (hcc 2 _ x2)
  have k3 : ∀ V, RowKit.Below w0.heap.size w0 V → V.cell? ⟨w.heap.size, 3, none⟩ = some (.int .u8 (F.id.f : Int)) := fun V hV => (hV.cell (p := ⟨w.heap.size, 3, none⟩) (by show w.heap.size < _; omega)).trans (hcc 3 _ x3)
  have k4 : ∀ V, RowKit.Below w0.heap.size w0 V → V.cell? ⟨w.heap.size, 4, none⟩ = some (.int .u64 (F.id.s : Int)) := fun V hV => (hV.cell (p := ⟨w.heap.size, 4, none⟩) (by show w.heap.size < _; omega)).trans (hcc 4 _ x4)
  have k5 : ∀ V, RowKit.Below w0.heap.size w0 V → V.cell? ⟨w.heap.size, 5, none⟩ = some (.int .u64 (F.seq : Int)) := fun V hV => (hV.cell (p := ⟨w.heap.size, 5, none⟩) (by show w.heap.size < _; omega)).trans (hcc 5 _ x5)
  have k6 : ∀ V, RowKit.Below w0.heap.size w0 V → V.cell? ⟨w.heap.size, 6, none⟩ = some (.int .u32 (F.at_ : Int)) := fun V hV => (hV.cell (p := ⟨w.heap.size, 6, none⟩) (by show w.heap.size < _; omega)).trans (hcc 6 _ x6)
  have k7 : ∀ V, RowKit.Below w0.heap.size w0 V → V.cell? ⟨w.heap.size, 7, none⟩ = some (.int .u32 (F.of_ : Int)) := fun V hV => (hV.cell (p := ⟨w.heap.size, 7, none⟩) (by show w.heap.size < _; omega)).trans (hcc 7 _ x7)
  have k8 : ∀ V, RowKit.Below w0.heap.size w0 V → V.cell? ⟨w.heap.size, 8, none⟩ = some (.int .u32 (F.size : Int)) := fun V hV => (hV.cell (p := ⟨w.heap.size, 8, none⟩) (by show w.heap.size < _; omega)).trans (hcc 8 _ x8)
  have k9 : ∀ V, RowKit.Below w0.heap.size w0 V → V.cell? ⟨w.heap.size, 9, none⟩ = some (.int .u64 (F.inst : Int)) := fun V hV => (hV.cell (p := ⟨w.heap.size, 9, none⟩) (by show w.heap.size < _; omega)).trans (hcc 9 _ x9)
  have k10 : ∀ V, RowKit.Below w0.heap.size w0 V → V.cell? ⟨w.heap.size, 10, none⟩ = some (.int .u64 (F.rnd : Int)) := fun V hV => (hV.cell (p := ⟨w.heap.size, 10, none⟩) (by show w.heap.size < _; omega)).trans (hcc 10 _ x10)
  have k11 : ∀ V, RowKit.Below w0.heap.size w0 V → V.cell? ⟨w.heap.size, 11, none⟩ = some (.slice (p 0).1 n_e (p 0).2) := fun V hV => (hV.cell (p := ⟨w.heap.size, 11, none⟩) (by show w.heap.size < _; omega)).trans (hcc 11 _ x11)
  have k12 : ∀ V, RowKit.Below w0.heap.size w0 V → V.cell? ⟨w.heap.size, 12, none⟩ = some (.slice (p 1).1 F.aux.length (p 1).2) := fun V hV => (hV.cell (p := ⟨w.heap.size, 12, none⟩) (by show w.heap.size < _; omega)).trans (hcc 12 _ x12)
  have k13 : ∀ V, RowKit.Below w0.heap.size w0 V → V.cell? ⟨w.heap.size, 13, none⟩ = some (.slice (p 2).1 F.done.length (p 2).2) := fun V hV => (hV.cell (p := ⟨w.heap.size, 13, none⟩) (by show w.heap.size < _; omega)).trans (hcc 13 _ x13)
  have k14 : ∀ V, RowKit.Below w0.heap.size w0 V → V.cell? ⟨w.heap.size, 14, none⟩ = some (.slice (p 3).1 F.held.length (p 3).2) := fun V hV => (hV.cell (p := ⟨w.heap.size, 14, none⟩) (by show w.heap.size < _; omega)).trans (hcc 14 _ x14)
  have k15 : ∀ V, RowKit.Below w0.heap.size w0 V → V.cell? ⟨w.heap.size, 15, none⟩ = some (.slice (p 4).1 n_b (p 4).2) := fun V hV => (hV.cell (p := ⟨w.heap.size, 15, none⟩) (by show w.heap.size < _; omega)).trans (hcc 15 _ x15)
  clear hw0 hs0 hG0 hcc hR0 x0' x1 x2 x3 x4 x5 x6 x7 x8 x9 x10 x11 x12 x13 x14 x15
  have hV0 : RowKit.Below w0.heap.size w0 w0 := RowKit.Below.refl _ _
  refine (HFl.out w0).mono ?_
  rintro e _ ⟨rfl, rfl⟩
  go_wp2_with (first | (refine load_frame_on (.tmp 1) rfl rfl HR0.out HS.out ?_) | fail)
  refine (HAb.out w0 HB0.out).mono ?_
  rintro e V1 ⟨rfl, hb1⟩
  have hV1 : RowKit.Below w0.heap.size w0 V1 := hb1
  have HB1 : Hid (RowKit.Below w.heap.size w V1) := HB0.out.trans (hb1.mono HB0.out.size)
  clear hb1 hV0
  cases ab
  · skip
    go_wp2
    go_ret
    exact ⟨ret_bool (by simp), HB1.out⟩
  cases t1
  rotate_left
  · skip
    go_wp2
    go_ret
    exact ⟨ret_bool (by simp), HB1.out⟩
  cases t2
  rotate_left
  · skip
    go_wp2
    go_ret
    exact ⟨ret_bool (by simp), HB1.out⟩
  cases t3
  rotate_left
  · skip
    go_wp2
    go_ret
    exact ⟨ret_bool (by simp), HB1.out⟩
  cases t4
  rotate_left
  · skip
    go_wp2
    go_ret
    exact ⟨ret_bool (by simp), HB1.out⟩
  cases t5
  rotate_left
  · skip
    go_wp2
    go_ret
    exact ⟨ret_bool (by simp), HB1.out⟩
  cases t6
  rotate_left
  · skip
    go_wp2
    go_ret
    exact ⟨ret_bool (by simp), HB1.out⟩
  go_wp2_with fail
  refine (in_lit ⟨#[100, 97]⟩ 105 false _ (by decide) (by decide) rfl _).mono ?_
  rintro e _ ⟨rfl, rfl⟩
  go_wp2_with fail
  refine (in_lit ⟨#[100, 97]⟩ 100 true _ (by decide) (by decide) rfl _).mono ?_
  rintro e _ ⟨rfl, rfl⟩
  go_wp2_with fail
  refine (HId.out V1 HB1.out).mono ?_
  rintro e V2 ⟨rfl, hbn⟩
  have hV2 : RowKit.Below w0.heap.size w0 V2 := hV1.trans (hbn.mono hV1.size)
  have HB2 : Hid (RowKit.Below w.heap.size w V2) := HB1.out.trans (hbn.mono HB1.out.size)
  clear hbn hV1
  cases qd
  · skip
    go_wp2
    go_ret
    exact ⟨ret_bool (by simp), HB2.out⟩
  cases t8
  rotate_left
  · skip
    go_wp2
    go_ret
    exact ⟨ret_bool (by simp), HB2.out⟩
  go_wp2_with fail
  refine (in_lit ⟨#[100, 97]⟩ 111 false _ (by decide) (by decide) rfl _).mono ?_
  rintro e _ ⟨rfl, rfl⟩
  go_wp2_with fail
  refine (HE.out V2 HB2.out).mono ?_
  rintro e V3 ⟨rfl, hbn⟩
  have hV3 : RowKit.Below w0.heap.size w0 V3 := hV2.trans (hbn.mono hV2.size)
  have HB3 : Hid (RowKit.Below w.heap.size w V3) := HB2.out.trans (hbn.mono HB2.out.size)
  clear hbn hV2
  cases qe
  · skip
    go_wp2
    go_ret
    exact ⟨ret_bool (by simp), HB3.out⟩
  go_wp2_with fail
  refine (HX.out V3 HB3.out).mono ?_
  rintro e V4 ⟨rfl, hbn⟩
  have hV4 : RowKit.Below w0.heap.size w0 V4 := hV3.trans (hbn.mono hV3.size)
  have HB4 : Hid (RowKit.Below w.heap.size w V4) := HB3.out.trans (hbn.mono HB3.out.size)
  clear hbn hV3
  cases qx
  · skip
    go_wp2
    go_ret
    exact ⟨ret_bool (by simp), HB4.out⟩
  go_wp2_with fail
  refine (HN.out V4 HB4.out).mono ?_
  rintro e _ ⟨rfl, rfl⟩
  cases qn
  · skip
    go_wp2
    go_ret
    exact ⟨ret_bool (by simp), HB4.out⟩
  go_wp2_with fail
  refine (HH.out V4 HB4.out).mono ?_
  rintro e _ ⟨rfl, rfl⟩
  cases qh
  · skip
    go_wp2
    go_ret
    exact ⟨ret_bool (by simp), HB4.out⟩
  go_wp2
  go_ret
  exact ⟨ret_bool (by simp), HB4.out⟩

set_option maxRecDepth 100000 in
set_option maxHeartbeats 3200000 in
theorem refMay_4 (F : Fr) (cs : Array Value) (w : World) (hok : F.Ok) (hk : F.kind = 4) (hF : FrL w F cs) :
    Calls Try.prog 16 #[.agg cs] w fun e w' => e = .returned (.bool (mayK4 F)) ∧ RowKit.Below w.heap.size w w' := by
  have HS := Lib.hid hF.size
  have HAb : Hid (∀ V, RowKit.Below w.heap.size w V → Calls Try.prog 37 #[.agg cs, .string ⟨#[100, 97, 111, 122, 98]⟩] V fun e w' => e = .returned (.bool (absB F ⟨#[100, 97, 111, 122, 98]⟩)) ∧ RowKit.Below V.heap.size V w') := fun V hV => absent_daozb F cs V (hF.on hV)
  have HFl : Hid (∀ V, Calls Try.prog 24 #[.int .u8 4] V fun e w' => e = .returned (.string ⟨#[100, 97, 111, 122, 98]⟩) ∧ V = w') := fun V => fields_any 4 V (by decide)
  have HId : Hid (∀ V, RowKit.Below w.heap.size w V → Calls Try.prog 39 #[.agg #[.int .u8 (F.id.f : Int), .int .u64 (F.id.s : Int)], .int .i64 64] V fun e w' => e = .returned (.bool (mayB F.id)) ∧ RowKit.Below V.heap.size V w') := fun V hV => refMay64 F.id V
  obtain ⟨x0, x1, x2, x3, x4, x5, x6, x7, x8, x9, x10⟩ := hF.at_
  obtain ⟨p, hcs, l0, l1, l2, l3, -⟩ := id hF
  have HE : Hid (∀ V, RowKit.Below w.heap.size w V → Calls Try.prog 40 #[.slice (p 0).1 F.est.length (p 0).2] V fun e w' => e = .returned (.bool (runsB F.est)) ∧ RowKit.Below V.heap.size V w') := fun V hV => refRuns_may _ _ _ F.est V rfl hok.est (l0.later hV)
  have HX : Hid (∀ V, RowKit.Below w.heap.size w V → Calls Try.prog 40 #[.slice (p 1).1 F.aux.length (p 1).2] V fun e w' => e = .returned (.bool (runsB F.aux)) ∧ RowKit.Below V.heap.size V w') := fun V hV => refRuns_may _ _ _ F.aux V rfl hok.aux (l1.later hV)
  have HN : Hid (∀ V, RowKit.Below w.heap.size w V → Calls Try.prog 41 #[.slice (p 2).1 F.done.length (p 2).2] V fun e w' => e = .returned (.bool (vecB F.done)) ∧ V = w') := fun V hV => refCounts_may _ _ _ F.done V rfl hok.done (l2.later hV)
  have HH : Hid (∀ V, RowKit.Below w.heap.size w V → Calls Try.prog 41 #[.slice (p 3).1 F.held.length (p 3).2] V fun e w' => e = .returned (.bool (vecB F.held)) ∧ V = w') := fun V hV => refCounts_may _ _ _ F.held V rfl hok.held (l3.later hV)
  have x11 : cs[11]? = some (.slice (p 0).1 F.est.length (p 0).2) := by rw [hcs]; rfl
  have x12 : cs[12]? = some (.slice (p 1).1 F.aux.length (p 1).2) := by rw [hcs]; rfl
  have x13 : cs[13]? = some (.slice (p 2).1 F.done.length (p 2).2) := by rw [hcs]; rfl
  have x14 : cs[14]? = some (.slice (p 3).1 F.held.length (p 3).2) := by rw [hcs]; rfl
  have x15 : cs[15]? = some (.slice (p 4).1 F.data.length (p 4).2) := by rw [hcs]; rfl
  rw [hk] at x0
  have x0' : cs[0]? = some (.int .u8 4) := x0
  unfold mayK4
  clear x0 hcs l0 l1 l2 l3 hok hk hF
  generalize hqe : runsB F.est = qe at HE ⊢
  generalize hqx : runsB F.aux = qx at HX ⊢
  generalize hqn : vecB F.done = qn at HN ⊢
  generalize hqh : vecB F.held = qh at HH ⊢
  clear hqe hqx hqn hqh
  generalize hab : absB F ⟨#[100, 97, 111, 122, 98]⟩ = ab at HAb ⊢
  clear hab
  generalize hqd : mayB F.id = qd at HId ⊢
  clear hqd
  generalize F.est.length = n_e at HE x11 ⊢
  generalize F.data.length = n_b at x15 ⊢
  have d_t1 : decide ((63 : Int) < (F.src : Int)) = decide (63 < F.src) := cast_lt 63 _
  generalize hg_t1 : decide (63 < F.src) = t1 at d_t1 ⊢
  clear hg_t1
  have d_t2 : decide ((63 : Int) < (F.dst : Int)) = decide (63 < F.dst) := cast_lt 63 _
  generalize hg_t2 : decide (63 < F.dst) = t2 at d_t2 ⊢
  clear hg_t2
  have d_t3 : ((F.src : Int) == (F.dst : Int)) = (F.src == F.dst) := beq_cast _ _
  generalize hg_t3 : (F.src == F.dst) = t3 at d_t3 ⊢
  clear hg_t3
  have d_t4 : decide ((4611686018427387904 : Int) < (F.seq : Int)) = decide (4611686018427387904 < F.seq) := cast_lt 4611686018427387904 _
  generalize hg_t4 : decide (4611686018427387904 < F.seq) = t4 at d_t4 ⊢
  clear hg_t4
  have d_t5 : decide ((4611686018427387904 : Int) < (F.inst : Int)) = decide (4611686018427387904 < F.inst) := cast_lt 4611686018427387904 _
  generalize hg_t5 : decide (4611686018427387904 < F.inst) = t5 at d_t5 ⊢
  clear hg_t5
  have d_t6 : decide ((4611686018427387904 : Int) < (F.rnd : Int)) = decide (4611686018427387904 < F.rnd) := cast_lt 4611686018427387904 _
  generalize hg_t6 : decide (4611686018427387904 < F.rnd) = t6 at d_t6 ⊢
  clear hg_t6
  have d_t8 : decide ((1048576 : Int) ≤ (F.at_ : Int)) = decide (1048576 ≤ F.at_) := cast_le 1048576 _
  generalize hg_t8 : decide (1048576 ≤ F.at_) = t8 at d_t8 ⊢
  clear hg_t8
  have d_t9 : decide ((F.of_ : Int) ≤ (F.at_ : Int)) = decide (F.of_ ≤ F.at_) := cast_le _ _
  generalize hg_t9 : decide (F.of_ ≤ F.at_) = t9 at d_t9 ⊢
  have d_ta : decide ((1048576 : Int) < (F.of_ : Int)) = decide (1048576 < F.of_) := cast_lt 1048576 _
  generalize hg_ta : decide (1048576 < F.of_) = ta at d_ta ⊢
  clear hg_ta
  have d_tb : decide ((1048576 : Int) < (F.size : Int)) = decide (1048576 < F.size) := cast_lt 1048576 _
  generalize hg_tb : decide (1048576 < F.size) = tb at d_tb ⊢
  clear hg_tb
  have d_tc : decide ((65536 : Int) < (n_b : Int)) = decide (65536 < n_b) := cast_lt 65536 _
  generalize hg_tc : decide (65536 < n_b) = tc at d_tc ⊢
  go_enter Try.func16, Try.ntmps16
  go_wp2_with fail
  generalize hw0 : World.alloc w _ = w0
  obtain ⟨hs0, hG0, hcc⟩ := box1 w w0 _ _ hw0
  have hR0 : w0.heap[w.heap.size]? = some (.cells cs 33 (0, 0)) := by rw [← hw0]; exact heap_alloc_new _ _
  have HR0 := Lib.hid hR0
  have HB0 := Lib.hid hG0.below
  have k0 : ∀ V, RowKit.Below w0.heap.size w0 V → V.cell? ⟨w.heap.size, 0, none⟩ = some (.int .u8 4) := fun V hV => (hV.cell (p := ⟨w.heap.size, 0, none⟩) (by show w.heap.size < _; omega)).trans (hcc 0 _ x0')
  have k1 : ∀ V, RowKit.Below w0.heap.size w0 V → V.cell? ⟨w.heap.size, 1, none⟩ = some (.int .u8 (F.src : Int)) := fun V hV => (hV.cell (p := ⟨w.heap.size, 1, none⟩) (by show w.heap.size < _; omega)).trans (hcc 1 _ x1)
  have k2 : ∀ V, RowKit.Below w0.heap.size w0 V → V.cell? ⟨w.heap.size, 2, none⟩ = some (.int .u8 (F.dst : Int)) := fun V hV => (hV.cell (p := ⟨w.heap.size, 2, none⟩) (by show w.heap.size < _; omega)).trans (hcc 2 _ x2)
  have k3 : ∀ V, RowKit.Below w0.heap.size w0 V → V.cell? ⟨w.heap.size, 3, none⟩ = some (.int .u8 (F.id.f : Int)) := fun V hV => (hV.cell (p := ⟨w.heap.size, 3, none⟩) (by show w.heap.size < _; omega)).trans (hcc 3 _ x3)
  have k4 : ∀ V, RowKit.Below w0.heap.size w0 V → V.cell? ⟨w.heap.size, 4, none⟩ = some (.int .u64 (F.id.s : Int)) := fun V hV => (hV.cell (p := ⟨w.heap.size, 4, none⟩) (by show w.heap.size < _; omega)).trans (hcc 4 _ x4)
  have k5 : ∀ V, RowKit.Below w0.heap.size w0 V → V.cell? ⟨w.heap.size, 5, none⟩ = some (.int .u64 (F.seq : Int)) := fun V hV => (hV.cell (p := ⟨w.heap.size, 5, none⟩) (by show w.heap.size < _; omega)).trans (hcc 5 _ x5)
  have k6 : ∀ V, RowKit.Below w0.heap.size w0 V → V.cell? ⟨w.heap.size, 6, none⟩ = some (.int .u32 (F.at_ : Int)) := fun V hV => (hV.cell (p := ⟨w.heap.size, 6, none⟩) (by show w.heap.size < _; omega)).trans (hcc 6 _ x6)
  have k7 : ∀ V, RowKit.Below w0.heap.size w0 V → V.cell? ⟨w.heap.size, 7, none⟩ = some (.int .u32 (F.of_ : Int)) := fun V hV => (hV.cell (p := ⟨w.heap.size, 7, none⟩) (by show w.heap.size < _; omega)).trans (hcc 7 _ x7)
  have k8 : ∀ V, RowKit.Below w0.heap.size w0 V → V.cell? ⟨w.heap.size, 8, none⟩ = some (.int .u32 (F.size : Int)) := fun V hV => (hV.cell (p := ⟨w.heap.size, 8, none⟩) (by show w.heap.size < _; omega)).trans (hcc 8 _ x8)
  have k9 : ∀ V, RowKit.Below w0.heap.size w0 V → V.cell? ⟨w.heap.size, 9, none⟩ = some (.int .u64 (F.inst : Int)) := fun V hV => (hV.cell (p := ⟨w.heap.size, 9, none⟩) (by show w.heap.size < _; omega)).trans (hcc 9 _ x9)
  have k10 : ∀ V, RowKit.Below w0.heap.size w0 V → V.cell? ⟨w.heap.size, 10, none⟩ = some (.int .u64 (F.rnd : Int)) := fun V hV => (hV.cell (p := ⟨w.heap.size, 10, none⟩) (by show w.heap.size < _; omega)).trans (hcc 10 _ x10)
  have k11 : ∀ V, RowKit.Below w0.heap.size w0 V → V.cell? ⟨w.heap.size, 11, none⟩ = some (.slice (p 0).1 n_e (p 0).2) := fun V hV => (hV.cell (p := ⟨w.heap.size, 11, none⟩) (by show w.heap.size < _; omega)).trans (hcc 11 _ x11)
  have k12 : ∀ V, RowKit.Below w0.heap.size w0 V → V.cell? ⟨w.heap.size, 12, none⟩ = some (.slice (p 1).1 F.aux.length (p 1).2) := fun V hV => (hV.cell (p := ⟨w.heap.size, 12, none⟩) (by show w.heap.size < _; omega)).trans (hcc 12 _ x12)
  have k13 : ∀ V, RowKit.Below w0.heap.size w0 V → V.cell? ⟨w.heap.size, 13, none⟩ = some (.slice (p 2).1 F.done.length (p 2).2) := fun V hV => (hV.cell (p := ⟨w.heap.size, 13, none⟩) (by show w.heap.size < _; omega)).trans (hcc 13 _ x13)
  have k14 : ∀ V, RowKit.Below w0.heap.size w0 V → V.cell? ⟨w.heap.size, 14, none⟩ = some (.slice (p 3).1 F.held.length (p 3).2) := fun V hV => (hV.cell (p := ⟨w.heap.size, 14, none⟩) (by show w.heap.size < _; omega)).trans (hcc 14 _ x14)
  have k15 : ∀ V, RowKit.Below w0.heap.size w0 V → V.cell? ⟨w.heap.size, 15, none⟩ = some (.slice (p 4).1 n_b (p 4).2) := fun V hV => (hV.cell (p := ⟨w.heap.size, 15, none⟩) (by show w.heap.size < _; omega)).trans (hcc 15 _ x15)
  clear hw0 hs0 hG0 hcc hR0 x0' x1 x2 x3 x4 x5 x6 x7 x8 x9 x10 x11 x12 x13 x14 x15
  have hV0 : RowKit.Below w0.heap.size w0 w0 := RowKit.Below.refl _ _
  refine (HFl.out w0).mono ?_
  rintro e _ ⟨rfl, rfl⟩
  go_wp2_with (first | (refine load_frame_on (.tmp 1) rfl rfl HR0.out HS.out ?_) | fail)
  refine (HAb.out w0 HB0.out).mono ?_
  rintro e V1 ⟨rfl, hb1⟩
  have hV1 : RowKit.Below w0.heap.size w0 V1 := hb1
  have HB1 : Hid (RowKit.Below w.heap.size w V1) := HB0.out.trans (hb1.mono HB0.out.size)
  clear hb1 hV0
  cases ab
  · skip
    go_wp2
    go_ret
    exact ⟨ret_bool (by simp), HB1.out⟩
  cases t1
  rotate_left
  · skip
    go_wp2
    go_ret
    exact ⟨ret_bool (by simp), HB1.out⟩
  cases t2
  rotate_left
  · skip
    go_wp2
    go_ret
    exact ⟨ret_bool (by simp), HB1.out⟩
  cases t3
  rotate_left
  · skip
    go_wp2
    go_ret
    exact ⟨ret_bool (by simp), HB1.out⟩
  cases t4
  rotate_left
  · skip
    go_wp2
    go_ret
    exact ⟨ret_bool (by simp), HB1.out⟩
  cases t5
  rotate_left
  · skip
    go_wp2
    go_ret
    exact ⟨ret_bool (by simp), HB1.out⟩
  cases t6
  rotate_left
  · skip
    go_wp2
    go_ret
    exact ⟨ret_bool (by simp), HB1.out⟩
  go_wp2_with fail
  refine (in_lit ⟨#[100, 97, 111, 122, 98]⟩ 105 false _ (by decide) (by decide) rfl _).mono ?_
  rintro e _ ⟨rfl, rfl⟩
  go_wp2_with fail
  refine (in_lit ⟨#[100, 97, 111, 122, 98]⟩ 100 true _ (by decide) (by decide) rfl _).mono ?_
  rintro e _ ⟨rfl, rfl⟩
  go_wp2_with fail
  refine (HId.out V1 HB1.out).mono ?_
  rintro e V2 ⟨rfl, hbn⟩
  have hV2 : RowKit.Below w0.heap.size w0 V2 := hV1.trans (hbn.mono hV1.size)
  have HB2 : Hid (RowKit.Below w.heap.size w V2) := HB1.out.trans (hbn.mono HB1.out.size)
  clear hbn hV1
  cases qd
  · skip
    go_wp2
    go_ret
    exact ⟨ret_bool (by simp), HB2.out⟩
  cases t8
  rotate_left
  · skip
    go_wp2
    go_ret
    exact ⟨ret_bool (by simp), HB2.out⟩
  go_wp2_with fail
  refine (in_lit ⟨#[100, 97, 111, 122, 98]⟩ 111 true _ (by decide) (by decide) rfl _).mono ?_
  rintro e _ ⟨rfl, rfl⟩
  have p_t9 : decide (F.of_ ≤ F.at_) = t9 := hg_t9
  clear hg_t9
  cases t9
  rotate_left
  · skip
    go_wp2
    go_ret
    exact ⟨ret_bool (by simp), HB2.out⟩
  cases ta
  rotate_left
  · skip
    go_wp2
    go_ret
    exact ⟨ret_bool (by simp), HB2.out⟩
  cases tb
  rotate_left
  · skip
    go_wp2
    go_ret
    exact ⟨ret_bool (by simp), HB2.out⟩
  have p_tc : decide (65536 < n_b) = tc := hg_tc
  clear hg_tc
  cases tc
  rotate_left
  · skip
    go_wp2
    go_ret
    exact ⟨ret_bool (by simp), HB2.out⟩
  go_wp2_with fail
  refine (HE.out V2 HB2.out).mono ?_
  rintro e V3 ⟨rfl, hbn⟩
  have hV3 : RowKit.Below w0.heap.size w0 V3 := hV2.trans (hbn.mono hV2.size)
  have HB3 : Hid (RowKit.Below w.heap.size w V3) := HB2.out.trans (hbn.mono HB2.out.size)
  clear hbn hV2
  cases qe
  · skip
    go_wp2
    go_ret
    exact ⟨ret_bool (by simp), HB3.out⟩
  go_wp2_with fail
  refine (HX.out V3 HB3.out).mono ?_
  rintro e V4 ⟨rfl, hbn⟩
  have hV4 : RowKit.Below w0.heap.size w0 V4 := hV3.trans (hbn.mono hV3.size)
  have HB4 : Hid (RowKit.Below w.heap.size w V4) := HB3.out.trans (hbn.mono HB3.out.size)
  clear hbn hV3
  cases qx
  · skip
    go_wp2
    go_ret
    exact ⟨ret_bool (by simp), HB4.out⟩
  go_wp2_with fail
  refine (HN.out V4 HB4.out).mono ?_
  rintro e _ ⟨rfl, rfl⟩
  cases qn
  · skip
    go_wp2
    go_ret
    exact ⟨ret_bool (by simp), HB4.out⟩
  go_wp2_with fail
  refine (HH.out V4 HB4.out).mono ?_
  rintro e _ ⟨rfl, rfl⟩
  cases qh
  · skip
    go_wp2
    go_ret
    exact ⟨ret_bool (by simp), HB4.out⟩
  go_wp2
  go_ret
  exact ⟨ret_bool (by simp), HB4.out⟩

set_option maxRecDepth 100000 in
set_option maxHeartbeats 3200000 in
theorem refMay_10 (F : Fr) (cs : Array Value) (w : World) (hok : F.Ok) (hk : F.kind = 10) (hF : FrL w F cs) :
    Calls Try.prog 16 #[.agg cs] w fun e w' => e = .returned (.bool (mayK10 F)) ∧ RowKit.Below w.heap.size w w' := by
  have HS := Lib.hid hF.size
  have HAb : Hid (∀ V, RowKit.Below w.heap.size w V → Calls Try.prog 37 #[.agg cs, .string ⟨#[113]⟩] V fun e w' => e = .returned (.bool (absB F ⟨#[113]⟩)) ∧ RowKit.Below V.heap.size V w') := fun V hV => absent_q F cs V (hF.on hV)
  have HFl : Hid (∀ V, Calls Try.prog 24 #[.int .u8 10] V fun e w' => e = .returned (.string ⟨#[113]⟩) ∧ V = w') := fun V => fields_any 10 V (by decide)
  obtain ⟨x0, x1, x2, x3, x4, x5, x6, x7, x8, x9, x10⟩ := hF.at_
  obtain ⟨p, hcs, l0, l1, l2, l3, -⟩ := id hF
  have HE : Hid (∀ V, RowKit.Below w.heap.size w V → Calls Try.prog 40 #[.slice (p 0).1 F.est.length (p 0).2] V fun e w' => e = .returned (.bool (runsB F.est)) ∧ RowKit.Below V.heap.size V w') := fun V hV => refRuns_may _ _ _ F.est V rfl hok.est (l0.later hV)
  have HX : Hid (∀ V, RowKit.Below w.heap.size w V → Calls Try.prog 40 #[.slice (p 1).1 F.aux.length (p 1).2] V fun e w' => e = .returned (.bool (runsB F.aux)) ∧ RowKit.Below V.heap.size V w') := fun V hV => refRuns_may _ _ _ F.aux V rfl hok.aux (l1.later hV)
  have HN : Hid (∀ V, RowKit.Below w.heap.size w V → Calls Try.prog 41 #[.slice (p 2).1 F.done.length (p 2).2] V fun e w' => e = .returned (.bool (vecB F.done)) ∧ V = w') := fun V hV => refCounts_may _ _ _ F.done V rfl hok.done (l2.later hV)
  have HH : Hid (∀ V, RowKit.Below w.heap.size w V → Calls Try.prog 41 #[.slice (p 3).1 F.held.length (p 3).2] V fun e w' => e = .returned (.bool (vecB F.held)) ∧ V = w') := fun V hV => refCounts_may _ _ _ F.held V rfl hok.held (l3.later hV)
  have x11 : cs[11]? = some (.slice (p 0).1 F.est.length (p 0).2) := by rw [hcs]; rfl
  have x12 : cs[12]? = some (.slice (p 1).1 F.aux.length (p 1).2) := by rw [hcs]; rfl
  have x13 : cs[13]? = some (.slice (p 2).1 F.done.length (p 2).2) := by rw [hcs]; rfl
  have x14 : cs[14]? = some (.slice (p 3).1 F.held.length (p 3).2) := by rw [hcs]; rfl
  have x15 : cs[15]? = some (.slice (p 4).1 F.data.length (p 4).2) := by rw [hcs]; rfl
  rw [hk] at x0
  have x0' : cs[0]? = some (.int .u8 10) := x0
  unfold mayK10
  clear x0 hcs l0 l1 l2 l3 hok hk hF
  generalize hqe : runsB F.est = qe at HE ⊢
  generalize hqx : runsB F.aux = qx at HX ⊢
  generalize hqn : vecB F.done = qn at HN ⊢
  generalize hqh : vecB F.held = qh at HH ⊢
  clear hqe hqx hqn hqh
  generalize hab : absB F ⟨#[113]⟩ = ab at HAb ⊢
  clear hab
  generalize F.est.length = n_e at HE x11 ⊢
  generalize F.data.length = n_b at x15 ⊢
  have d_t1 : decide ((63 : Int) < (F.src : Int)) = decide (63 < F.src) := cast_lt 63 _
  generalize hg_t1 : decide (63 < F.src) = t1 at d_t1 ⊢
  clear hg_t1
  have d_t2 : decide ((63 : Int) < (F.dst : Int)) = decide (63 < F.dst) := cast_lt 63 _
  generalize hg_t2 : decide (63 < F.dst) = t2 at d_t2 ⊢
  clear hg_t2
  have d_t3 : ((F.src : Int) == (F.dst : Int)) = (F.src == F.dst) := beq_cast _ _
  generalize hg_t3 : (F.src == F.dst) = t3 at d_t3 ⊢
  clear hg_t3
  have d_t4 : decide ((4611686018427387904 : Int) < (F.seq : Int)) = decide (4611686018427387904 < F.seq) := cast_lt 4611686018427387904 _
  generalize hg_t4 : decide (4611686018427387904 < F.seq) = t4 at d_t4 ⊢
  clear hg_t4
  have d_t5 : decide ((4611686018427387904 : Int) < (F.inst : Int)) = decide (4611686018427387904 < F.inst) := cast_lt 4611686018427387904 _
  generalize hg_t5 : decide (4611686018427387904 < F.inst) = t5 at d_t5 ⊢
  clear hg_t5
  have d_t6 : decide ((4611686018427387904 : Int) < (F.rnd : Int)) = decide (4611686018427387904 < F.rnd) := cast_lt 4611686018427387904 _
  generalize hg_t6 : decide (4611686018427387904 < F.rnd) = t6 at d_t6 ⊢
  clear hg_t6
  have d_t8 : decide ((1048576 : Int) ≤ (F.at_ : Int)) = decide (1048576 ≤ F.at_) := cast_le 1048576 _
  generalize hg_t8 : decide (1048576 ≤ F.at_) = t8 at d_t8 ⊢
  clear hg_t8
  go_enter Try.func16, Try.ntmps16
  go_wp2_with fail
  generalize hw0 : World.alloc w _ = w0
  obtain ⟨hs0, hG0, hcc⟩ := box1 w w0 _ _ hw0
  have hR0 : w0.heap[w.heap.size]? = some (.cells cs 33 (0, 0)) := by rw [← hw0]; exact heap_alloc_new _ _
  have HR0 := Lib.hid hR0
  have HB0 := Lib.hid hG0.below
  have k0 : ∀ V, RowKit.Below w0.heap.size w0 V → V.cell? ⟨w.heap.size, 0, none⟩ = some (.int .u8 10) := fun V hV => (hV.cell (p := ⟨w.heap.size, 0, none⟩) (by show w.heap.size < _; omega)).trans (hcc 0 _ x0')
  have k1 : ∀ V, RowKit.Below w0.heap.size w0 V → V.cell? ⟨w.heap.size, 1, none⟩ = some (.int .u8 (F.src : Int)) := fun V hV => (hV.cell (p := ⟨w.heap.size, 1, none⟩) (by show w.heap.size < _; omega)).trans (hcc 1 _ x1)
  have k2 : ∀ V, RowKit.Below w0.heap.size w0 V → V.cell? ⟨w.heap.size, 2, none⟩ = some (.int .u8 (F.dst : Int)) := fun V hV => (hV.cell (p := ⟨w.heap.size, 2, none⟩) (by show w.heap.size < _; omega)).trans (hcc 2 _ x2)
  have k3 : ∀ V, RowKit.Below w0.heap.size w0 V → V.cell? ⟨w.heap.size, 3, none⟩ = some (.int .u8 (F.id.f : Int)) := fun V hV => (hV.cell (p := ⟨w.heap.size, 3, none⟩) (by show w.heap.size < _; omega)).trans (hcc 3 _ x3)
  have k4 : ∀ V, RowKit.Below w0.heap.size w0 V → V.cell? ⟨w.heap.size, 4, none⟩ = some (.int .u64 (F.id.s : Int)) := fun V hV => (hV.cell (p := ⟨w.heap.size, 4, none⟩) (by show w.heap.size < _; omega)).trans (hcc 4 _ x4)
  have k5 : ∀ V, RowKit.Below w0.heap.size w0 V → V.cell? ⟨w.heap.size, 5, none⟩ = some (.int .u64 (F.seq : Int)) := fun V hV => (hV.cell (p := ⟨w.heap.size, 5, none⟩) (by show w.heap.size < _; omega)).trans (hcc 5 _ x5)
  have k6 : ∀ V, RowKit.Below w0.heap.size w0 V → V.cell? ⟨w.heap.size, 6, none⟩ = some (.int .u32 (F.at_ : Int)) := fun V hV => (hV.cell (p := ⟨w.heap.size, 6, none⟩) (by show w.heap.size < _; omega)).trans (hcc 6 _ x6)
  have k7 : ∀ V, RowKit.Below w0.heap.size w0 V → V.cell? ⟨w.heap.size, 7, none⟩ = some (.int .u32 (F.of_ : Int)) := fun V hV => (hV.cell (p := ⟨w.heap.size, 7, none⟩) (by show w.heap.size < _; omega)).trans (hcc 7 _ x7)
  have k8 : ∀ V, RowKit.Below w0.heap.size w0 V → V.cell? ⟨w.heap.size, 8, none⟩ = some (.int .u32 (F.size : Int)) := fun V hV => (hV.cell (p := ⟨w.heap.size, 8, none⟩) (by show w.heap.size < _; omega)).trans (hcc 8 _ x8)
  have k9 : ∀ V, RowKit.Below w0.heap.size w0 V → V.cell? ⟨w.heap.size, 9, none⟩ = some (.int .u64 (F.inst : Int)) := fun V hV => (hV.cell (p := ⟨w.heap.size, 9, none⟩) (by show w.heap.size < _; omega)).trans (hcc 9 _ x9)
  have k10 : ∀ V, RowKit.Below w0.heap.size w0 V → V.cell? ⟨w.heap.size, 10, none⟩ = some (.int .u64 (F.rnd : Int)) := fun V hV => (hV.cell (p := ⟨w.heap.size, 10, none⟩) (by show w.heap.size < _; omega)).trans (hcc 10 _ x10)
  have k11 : ∀ V, RowKit.Below w0.heap.size w0 V → V.cell? ⟨w.heap.size, 11, none⟩ = some (.slice (p 0).1 n_e (p 0).2) := fun V hV => (hV.cell (p := ⟨w.heap.size, 11, none⟩) (by show w.heap.size < _; omega)).trans (hcc 11 _ x11)
  have k12 : ∀ V, RowKit.Below w0.heap.size w0 V → V.cell? ⟨w.heap.size, 12, none⟩ = some (.slice (p 1).1 F.aux.length (p 1).2) := fun V hV => (hV.cell (p := ⟨w.heap.size, 12, none⟩) (by show w.heap.size < _; omega)).trans (hcc 12 _ x12)
  have k13 : ∀ V, RowKit.Below w0.heap.size w0 V → V.cell? ⟨w.heap.size, 13, none⟩ = some (.slice (p 2).1 F.done.length (p 2).2) := fun V hV => (hV.cell (p := ⟨w.heap.size, 13, none⟩) (by show w.heap.size < _; omega)).trans (hcc 13 _ x13)
  have k14 : ∀ V, RowKit.Below w0.heap.size w0 V → V.cell? ⟨w.heap.size, 14, none⟩ = some (.slice (p 3).1 F.held.length (p 3).2) := fun V hV => (hV.cell (p := ⟨w.heap.size, 14, none⟩) (by show w.heap.size < _; omega)).trans (hcc 14 _ x14)
  have k15 : ∀ V, RowKit.Below w0.heap.size w0 V → V.cell? ⟨w.heap.size, 15, none⟩ = some (.slice (p 4).1 n_b (p 4).2) := fun V hV => (hV.cell (p := ⟨w.heap.size, 15, none⟩) (by show w.heap.size < _; omega)).trans (hcc 15 _ x15)
  clear hw0 hs0 hG0 hcc hR0 x0' x1 x2 x3 x4 x5 x6 x7 x8 x9 x10 x11 x12 x13 x14 x15
  have hV0 : RowKit.Below w0.heap.size w0 w0 := RowKit.Below.refl _ _
  refine (HFl.out w0).mono ?_
  rintro e _ ⟨rfl, rfl⟩
  go_wp2_with (first | (refine load_frame_on (.tmp 1) rfl rfl HR0.out HS.out ?_) | fail)
  refine (HAb.out w0 HB0.out).mono ?_
  rintro e V1 ⟨rfl, hb1⟩
  have hV1 : RowKit.Below w0.heap.size w0 V1 := hb1
  have HB1 : Hid (RowKit.Below w.heap.size w V1) := HB0.out.trans (hb1.mono HB0.out.size)
  clear hb1 hV0
  cases ab
  · skip
    go_wp2
    go_ret
    exact ⟨ret_bool (by simp), HB1.out⟩
  cases t1
  rotate_left
  · skip
    go_wp2
    go_ret
    exact ⟨ret_bool (by simp), HB1.out⟩
  cases t2
  rotate_left
  · skip
    go_wp2
    go_ret
    exact ⟨ret_bool (by simp), HB1.out⟩
  cases t3
  rotate_left
  · skip
    go_wp2
    go_ret
    exact ⟨ret_bool (by simp), HB1.out⟩
  cases t4
  rotate_left
  · skip
    go_wp2
    go_ret
    exact ⟨ret_bool (by simp), HB1.out⟩
  cases t5
  rotate_left
  · skip
    go_wp2
    go_ret
    exact ⟨ret_bool (by simp), HB1.out⟩
  cases t6
  rotate_left
  · skip
    go_wp2
    go_ret
    exact ⟨ret_bool (by simp), HB1.out⟩
  go_wp2_with fail
  refine (in_lit ⟨#[113]⟩ 105 false _ (by decide) (by decide) rfl _).mono ?_
  rintro e _ ⟨rfl, rfl⟩
  go_wp2_with fail
  refine (in_lit ⟨#[113]⟩ 100 false _ (by decide) (by decide) rfl _).mono ?_
  rintro e _ ⟨rfl, rfl⟩
  cases t8
  rotate_left
  · skip
    go_wp2
    go_ret
    exact ⟨ret_bool (by simp), HB1.out⟩
  go_wp2_with fail
  refine (in_lit ⟨#[113]⟩ 111 false _ (by decide) (by decide) rfl _).mono ?_
  rintro e _ ⟨rfl, rfl⟩
  go_wp2_with fail
  refine (HE.out V1 HB1.out).mono ?_
  rintro e V2 ⟨rfl, hbn⟩
  have hV2 : RowKit.Below w0.heap.size w0 V2 := hV1.trans (hbn.mono hV1.size)
  have HB2 : Hid (RowKit.Below w.heap.size w V2) := HB1.out.trans (hbn.mono HB1.out.size)
  clear hbn hV1
  cases qe
  · skip
    go_wp2
    go_ret
    exact ⟨ret_bool (by simp), HB2.out⟩
  go_wp2_with fail
  refine (HX.out V2 HB2.out).mono ?_
  rintro e V3 ⟨rfl, hbn⟩
  have hV3 : RowKit.Below w0.heap.size w0 V3 := hV2.trans (hbn.mono hV2.size)
  have HB3 : Hid (RowKit.Below w.heap.size w V3) := HB2.out.trans (hbn.mono HB2.out.size)
  clear hbn hV2
  cases qx
  · skip
    go_wp2
    go_ret
    exact ⟨ret_bool (by simp), HB3.out⟩
  go_wp2_with fail
  refine (HN.out V3 HB3.out).mono ?_
  rintro e _ ⟨rfl, rfl⟩
  cases qn
  · skip
    go_wp2
    go_ret
    exact ⟨ret_bool (by simp), HB3.out⟩
  go_wp2_with fail
  refine (HH.out V3 HB3.out).mono ?_
  rintro e _ ⟨rfl, rfl⟩
  cases qh
  · skip
    go_wp2
    go_ret
    exact ⟨ret_bool (by simp), HB3.out⟩
  go_wp2
  go_ret
  exact ⟨ret_bool (by simp), HB3.out⟩

end Go.Proofs.Ytbfjfidodpgohaa
