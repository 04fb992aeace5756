/- Stage 14: the document's Put, where it changes nothing. -/
import Derived.Test.YtnpdjlcekmpmoaaSpE
set_option maxRecDepth 20000
namespace Go.Proofs.Ytnpdjlcekmpmoaa
open Go.RowKit Go.Sort Go.Maps

section
variable {w : World} {D : Nat → Prop} {A A2 : Option Addr} {c c2 : Nat} {m : Sm}
set_option maxHeartbeats 1600000 in
theorem refPut_there (h : RsAt w D A c A2 c2 m) (hm : m.Ok) (x : Id) {A3 : Option Addr} {n c3 : Nat} (_ : n ≤ 1000) (ht : hasL m.l x = true) : Calls Try.prog 26 #[.agg (rsCells A c A2 c2 m), valId x, .slice A3 n c3] w (GotS w A c A2 c2 m m (.bool false)) := by
  have mixed := mixedOrders
  have HG : Hid (∀ W, RowKit.Below w.heap.size w W → Calls Try.prog 27 #[.agg #[.int .i64 (m.n : Int), .int .i64 (m.room : Int), .slice A m.l.length c, .slice A2 m.n c2], .agg #[.int .u8 (x.f : Int), .int .u64 (x.s : Int)]] W fun e w' => e = .returned (.tuple #[.string (str (getL m.l x)), .bool (hasL m.l x)]) ∧ RowKit.Below W.heap.size W w') := fun W hW => refGet_any (h.on hW) x
  have HU : Hid (∀ W, RowKit.Below w.heap.size w W → Calls Try.prog 13 #[.agg #[.int .i64 (m.n : Int), .int .i64 (m.room : Int), .slice A m.l.length c, .slice A2 m.n c2]] W fun e w' => e = .returned (.int .i64 (useL m.l : Int)) ∧ RowKit.Below W.heap.size W w') := fun W hW => refUsed_any (h.on hW) (by have := hm.use; have := hm.room; omega)
  have HMay : Hid (∀ W, Calls Try.prog 23 #[.agg #[.int .u8 (x.f : Int), .int .u64 (x.s : Int)], .int .i64 (m.n : Int)] W fun e w' => e = .returned (.bool (m.may x)) ∧ Grew W w') := fun W => by
    have := refMay_any x (m.n : Int) W (by have := hm.n2; omega)
    refine this.mono ?_
    rintro e w' ⟨rfl, hg⟩
    refine ⟨ret_bool ?_, hg⟩
    unfold Sm.may
    congr 1
    exact decide_eq_decide.2 (by omega)
  have HFL : Hid (m.may x = true → ∃ bf of', A2 = some ⟨bf, of', none⟩ ∧ bf < w.heap.size ∧ x.f < m.n ∧ w.cell? ⟨bf, of' + x.f, none⟩ = some (.int .u64 (num m.fl x.f : Int))) := fun hq => by
    unfold Sm.may at hq
    simp only [Bool.and_eq_true, decide_eq_true_eq] at hq
    have hl : x.f < m.fl.length := by rw [hm.fl]; exact hq.1
    obtain ⟨bf, of', e, hb, hc⟩ := h.floors.lies.at_ (uvs_at hl)
    rw [← num_in hl] at hc
    exact ⟨bf, of', e, hb, hq.1, hc⟩
  have hus := hm.use
  have hrm := hm.room
  have hn1 := hm.n1
  have hn2 := hm.n2
  have HGS : Hid (∀ w', RowKit.Below w.heap.size w w' → GotS w A c A2 c2 m m (.bool false) (.returned (.tuple #[.agg #[.int .i64 (m.n : Int), .int .i64 (m.room : Int), .slice A m.l.length c, .slice A2 m.n c2], .bool false])) w') := fun w' hb => ⟨A, c, A2, c2, rfl, hb, fun D hD hR => hR.on hb⟩
  rw [ht] at HG
  clear ht HMay HU
  unfold rsCells valId
  clear h hm HFL
  generalize getL m.l x = gb at HG
  clear hus hrm
  generalize m.n = N at *
  generalize m.room = rm at *
  generalize m.l.length = L at *
  have hxf := x.hf
  have hxs := x.hs
  generalize x.f = f at *
  generalize x.s = s at *
  go_enter Try.func26, Try.ntmps26
  go_wp2_with fail
  generalize hw0 : World.alloc (World.alloc (World.alloc w _) _) _ = w0
  have P0 : PBox w #[.int .i64 (N : Int), .int .i64 (rm : Int), .slice A L c, .slice A2 N c2] #[.int .u8 (f : Int), .int .u64 (s : Int)] zeroS w0 := PBox.start hw0
  have x0 := P0.c (i := 0) rfl
  have x1 := P0.c (i := 1) rfl
  have x2 := P0.c (i := 2) rfl
  have x3 := P0.c (i := 3) rfl
  have i0 := P0.ci (i := 0) rfl
  have i1 := P0.ci (i := 1) rfl
  have H0 := Lib.hid P0
  clear hw0 P0
  go_wp2_with fail
  refine (HG.out w0 H0.out.below).mono ?_
  rintro e w1 ⟨rfl, hb1⟩
  have P1 := H0.out.on hb1
  have H1 := Lib.hid P1
  have hlt1 := P1.lt
  have l0 := P1.c (i := 0) rfl
  clear x0 x1 x2 x3 i0 i1 H0 hb1 l0
  have x0 := later_cell (w0 := w1) (b := w.heap.size) (by omega) (P1.c (i := 0) rfl)
  have x1 := later_cell (w0 := w1) (b := w.heap.size) (by omega) (P1.c (i := 1) rfl)
  have x2 := later_cell (w0 := w1) (b := w.heap.size) (by omega) (P1.c (i := 2) rfl)
  have x3 := later_cell (w0 := w1) (b := w.heap.size) (by omega) (P1.c (i := 3) rfl)
  have i0 := later_cell (w0 := w1) (b := w.heap.size + 1) (by omega) (P1.ci (i := 0) rfl)
  have i1 := later_cell (w0 := w1) (b := w.heap.size + 1) (by omega) (P1.ci (i := 1) rfl)
  clear P1
  go_wp2_with fail
  refine wp_region_later mixed (by kernel_rfl) ?_
  repeat (go_big_quiet_step (first | fail))
  refine wpQuiet_nil ?_
  intro _ hw'
  obtain ⟨p, rfl⟩ := hw'
  have H2 := Lib.hid (H1.out.on p.hb)
  clear x0 x1 x2 x3 i0 i1
  have x0 := H2.out.c (i := 0) rfl
  have x1 := H2.out.c (i := 1) rfl
  have x2 := H2.out.c (i := 2) rfl
  have x3 := H2.out.c (i := 3) rfl
  have r0 := H2.out.cr (i := 0) rfl
  have r1 := H2.out.cr (i := 1) rfl
  have r2 := H2.out.cr (i := 2) rfl
  have r3 := H2.out.cr (i := 3) rfl
  have g0 := H2.out.fr 0
  have g1 := H2.out.fr 1
  have g2 := H2.out.fr 2
  have g3 := H2.out.fr 3
  have hlt2 := H2.out.lt
  have hl0 : w.heap.size < (p.w).heap.size := by omega
  have hl2 : w.heap.size + 2 < (p.w).heap.size := by omega
  have HF := ((((H2.out.setRes 0 (.int .i64 (N : Int))).setRes 1 (.int .i64 (rm : Int))).setRes 2 (.slice A L c)).setRes 3 (.slice A2 N c2))
  go_wp2
  refine bodyPost_ret (results_cell_tmp rfl _ _ (w.heap.size + 2) _ rfl (load_rowS HF.res rfl)) rfl ?_
  exact HGS.out _ HF.below

set_option maxHeartbeats 1600000 in
theorem refPut_may (h : RsAt w D A c A2 c2 m) (hm : m.Ok) (x : Id) {A3 : Option Addr} {n c3 : Nat} (_ : n ≤ 1000) (ht : hasL m.l x = false) (hy : m.may x = false) : Calls Try.prog 26 #[.agg (rsCells A c A2 c2 m), valId x, .slice A3 n c3] w (GotS w A c A2 c2 m m (.bool false)) := by
  have mixed := mixedOrders
  have HG : Hid (∀ W, RowKit.Below w.heap.size w W → Calls Try.prog 27 #[.agg #[.int .i64 (m.n : Int), .int .i64 (m.room : Int), .slice A m.l.length c, .slice A2 m.n c2], .agg #[.int .u8 (x.f : Int), .int .u64 (x.s : Int)]] W fun e w' => e = .returned (.tuple #[.string (str (getL m.l x)), .bool (hasL m.l x)]) ∧ RowKit.Below W.heap.size W w') := fun W hW => refGet_any (h.on hW) x
  have HU : Hid (∀ W, RowKit.Below w.heap.size w W → Calls Try.prog 13 #[.agg #[.int .i64 (m.n : Int), .int .i64 (m.room : Int), .slice A m.l.length c, .slice A2 m.n c2]] W fun e w' => e = .returned (.int .i64 (useL m.l : Int)) ∧ RowKit.Below W.heap.size W w') := fun W hW => refUsed_any (h.on hW) (by have := hm.use; have := hm.room; omega)
  have HMay : Hid (∀ W, Calls Try.prog 23 #[.agg #[.int .u8 (x.f : Int), .int .u64 (x.s : Int)], .int .i64 (m.n : Int)] W fun e w' => e = .returned (.bool (m.may x)) ∧ Grew W w') := fun W => by
    have := refMay_any x (m.n : Int) W (by have := hm.n2; omega)
    refine this.mono ?_
    rintro e w' ⟨rfl, hg⟩
    refine ⟨ret_bool ?_, hg⟩
    unfold Sm.may
    congr 1
    exact decide_eq_decide.2 (by omega)
  have HFL : Hid (m.may x = true → ∃ bf of', A2 = some ⟨bf, of', none⟩ ∧ bf < w.heap.size ∧ x.f < m.n ∧ w.cell? ⟨bf, of' + x.f, none⟩ = some (.int .u64 (num m.fl x.f : Int))) := fun hq => by
    unfold Sm.may at hq
    simp only [Bool.and_eq_true, decide_eq_true_eq] at hq
    have hl : x.f < m.fl.length := by rw [hm.fl]; exact hq.1
    obtain ⟨bf, of', e, hb, hc⟩ := h.floors.lies.at_ (uvs_at hl)
    rw [← num_in hl] at hc
    exact ⟨bf, of', e, hb, hq.1, hc⟩
  have hus := hm.use
  have hrm := hm.room
  have hn1 := hm.n1
  have hn2 := hm.n2
  have HGS : Hid (∀ w', RowKit.Below w.heap.size w w' → GotS w A c A2 c2 m m (.bool false) (.returned (.tuple #[.agg #[.int .i64 (m.n : Int), .int .i64 (m.room : Int), .slice A m.l.length c, .slice A2 m.n c2], .bool false])) w') := fun w' hb => ⟨A, c, A2, c2, rfl, hb, fun D hD hR => hR.on hb⟩
  rw [ht] at HG
  rw [hy] at HMay
  clear ht hy HU
  unfold rsCells valId
  clear h hm HFL
  generalize getL m.l x = gb at HG
  clear hus hrm
  generalize m.n = N at *
  generalize m.room = rm at *
  generalize m.l.length = L at *
  have hxf := x.hf
  have hxs := x.hs
  generalize x.f = f at *
  generalize x.s = s at *
  go_enter Try.func26, Try.ntmps26
  go_wp2_with fail
  generalize hw0 : World.alloc (World.alloc (World.alloc w _) _) _ = w0
  have P0 : PBox w #[.int .i64 (N : Int), .int .i64 (rm : Int), .slice A L c, .slice A2 N c2] #[.int .u8 (f : Int), .int .u64 (s : Int)] zeroS w0 := PBox.start hw0
  have x0 := P0.c (i := 0) rfl
  have x1 := P0.c (i := 1) rfl
  have x2 := P0.c (i := 2) rfl
  have x3 := P0.c (i := 3) rfl
  have i0 := P0.ci (i := 0) rfl
  have i1 := P0.ci (i := 1) rfl
  have H0 := Lib.hid P0
  clear hw0 P0
  go_wp2_with fail
  refine (HG.out w0 H0.out.below).mono ?_
  rintro e w1 ⟨rfl, hb1⟩
  have P1 := H0.out.on hb1
  have H1 := Lib.hid P1
  have hlt1 := P1.lt
  have l0 := P1.c (i := 0) rfl
  clear x0 x1 x2 x3 i0 i1 H0 hb1 l0
  have x0 := later_cell (w0 := w1) (b := w.heap.size) (by omega) (P1.c (i := 0) rfl)
  have x1 := later_cell (w0 := w1) (b := w.heap.size) (by omega) (P1.c (i := 1) rfl)
  have x2 := later_cell (w0 := w1) (b := w.heap.size) (by omega) (P1.c (i := 2) rfl)
  have x3 := later_cell (w0 := w1) (b := w.heap.size) (by omega) (P1.c (i := 3) rfl)
  have i0 := later_cell (w0 := w1) (b := w.heap.size + 1) (by omega) (P1.ci (i := 0) rfl)
  have i1 := later_cell (w0 := w1) (b := w.heap.size + 1) (by omega) (P1.ci (i := 1) rfl)
  clear P1
  go_wp2_with fail
  refine wp_region_later mixed (by kernel_rfl) ?_
  repeat (go_big_quiet_step (first | (go_at_call 23; exact later_grew (HMay.out _)) | fail))
  refine wpQuiet_nil ?_
  intro _ hw'
  obtain ⟨p, rfl⟩ := hw'
  have H2 := Lib.hid (H1.out.on p.hb)
  clear x0 x1 x2 x3 i0 i1
  have x0 := H2.out.c (i := 0) rfl
  have x1 := H2.out.c (i := 1) rfl
  have x2 := H2.out.c (i := 2) rfl
  have x3 := H2.out.c (i := 3) rfl
  have r0 := H2.out.cr (i := 0) rfl
  have r1 := H2.out.cr (i := 1) rfl
  have r2 := H2.out.cr (i := 2) rfl
  have r3 := H2.out.cr (i := 3) rfl
  have g0 := H2.out.fr 0
  have g1 := H2.out.fr 1
  have g2 := H2.out.fr 2
  have g3 := H2.out.fr 3
  have hlt2 := H2.out.lt
  have hl0 : w.heap.size < (p.w).heap.size := by omega
  have hl2 : w.heap.size + 2 < (p.w).heap.size := by omega
  have HF := ((((H2.out.setRes 0 (.int .i64 (N : Int))).setRes 1 (.int .i64 (rm : Int))).setRes 2 (.slice A L c)).setRes 3 (.slice A2 N c2))
  go_wp2
  refine bodyPost_ret (results_cell_tmp rfl _ _ (w.heap.size + 2) _ rfl (load_rowS HF.res rfl)) rfl ?_
  exact HGS.out _ HF.below

set_option maxHeartbeats 1600000 in
theorem refPut_low (h : RsAt w D A c A2 c2 m) (hm : m.Ok) (x : Id) {A3 : Option Addr} {n c3 : Nat} (_ : n ≤ 1000) (ht : hasL m.l x = false) (hy : m.may x = true) (hlo : x.s ≤ num m.fl x.f) : Calls Try.prog 26 #[.agg (rsCells A c A2 c2 m), valId x, .slice A3 n c3] w (GotS w A c A2 c2 m m (.bool false)) := by
  have mixed := mixedOrders
  have HG : Hid (∀ W, RowKit.Below w.heap.size w W → Calls Try.prog 27 #[.agg #[.int .i64 (m.n : Int), .int .i64 (m.room : Int), .slice A m.l.length c, .slice A2 m.n c2], .agg #[.int .u8 (x.f : Int), .int .u64 (x.s : Int)]] W fun e w' => e = .returned (.tuple #[.string (str (getL m.l x)), .bool (hasL m.l x)]) ∧ RowKit.Below W.heap.size W w') := fun W hW => refGet_any (h.on hW) x
  have HU : Hid (∀ W, RowKit.Below w.heap.size w W → Calls Try.prog 13 #[.agg #[.int .i64 (m.n : Int), .int .i64 (m.room : Int), .slice A m.l.length c, .slice A2 m.n c2]] W fun e w' => e = .returned (.int .i64 (useL m.l : Int)) ∧ RowKit.Below W.heap.size W w') := fun W hW => refUsed_any (h.on hW) (by have := hm.use; have := hm.room; omega)
  have HMay : Hid (∀ W, Calls Try.prog 23 #[.agg #[.int .u8 (x.f : Int), .int .u64 (x.s : Int)], .int .i64 (m.n : Int)] W fun e w' => e = .returned (.bool (m.may x)) ∧ Grew W w') := fun W => by
    have := refMay_any x (m.n : Int) W (by have := hm.n2; omega)
    refine this.mono ?_
    rintro e w' ⟨rfl, hg⟩
    refine ⟨ret_bool ?_, hg⟩
    unfold Sm.may
    congr 1
    exact decide_eq_decide.2 (by omega)
  have HFL : Hid (m.may x = true → ∃ bf of', A2 = some ⟨bf, of', none⟩ ∧ bf < w.heap.size ∧ x.f < m.n ∧ w.cell? ⟨bf, of' + x.f, none⟩ = some (.int .u64 (num m.fl x.f : Int))) := fun hq => by
    unfold Sm.may at hq
    simp only [Bool.and_eq_true, decide_eq_true_eq] at hq
    have hl : x.f < m.fl.length := by rw [hm.fl]; exact hq.1
    obtain ⟨bf, of', e, hb, hc⟩ := h.floors.lies.at_ (uvs_at hl)
    rw [← num_in hl] at hc
    exact ⟨bf, of', e, hb, hq.1, hc⟩
  have hus := hm.use
  have hrm := hm.room
  have hn1 := hm.n1
  have hn2 := hm.n2
  have HGS : Hid (∀ w', RowKit.Below w.heap.size w w' → GotS w A c A2 c2 m m (.bool false) (.returned (.tuple #[.agg #[.int .i64 (m.n : Int), .int .i64 (m.room : Int), .slice A m.l.length c, .slice A2 m.n c2], .bool false])) w') := fun w' hb => ⟨A, c, A2, c2, rfl, hb, fun D hD hR => hR.on hb⟩
  obtain ⟨bf, of', rfl, hbf, hfn, cf⟩ := HFL.out hy
  rw [ht] at HG
  rw [hy] at HMay
  clear ht hy HU
  have hdl : decide (x.s ≤ num m.fl x.f) = true := decide_eq_true hlo
  unfold rsCells valId
  clear h hm HFL
  generalize getL m.l x = gb at HG
  clear hus hrm
  generalize num m.fl x.f = fv at *
  generalize m.n = N at *
  generalize m.room = rm at *
  generalize m.l.length = L at *
  have hxf := x.hf
  have hxs := x.hs
  generalize x.f = f at *
  generalize x.s = s at *
  go_enter Try.func26, Try.ntmps26
  go_wp2_with fail
  generalize hw0 : World.alloc (World.alloc (World.alloc w _) _) _ = w0
  have P0 : PBox w #[.int .i64 (N : Int), .int .i64 (rm : Int), .slice A L c, .slice (some ⟨bf, of', none⟩) N c2] #[.int .u8 (f : Int), .int .u64 (s : Int)] zeroS w0 := PBox.start hw0
  have x0 := P0.c (i := 0) rfl
  have x1 := P0.c (i := 1) rfl
  have x2 := P0.c (i := 2) rfl
  have x3 := P0.c (i := 3) rfl
  have i0 := P0.ci (i := 0) rfl
  have i1 := P0.ci (i := 1) rfl
  have H0 := Lib.hid P0
  clear hw0 P0
  go_wp2_with fail
  refine (HG.out w0 H0.out.below).mono ?_
  rintro e w1 ⟨rfl, hb1⟩
  have P1 := H0.out.on hb1
  have H1 := Lib.hid P1
  have hlt1 := P1.lt
  have l0 := P1.c (i := 0) rfl
  clear x0 x1 x2 x3 i0 i1 H0 hb1 l0
  have x0 := later_cell (w0 := w1) (b := w.heap.size) (by omega) (P1.c (i := 0) rfl)
  have x1 := later_cell (w0 := w1) (b := w.heap.size) (by omega) (P1.c (i := 1) rfl)
  have x2 := later_cell (w0 := w1) (b := w.heap.size) (by omega) (P1.c (i := 2) rfl)
  have x3 := later_cell (w0 := w1) (b := w.heap.size) (by omega) (P1.c (i := 3) rfl)
  have i0 := later_cell (w0 := w1) (b := w.heap.size + 1) (by omega) (P1.ci (i := 0) rfl)
  have i1 := later_cell (w0 := w1) (b := w.heap.size + 1) (by omega) (P1.ci (i := 1) rfl)
  have yf := later_cell (w0 := w1) (b := bf) (by omega) ((P1.below.cell (p := ⟨bf, of' + f, none⟩) hbf).trans cf)
  clear P1
  go_wp2_with fail
  refine wp_region_later mixed (by kernel_rfl) ?_
  repeat (go_big_quiet_step (first | (go_at_call 23; exact later_grew (HMay.out _)) | fail))
  refine wpQuiet_nil ?_
  intro _ hw'
  obtain ⟨p, rfl⟩ := hw'
  have H2 := Lib.hid (H1.out.on p.hb)
  clear x0 x1 x2 x3 i0 i1
  clear yf
  have x0 := H2.out.c (i := 0) rfl
  have x1 := H2.out.c (i := 1) rfl
  have x2 := H2.out.c (i := 2) rfl
  have x3 := H2.out.c (i := 3) rfl
  have r0 := H2.out.cr (i := 0) rfl
  have r1 := H2.out.cr (i := 1) rfl
  have r2 := H2.out.cr (i := 2) rfl
  have r3 := H2.out.cr (i := 3) rfl
  have g0 := H2.out.fr 0
  have g1 := H2.out.fr 1
  have g2 := H2.out.fr 2
  have g3 := H2.out.fr 3
  have hlt2 := H2.out.lt
  have hl0 : w.heap.size < (p.w).heap.size := by omega
  have hl2 : w.heap.size + 2 < (p.w).heap.size := by omega
  have HF := ((((H2.out.setRes 0 (.int .i64 (N : Int))).setRes 1 (.int .i64 (rm : Int))).setRes 2 (.slice A L c)).setRes 3 (.slice (some ⟨bf, of', none⟩) N c2))
  go_wp2
  refine bodyPost_ret (results_cell_tmp rfl _ _ (w.heap.size + 2) _ rfl (load_rowS HF.res rfl)) rfl ?_
  exact HGS.out _ HF.below

set_option maxHeartbeats 1600000 in
theorem refPut_full (h : RsAt w D A c A2 c2 m) (hm : m.Ok) (x : Id) {A3 : Option Addr} {n c3 : Nat} (hn : n ≤ 1000) (ht : hasL m.l x = false) (hy : m.may x = true) (hlo : ¬ x.s ≤ num m.fl x.f) (hro : m.room - useL m.l < n) : Calls Try.prog 26 #[.agg (rsCells A c A2 c2 m), valId x, .slice A3 n c3] w (GotS w A c A2 c2 m m (.bool false)) := by
  have mixed := mixedOrders
  have HG : Hid (∀ W, RowKit.Below w.heap.size w W → Calls Try.prog 27 #[.agg #[.int .i64 (m.n : Int), .int .i64 (m.room : Int), .slice A m.l.length c, .slice A2 m.n c2], .agg #[.int .u8 (x.f : Int), .int .u64 (x.s : Int)]] W fun e w' => e = .returned (.tuple #[.string (str (getL m.l x)), .bool (hasL m.l x)]) ∧ RowKit.Below W.heap.size W w') := fun W hW => refGet_any (h.on hW) x
  have HU : Hid (∀ W, RowKit.Below w.heap.size w W → Calls Try.prog 13 #[.agg #[.int .i64 (m.n : Int), .int .i64 (m.room : Int), .slice A m.l.length c, .slice A2 m.n c2]] W fun e w' => e = .returned (.int .i64 (useL m.l : Int)) ∧ RowKit.Below W.heap.size W w') := fun W hW => refUsed_any (h.on hW) (by have := hm.use; have := hm.room; omega)
  have HMay : Hid (∀ W, Calls Try.prog 23 #[.agg #[.int .u8 (x.f : Int), .int .u64 (x.s : Int)], .int .i64 (m.n : Int)] W fun e w' => e = .returned (.bool (m.may x)) ∧ Grew W w') := fun W => by
    have := refMay_any x (m.n : Int) W (by have := hm.n2; omega)
    refine this.mono ?_
    rintro e w' ⟨rfl, hg⟩
    refine ⟨ret_bool ?_, hg⟩
    unfold Sm.may
    congr 1
    exact decide_eq_decide.2 (by omega)
  have HFL : Hid (m.may x = true → ∃ bf of', A2 = some ⟨bf, of', none⟩ ∧ bf < w.heap.size ∧ x.f < m.n ∧ w.cell? ⟨bf, of' + x.f, none⟩ = some (.int .u64 (num m.fl x.f : Int))) := fun hq => by
    unfold Sm.may at hq
    simp only [Bool.and_eq_true, decide_eq_true_eq] at hq
    have hl : x.f < m.fl.length := by rw [hm.fl]; exact hq.1
    obtain ⟨bf, of', e, hb, hc⟩ := h.floors.lies.at_ (uvs_at hl)
    rw [← num_in hl] at hc
    exact ⟨bf, of', e, hb, hq.1, hc⟩
  have hus := hm.use
  have hrm := hm.room
  have hn1 := hm.n1
  have hn2 := hm.n2
  have HGS : Hid (∀ w', RowKit.Below w.heap.size w w' → GotS w A c A2 c2 m m (.bool false) (.returned (.tuple #[.agg #[.int .i64 (m.n : Int), .int .i64 (m.room : Int), .slice A m.l.length c, .slice A2 m.n c2], .bool false])) w') := fun w' hb => ⟨A, c, A2, c2, rfl, hb, fun D hD hR => hR.on hb⟩
  obtain ⟨bf, of', rfl, hbf, hfn, cf⟩ := HFL.out hy
  rw [ht] at HG
  rw [hy] at HMay
  clear ht hy
  have hdl : decide (x.s ≤ num m.fl x.f) = false := decide_eq_false hlo
  have hdr : decide (m.room - useL m.l < n) = true := decide_eq_true hro
  have hd0 : (m.room : Int) - (useL m.l : Int) = ((m.room - useL m.l : Nat) : Int) := by omega
  unfold rsCells valId
  clear h hm HFL
  generalize getL m.l x = gb at HG
  generalize num m.fl x.f = fv at *
  have hfr : m.room - useL m.l ≤ 9223372036854775807 := by omega
  generalize m.room - useL m.l = fr at *
  generalize useL m.l = us at *
  generalize m.n = N at *
  generalize m.room = rm at *
  generalize m.l.length = L at *
  have hxf := x.hf
  have hxs := x.hs
  generalize x.f = f at *
  generalize x.s = s at *
  go_enter Try.func26, Try.ntmps26
  go_wp2_with fail
  generalize hw0 : World.alloc (World.alloc (World.alloc w _) _) _ = w0
  have P0 : PBox w #[.int .i64 (N : Int), .int .i64 (rm : Int), .slice A L c, .slice (some ⟨bf, of', none⟩) N c2] #[.int .u8 (f : Int), .int .u64 (s : Int)] zeroS w0 := PBox.start hw0
  have x0 := P0.c (i := 0) rfl
  have x1 := P0.c (i := 1) rfl
  have x2 := P0.c (i := 2) rfl
  have x3 := P0.c (i := 3) rfl
  have i0 := P0.ci (i := 0) rfl
  have i1 := P0.ci (i := 1) rfl
  have H0 := Lib.hid P0
  clear hw0 P0
  go_wp2_with fail
  refine (HG.out w0 H0.out.below).mono ?_
  rintro e w1 ⟨rfl, hb1⟩
  have P1 := H0.out.on hb1
  have H1 := Lib.hid P1
  have hlt1 := P1.lt
  have l0 := P1.c (i := 0) rfl
  clear x0 x1 x2 x3 i0 i1 H0 hb1 l0
  have x0 := later_cell (w0 := w1) (b := w.heap.size) (by omega) (P1.c (i := 0) rfl)
  have x1 := later_cell (w0 := w1) (b := w.heap.size) (by omega) (P1.c (i := 1) rfl)
  have x2 := later_cell (w0 := w1) (b := w.heap.size) (by omega) (P1.c (i := 2) rfl)
  have x3 := later_cell (w0 := w1) (b := w.heap.size) (by omega) (P1.c (i := 3) rfl)
  have i0 := later_cell (w0 := w1) (b := w.heap.size + 1) (by omega) (P1.ci (i := 0) rfl)
  have i1 := later_cell (w0 := w1) (b := w.heap.size + 1) (by omega) (P1.ci (i := 1) rfl)
  have yf := later_cell (w0 := w1) (b := bf) (by omega) ((P1.below.cell (p := ⟨bf, of' + f, none⟩) hbf).trans cf)
  clear P1
  go_wp2_with fail
  refine wp_region_later mixed (by kernel_rfl) ?_
  repeat (go_big_quiet_step (first | (go_at_call 23; exact later_grew (HMay.out _)) | (go_at_call 13; exact later_of (HU.out _ (H1.out.below.trans (Later.hb _ |>.mono H1.out.below.size)))) | fail))
  refine wpQuiet_nil ?_
  intro _ hw'
  obtain ⟨p, rfl⟩ := hw'
  have H2 := Lib.hid (H1.out.on p.hb)
  clear x0 x1 x2 x3 i0 i1
  clear yf
  have x0 := H2.out.c (i := 0) rfl
  have x1 := H2.out.c (i := 1) rfl
  have x2 := H2.out.c (i := 2) rfl
  have x3 := H2.out.c (i := 3) rfl
  have r0 := H2.out.cr (i := 0) rfl
  have r1 := H2.out.cr (i := 1) rfl
  have r2 := H2.out.cr (i := 2) rfl
  have r3 := H2.out.cr (i := 3) rfl
  have g0 := H2.out.fr 0
  have g1 := H2.out.fr 1
  have g2 := H2.out.fr 2
  have g3 := H2.out.fr 3
  have hlt2 := H2.out.lt
  have hl0 : w.heap.size < (p.w).heap.size := by omega
  have hl2 : w.heap.size + 2 < (p.w).heap.size := by omega
  have HF := ((((H2.out.setRes 0 (.int .i64 (N : Int))).setRes 1 (.int .i64 (rm : Int))).setRes 2 (.slice A L c)).setRes 3 (.slice (some ⟨bf, of', none⟩) N c2))
  go_wp2
  refine bodyPost_ret (results_cell_tmp rfl _ _ (w.heap.size + 2) _ rfl (load_rowS HF.res rfl)) rfl ?_
  exact HGS.out _ HF.below
end

end Go.Proofs.Ytnpdjlcekmpmoaa
