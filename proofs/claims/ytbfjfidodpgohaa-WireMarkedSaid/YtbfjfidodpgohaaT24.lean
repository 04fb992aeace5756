/- The document's absent: are all fields zero that a kind doesn't have (qdaozb, daozb)? -/
import Derived.Test.YtbfjfidodpgohaaT23

namespace Go.Proofs.Ytbfjfidodpgohaa
open Go.RowKit Go.Sort

set_option maxRecDepth 100000 in
set_option maxHeartbeats 3200000 in
theorem absent_qdaozb (F : Fr) (cs : Array Value) (w : World) (hF : FrL w F cs) :
    Calls Try.prog 37 #[.agg cs, .string ⟨#[113, 100, 97, 111, 122, 98]⟩] w fun e w' => e = .returned (.bool (absB F ⟨#[113, 100, 97, 111, 122, 98]⟩)) ∧ RowKit.Below w.heap.size w w' := by
  obtain ⟨x0, x1, x2, x3, x4, x5, x6, x7, x8, x9, x10⟩ := hF.at_
  obtain ⟨A11, c11, A12, c12, A13, c13, A14, c14, A15, c15, x11, x12, x13, x14, x15⟩ := hF.sls
  have HB : Hid (RowKit.Below w.heap.size w (w.alloc (.cells cs 33))) := (RowKit.Below.refl _ _).alloc (Nat.le_refl _) _
  have e : absB F ⟨#[113, 100, 97, 111, 122, 98]⟩ = ((F.inst == 0) && (F.rnd == 0) && (F.est.length == 0) && (F.aux.length == 0) && (F.done.length == 0) && (F.held.length == 0)) := by
    unfold absB
    rw [show inB ⟨#[113, 100, 97, 111, 122, 98]⟩ 113 = true from by decide, show inB ⟨#[113, 100, 97, 111, 122, 98]⟩ 100 = true from by decide, show inB ⟨#[113, 100, 97, 111, 122, 98]⟩ 97 = true from by decide, show inB ⟨#[113, 100, 97, 111, 122, 98]⟩ 111 = true from by decide, show inB ⟨#[113, 100, 97, 111, 122, 98]⟩ 122 = true from by decide, show inB ⟨#[113, 100, 97, 111, 122, 98]⟩ 105 = false from by decide, show inB ⟨#[113, 100, 97, 111, 122, 98]⟩ 114 = false from by decide, show inB ⟨#[113, 100, 97, 111, 122, 98]⟩ 101 = false from by decide, show inB ⟨#[113, 100, 97, 111, 122, 98]⟩ 120 = false from by decide, show inB ⟨#[113, 100, 97, 111, 122, 98]⟩ 110 = false from by decide, show inB ⟨#[113, 100, 97, 111, 122, 98]⟩ 104 = false from by decide, show inB ⟨#[113, 100, 97, 111, 122, 98]⟩ 98 = true from by decide]
    simp only [Bool.true_or, Bool.false_or, Bool.true_and, Bool.and_true]
  rw [e]
  clear e hF
  generalize F.est.length = n_e at x11 ⊢
  generalize F.aux.length = n_x at x12 ⊢
  generalize F.done.length = n_n at x13 ⊢
  generalize F.held.length = n_h at x14 ⊢
  generalize F.data.length = n_b at x15 ⊢
  have d_i : ((F.inst : Int) != 0) = !(F.inst == 0) := bne_zero _
  generalize (F.inst == 0) = z_i at d_i ⊢
  have d_r : ((F.rnd : Int) != 0) = !(F.rnd == 0) := bne_zero _
  generalize (F.rnd == 0) = z_r at d_r ⊢
  have d_e : decide ((0 : Int) < (n_e : Int)) = !(n_e == 0) := pos_zero _
  have p_e : decide (0 < n_e) = !(n_e == 0) := pos_zeroN _
  generalize (n_e == 0) = z_e at d_e p_e ⊢
  have d_x : decide ((0 : Int) < (n_x : Int)) = !(n_x == 0) := pos_zero _
  have p_x : decide (0 < n_x) = !(n_x == 0) := pos_zeroN _
  generalize (n_x == 0) = z_x at d_x p_x ⊢
  have d_n : ((n_n : Int) == 0) = (n_n == 0) := beq_zero _
  generalize (n_n == 0) = z_n at d_n ⊢
  have d_h : ((n_h : Int) == 0) = (n_h == 0) := beq_zero _
  generalize (n_h == 0) = z_h at d_h ⊢
  go_enter Try.func37, Try.ntmps37
  go_wp2_with fail
  refine (in_lit ⟨#[113, 100, 97, 111, 122, 98]⟩ 113 true _ (by decide) (by decide) rfl _).mono ?_
  rintro e _ ⟨rfl, rfl⟩
  go_wp2_with fail
  refine (in_lit ⟨#[113, 100, 97, 111, 122, 98]⟩ 100 true _ (by decide) (by decide) rfl _).mono ?_
  rintro e _ ⟨rfl, rfl⟩
  go_wp2_with fail
  refine (in_lit ⟨#[113, 100, 97, 111, 122, 98]⟩ 97 true _ (by decide) (by decide) rfl _).mono ?_
  rintro e _ ⟨rfl, rfl⟩
  go_wp2_with fail
  refine (in_lit ⟨#[113, 100, 97, 111, 122, 98]⟩ 111 true _ (by decide) (by decide) rfl _).mono ?_
  rintro e _ ⟨rfl, rfl⟩
  go_wp2_with fail
  refine (in_lit ⟨#[113, 100, 97, 111, 122, 98]⟩ 122 true _ (by decide) (by decide) rfl _).mono ?_
  rintro e _ ⟨rfl, rfl⟩
  go_wp2_with fail
  refine (in_lit ⟨#[113, 100, 97, 111, 122, 98]⟩ 105 false _ (by decide) (by decide) rfl _).mono ?_
  rintro e _ ⟨rfl, rfl⟩
  cases z_i
  · simp only [Bool.not_false] at d_i
    go_wp2
    go_ret
    exact ⟨ret_bool (by simp), HB.out⟩
  simp only [Bool.not_true] at d_i
  go_wp2_with fail
  refine (in_lit ⟨#[113, 100, 97, 111, 122, 98]⟩ 114 false _ (by decide) (by decide) rfl _).mono ?_
  rintro e _ ⟨rfl, rfl⟩
  cases z_r
  · simp only [Bool.not_false] at d_r
    go_wp2
    go_ret
    exact ⟨ret_bool (by simp), HB.out⟩
  simp only [Bool.not_true] at d_r
  go_wp2_with fail
  refine (in_lit ⟨#[113, 100, 97, 111, 122, 98]⟩ 101 false _ (by decide) (by decide) rfl _).mono ?_
  rintro e _ ⟨rfl, rfl⟩
  cases z_e
  · simp only [Bool.not_false] at d_e p_e
    go_wp2
    go_ret
    exact ⟨ret_bool (by simp), HB.out⟩
  simp only [Bool.not_true] at d_e p_e
  go_wp2_with fail
  refine (in_lit ⟨#[113, 100, 97, 111, 122, 98]⟩ 120 false _ (by decide) (by decide) rfl _).mono ?_
  rintro e _ ⟨rfl, rfl⟩
  cases z_x
  · simp only [Bool.not_false] at d_x p_x
    go_wp2
    go_ret
    exact ⟨ret_bool (by simp), HB.out⟩
  simp only [Bool.not_true] at d_x p_x
  go_wp2_with fail
  refine (in_lit ⟨#[113, 100, 97, 111, 122, 98]⟩ 110 false _ (by decide) (by decide) rfl _).mono ?_
  rintro e _ ⟨rfl, rfl⟩
  cases z_n
  · go_wp2
    go_ret
    exact ⟨ret_bool (by simp), HB.out⟩
  go_wp2_with fail
  refine (in_lit ⟨#[113, 100, 97, 111, 122, 98]⟩ 104 false _ (by decide) (by decide) rfl _).mono ?_
  rintro e _ ⟨rfl, rfl⟩
  cases z_h
  · go_wp2
    go_ret
    exact ⟨ret_bool (by simp), HB.out⟩
  go_wp2_with fail
  refine (in_lit ⟨#[113, 100, 97, 111, 122, 98]⟩ 98 true _ (by decide) (by decide) rfl _).mono ?_
  rintro e _ ⟨rfl, rfl⟩
  go_wp2
  go_ret
  exact ⟨ret_bool (by simp), HB.out⟩

set_option maxRecDepth 100000 in
set_option maxHeartbeats 3200000 in
theorem absent_daozb (F : Fr) (cs : Array Value) (w : World) (hF : FrL w F cs) :
    Calls Try.prog 37 #[.agg cs, .string ⟨#[100, 97, 111, 122, 98]⟩] w fun e w' => e = .returned (.bool (absB F ⟨#[100, 97, 111, 122, 98]⟩)) ∧ RowKit.Below w.heap.size w w' := by
  obtain ⟨x0, x1, x2, x3, x4, x5, x6, x7, x8, x9, x10⟩ := hF.at_
  obtain ⟨A11, c11, A12, c12, A13, c13, A14, c14, A15, c15, x11, x12, x13, x14, x15⟩ := hF.sls
  have HB : Hid (RowKit.Below w.heap.size w (w.alloc (.cells cs 33))) := (RowKit.Below.refl _ _).alloc (Nat.le_refl _) _
  have e : absB F ⟨#[100, 97, 111, 122, 98]⟩ = ((F.seq == 0) && (F.inst == 0) && (F.rnd == 0) && (F.est.length == 0) && (F.aux.length == 0) && (F.done.length == 0) && (F.held.length == 0)) := by
    unfold absB
    rw [show inB ⟨#[100, 97, 111, 122, 98]⟩ 113 = false from by decide, show inB ⟨#[100, 97, 111, 122, 98]⟩ 100 = true from by decide, show inB ⟨#[100, 97, 111, 122, 98]⟩ 97 = true from by decide, show inB ⟨#[100, 97, 111, 122, 98]⟩ 111 = true from by decide, show inB ⟨#[100, 97, 111, 122, 98]⟩ 122 = true from by decide, show inB ⟨#[100, 97, 111, 122, 98]⟩ 105 = false from by decide, show inB ⟨#[100, 97, 111, 122, 98]⟩ 114 = false from by decide, show inB ⟨#[100, 97, 111, 122, 98]⟩ 101 = false from by decide, show inB ⟨#[100, 97, 111, 122, 98]⟩ 120 = false from by decide, show inB ⟨#[100, 97, 111, 122, 98]⟩ 110 = false from by decide, show inB ⟨#[100, 97, 111, 122, 98]⟩ 104 = false from by decide, show inB ⟨#[100, 97, 111, 122, 98]⟩ 98 = true from by decide]
    simp only [Bool.true_or, Bool.false_or, Bool.and_true]
  rw [e]
  clear e hF
  generalize F.est.length = n_e at x11 ⊢
  generalize F.aux.length = n_x at x12 ⊢
  generalize F.done.length = n_n at x13 ⊢
  generalize F.held.length = n_h at x14 ⊢
  generalize F.data.length = n_b at x15 ⊢
  have d_q : ((F.seq : Int) != 0) = !(F.seq == 0) := bne_zero _
  generalize (F.seq == 0) = z_q at d_q ⊢
  have d_i : ((F.inst : Int) != 0) = !(F.inst == 0) := bne_zero _
  generalize (F.inst == 0) = z_i at d_i ⊢
  have d_r : ((F.rnd : Int) != 0) = !(F.rnd == 0) := bne_zero _
  generalize (F.rnd == 0) = z_r at d_r ⊢
  have d_e : decide ((0 : Int) < (n_e : Int)) = !(n_e == 0) := pos_zero _
  have p_e : decide (0 < n_e) = !(n_e == 0) := pos_zeroN _
  generalize (n_e == 0) = z_e at d_e p_e ⊢
  have d_x : decide ((0 : Int) < (n_x : Int)) = !(n_x == 0) := pos_zero _
  have p_x : decide (0 < n_x) = !(n_x == 0) := pos_zeroN _
  generalize (n_x == 0) = z_x at d_x p_x ⊢
  have d_n : ((n_n : Int) == 0) = (n_n == 0) := beq_zero _
  generalize (n_n == 0) = z_n at d_n ⊢
  have d_h : ((n_h : Int) == 0) = (n_h == 0) := beq_zero _
  generalize (n_h == 0) = z_h at d_h ⊢
  go_enter Try.func37, Try.ntmps37
  go_wp2_with fail
  refine (in_lit ⟨#[100, 97, 111, 122, 98]⟩ 113 false _ (by decide) (by decide) rfl _).mono ?_
  rintro e _ ⟨rfl, rfl⟩
  cases z_q
  · simp only [Bool.not_false] at d_q
    go_wp2
    go_ret
    exact ⟨ret_bool (by simp), HB.out⟩
  simp only [Bool.not_true] at d_q
  go_wp2_with fail
  refine (in_lit ⟨#[100, 97, 111, 122, 98]⟩ 100 true _ (by decide) (by decide) rfl _).mono ?_
  rintro e _ ⟨rfl, rfl⟩
  go_wp2_with fail
  refine (in_lit ⟨#[100, 97, 111, 122, 98]⟩ 97 true _ (by decide) (by decide) rfl _).mono ?_
  rintro e _ ⟨rfl, rfl⟩
  go_wp2_with fail
  refine (in_lit ⟨#[100, 97, 111, 122, 98]⟩ 111 true _ (by decide) (by decide) rfl _).mono ?_
  rintro e _ ⟨rfl, rfl⟩
  go_wp2_with fail
  refine (in_lit ⟨#[100, 97, 111, 122, 98]⟩ 122 true _ (by decide) (by decide) rfl _).mono ?_
  rintro e _ ⟨rfl, rfl⟩
  go_wp2_with fail
  refine (in_lit ⟨#[100, 97, 111, 122, 98]⟩ 105 false _ (by decide) (by decide) rfl _).mono ?_
  rintro e _ ⟨rfl, rfl⟩
  cases z_i
  · simp only [Bool.not_false] at d_i
    go_wp2
    go_ret
    exact ⟨ret_bool (by simp), HB.out⟩
  simp only [Bool.not_true] at d_i
  go_wp2_with fail
  refine (in_lit ⟨#[100, 97, 111, 122, 98]⟩ 114 false _ (by decide) (by decide) rfl _).mono ?_
  rintro e _ ⟨rfl, rfl⟩
  cases z_r
  · simp only [Bool.not_false] at d_r
    go_wp2
    go_ret
    exact ⟨ret_bool (by simp), HB.out⟩
  simp only [Bool.not_true] at d_r
  go_wp2_with fail
  refine (in_lit ⟨#[100, 97, 111, 122, 98]⟩ 101 false _ (by decide) (by decide) rfl _).mono ?_
  rintro e _ ⟨rfl, rfl⟩
  cases z_e
  · simp only [Bool.not_false] at d_e p_e
    go_wp2
    go_ret
    exact ⟨ret_bool (by simp), HB.out⟩
  simp only [Bool.not_true] at d_e p_e
  go_wp2_with fail
  refine (in_lit ⟨#[100, 97, 111, 122, 98]⟩ 120 false _ (by decide) (by decide) rfl _).mono ?_
  rintro e _ ⟨rfl, rfl⟩
  cases z_x
  · simp only [Bool.not_false] at d_x p_x
    go_wp2
    go_ret
    exact ⟨ret_bool (by simp), HB.out⟩
  simp only [Bool.not_true] at d_x p_x
  go_wp2_with fail
  refine (in_lit ⟨#[100, 97, 111, 122, 98]⟩ 110 false _ (by decide) (by decide) rfl _).mono ?_
  rintro e _ ⟨rfl, rfl⟩
  cases z_n
  · go_wp2
    go_ret
    exact ⟨ret_bool (by simp), HB.out⟩
  go_wp2_with fail
  refine (in_lit ⟨#[100, 97, 111, 122, 98]⟩ 104 false _ (by decide) (by decide) rfl _).mono ?_
  rintro e _ ⟨rfl, rfl⟩
  cases z_h
  · go_wp2
    go_ret
    exact ⟨ret_bool (by simp), HB.out⟩
  go_wp2_with fail
  refine (in_lit ⟨#[100, 97, 111, 122, 98]⟩ 98 true _ (by decide) (by decide) rfl _).mono ?_
  rintro e _ ⟨rfl, rfl⟩
  go_wp2
  go_ret
  exact ⟨ret_bool (by simp), HB.out⟩

end Go.Proofs.Ytbfjfidodpgohaa
