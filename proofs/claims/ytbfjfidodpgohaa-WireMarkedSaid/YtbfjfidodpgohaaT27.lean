/- The document's absent: are all fields zero that a kind doesn't have (ie, inh)? -/
import Derived.Test.YtbfjfidodpgohaaT23

namespace Go.Proofs.Ytbfjfidodpgohaa
open Go.RowKit Go.Sort

set_option maxRecDepth 100000 in
set_option maxHeartbeats 3200000 in
theorem absent_ie (F : Fr) (cs : Array Value) (w : World) (hF : FrL w F cs) :
    Calls Try.prog 37 #[.agg cs, .string ⟨#[105, 101]⟩] w fun e w' => e = .returned (.bool (absB F ⟨#[105, 101]⟩)) ∧ RowKit.Below w.heap.size w w' := by
  obtain ⟨x0, x1, x2, x3, x4, x5, x6, x7, x8, x9, x10⟩ := hF.at_
  obtain ⟨A11, c11, A12, c12, A13, c13, A14, c14, A15, c15, x11, x12, x13, x14, x15⟩ := hF.sls
  have HB : Hid (RowKit.Below w.heap.size w (w.alloc (.cells cs 33))) := (RowKit.Below.refl _ _).alloc (Nat.le_refl _) _
  have e : absB F ⟨#[105, 101]⟩ = ((F.seq == 0) && ((F.id.f == 0) && (F.id.s == 0)) && (F.at_ == 0) && (F.of_ == 0) && (F.size == 0) && (F.rnd == 0) && (F.aux.length == 0) && (F.done.length == 0) && (F.held.length == 0) && (F.data.length == 0)) := by
    unfold absB
    rw [show inB ⟨#[105, 101]⟩ 113 = false from by decide, show inB ⟨#[105, 101]⟩ 100 = false from by decide, show inB ⟨#[105, 101]⟩ 97 = false from by decide, show inB ⟨#[105, 101]⟩ 111 = false from by decide, show inB ⟨#[105, 101]⟩ 122 = false from by decide, show inB ⟨#[105, 101]⟩ 105 = true from by decide, show inB ⟨#[105, 101]⟩ 114 = false from by decide, show inB ⟨#[105, 101]⟩ 101 = true from by decide, show inB ⟨#[105, 101]⟩ 120 = false from by decide, show inB ⟨#[105, 101]⟩ 110 = false from by decide, show inB ⟨#[105, 101]⟩ 104 = false from by decide, show inB ⟨#[105, 101]⟩ 98 = false from by decide]
    simp only [Bool.true_or, Bool.false_or, Bool.and_true]
  rw [e]
  clear e hF
  generalize F.est.length = n_e at x11 ⊢
  generalize F.aux.length = n_x at x12 ⊢
  generalize F.done.length = n_n at x13 ⊢
  generalize F.held.length = n_h at x14 ⊢
  generalize F.data.length = n_b at x15 ⊢
  have d_q : ((F.seq : Int) != 0) = !(F.seq == 0) := bne_zero _
  generalize (F.seq == 0) = z_q at d_q ⊢
  have d_f : ((F.id.f : Int) != 0) = !(F.id.f == 0) := bne_zero _
  have d_s : ((F.id.s : Int) != 0) = !(F.id.s == 0) := bne_zero _
  generalize (F.id.f == 0) = z_f at d_f ⊢
  generalize (F.id.s == 0) = z_s at d_s ⊢
  have d_a : ((F.at_ : Int) != 0) = !(F.at_ == 0) := bne_zero _
  generalize (F.at_ == 0) = z_a at d_a ⊢
  have d_o : ((F.of_ : Int) != 0) = !(F.of_ == 0) := bne_zero _
  generalize (F.of_ == 0) = z_o at d_o ⊢
  have d_z : ((F.size : Int) != 0) = !(F.size == 0) := bne_zero _
  generalize (F.size == 0) = z_z at d_z ⊢
  have d_r : ((F.rnd : Int) != 0) = !(F.rnd == 0) := bne_zero _
  generalize (F.rnd == 0) = z_r at d_r ⊢
  have d_x : decide ((0 : Int) < (n_x : Int)) = !(n_x == 0) := pos_zero _
  have p_x : decide (0 < n_x) = !(n_x == 0) := pos_zeroN _
  generalize (n_x == 0) = z_x at d_x p_x ⊢
  have d_n : ((n_n : Int) == 0) = (n_n == 0) := beq_zero _
  generalize (n_n == 0) = z_n at d_n ⊢
  have d_h : ((n_h : Int) == 0) = (n_h == 0) := beq_zero _
  generalize (n_h == 0) = z_h at d_h ⊢
  have d_b : ((n_b : Int) == 0) = (n_b == 0) := beq_zero _
  generalize (n_b == 0) = z_b at d_b ⊢
  go_enter Try.func37, Try.ntmps37
  go_wp2_with fail
  refine (in_lit ⟨#[105, 101]⟩ 113 false _ (by decide) (by decide) rfl _).mono ?_
  rintro e _ ⟨rfl, rfl⟩
  cases z_q
  · simp only [Bool.not_false] at d_q
    go_wp2
    go_ret
    exact ⟨ret_bool (by simp), HB.out⟩
  simp only [Bool.not_true] at d_q
  go_wp2_with fail
  refine (in_lit ⟨#[105, 101]⟩ 100 false _ (by decide) (by decide) rfl _).mono ?_
  rintro e _ ⟨rfl, rfl⟩
  cases z_f
  · simp only [Bool.not_false] at d_f
    go_wp2
    go_ret
    exact ⟨ret_bool (by simp), HB.out⟩
  simp only [Bool.not_true] at d_f
  cases z_s
  · simp only [Bool.not_false] at d_s
    go_wp2
    go_ret
    exact ⟨ret_bool (by simp), HB.out⟩
  simp only [Bool.not_true] at d_s
  go_wp2_with fail
  refine (in_lit ⟨#[105, 101]⟩ 97 false _ (by decide) (by decide) rfl _).mono ?_
  rintro e _ ⟨rfl, rfl⟩
  cases z_a
  · simp only [Bool.not_false] at d_a
    go_wp2
    go_ret
    exact ⟨ret_bool (by simp), HB.out⟩
  simp only [Bool.not_true] at d_a
  go_wp2_with fail
  refine (in_lit ⟨#[105, 101]⟩ 111 false _ (by decide) (by decide) rfl _).mono ?_
  rintro e _ ⟨rfl, rfl⟩
  cases z_o
  · simp only [Bool.not_false] at d_o
    go_wp2
    go_ret
    exact ⟨ret_bool (by simp), HB.out⟩
  simp only [Bool.not_true] at d_o
  go_wp2_with fail
  refine (in_lit ⟨#[105, 101]⟩ 122 false _ (by decide) (by decide) rfl _).mono ?_
  rintro e _ ⟨rfl, rfl⟩
  cases z_z
  · simp only [Bool.not_false] at d_z
    go_wp2
    go_ret
    exact ⟨ret_bool (by simp), HB.out⟩
  simp only [Bool.not_true] at d_z
  go_wp2_with fail
  refine (in_lit ⟨#[105, 101]⟩ 105 true _ (by decide) (by decide) rfl _).mono ?_
  rintro e _ ⟨rfl, rfl⟩
  go_wp2_with fail
  refine (in_lit ⟨#[105, 101]⟩ 114 false _ (by decide) (by decide) rfl _).mono ?_
  rintro e _ ⟨rfl, rfl⟩
  cases z_r
  · simp only [Bool.not_false] at d_r
    go_wp2
    go_ret
    exact ⟨ret_bool (by simp), HB.out⟩
  simp only [Bool.not_true] at d_r
  go_wp2_with fail
  refine (in_lit ⟨#[105, 101]⟩ 101 true _ (by decide) (by decide) rfl _).mono ?_
  rintro e _ ⟨rfl, rfl⟩
  go_wp2_with fail
  refine (in_lit ⟨#[105, 101]⟩ 120 false _ (by decide) (by decide) rfl _).mono ?_
  rintro e _ ⟨rfl, rfl⟩
  cases z_x
  · simp only [Bool.not_false] at d_x p_x
    go_wp2
    go_ret
    exact ⟨ret_bool (by simp), HB.out⟩
  simp only [Bool.not_true] at d_x p_x
  go_wp2_with fail
  refine (in_lit ⟨#[105, 101]⟩ 110 false _ (by decide) (by decide) rfl _).mono ?_
  rintro e _ ⟨rfl, rfl⟩
  cases z_n
  · go_wp2
    go_ret
    exact ⟨ret_bool (by simp), HB.out⟩
  go_wp2_with fail
  refine (in_lit ⟨#[105, 101]⟩ 104 false _ (by decide) (by decide) rfl _).mono ?_
  rintro e _ ⟨rfl, rfl⟩
  cases z_h
  · go_wp2
    go_ret
    exact ⟨ret_bool (by simp), HB.out⟩
  go_wp2_with fail
  refine (in_lit ⟨#[105, 101]⟩ 98 false _ (by decide) (by decide) rfl _).mono ?_
  rintro e _ ⟨rfl, rfl⟩
  cases z_b
  · go_wp2
    go_ret
    exact ⟨ret_bool (by simp), HB.out⟩
  go_wp2
  go_ret
  exact ⟨ret_bool (by simp), HB.out⟩

set_option maxRecDepth 100000 in
set_option maxHeartbeats 3200000 in
theorem absent_inh (F : Fr) (cs : Array Value) (w : World) (hF : FrL w F cs) :
    Calls Try.prog 37 #[.agg cs, .string ⟨#[105, 110, 104]⟩] w fun e w' => e = .returned (.bool (absB F ⟨#[105, 110, 104]⟩)) ∧ RowKit.Below w.heap.size w w' := by
  obtain ⟨x0, x1, x2, x3, x4, x5, x6, x7, x8, x9, x10⟩ := hF.at_
  obtain ⟨A11, c11, A12, c12, A13, c13, A14, c14, A15, c15, x11, x12, x13, x14, x15⟩ := hF.sls
  have HB : Hid (RowKit.Below w.heap.size w (w.alloc (.cells cs 33))) := (RowKit.Below.refl _ _).alloc (Nat.le_refl _) _
  have e : absB F ⟨#[105, 110, 104]⟩ = ((F.seq == 0) && ((F.id.f == 0) && (F.id.s == 0)) && (F.at_ == 0) && (F.of_ == 0) && (F.size == 0) && (F.rnd == 0) && (F.est.length == 0) && (F.aux.length == 0) && (F.data.length == 0)) := by
    unfold absB
    rw [show inB ⟨#[105, 110, 104]⟩ 113 = false from by decide, show inB ⟨#[105, 110, 104]⟩ 100 = false from by decide, show inB ⟨#[105, 110, 104]⟩ 97 = false from by decide, show inB ⟨#[105, 110, 104]⟩ 111 = false from by decide, show inB ⟨#[105, 110, 104]⟩ 122 = false from by decide, show inB ⟨#[105, 110, 104]⟩ 105 = true from by decide, show inB ⟨#[105, 110, 104]⟩ 114 = false from by decide, show inB ⟨#[105, 110, 104]⟩ 101 = false from by decide, show inB ⟨#[105, 110, 104]⟩ 120 = false from by decide, show inB ⟨#[105, 110, 104]⟩ 110 = true from by decide, show inB ⟨#[105, 110, 104]⟩ 104 = true from by decide, show inB ⟨#[105, 110, 104]⟩ 98 = false from by decide]
    simp only [Bool.true_or, Bool.false_or, Bool.and_true]
  rw [e]
  clear e hF
  generalize F.est.length = n_e at x11 ⊢
  generalize F.aux.length = n_x at x12 ⊢
  generalize F.done.length = n_n at x13 ⊢
  generalize F.held.length = n_h at x14 ⊢
  generalize F.data.length = n_b at x15 ⊢
  have d_q : ((F.seq : Int) != 0) = !(F.seq == 0) := bne_zero _
  generalize (F.seq == 0) = z_q at d_q ⊢
  have d_f : ((F.id.f : Int) != 0) = !(F.id.f == 0) := bne_zero _
  have d_s : ((F.id.s : Int) != 0) = !(F.id.s == 0) := bne_zero _
  generalize (F.id.f == 0) = z_f at d_f ⊢
  generalize (F.id.s == 0) = z_s at d_s ⊢
  have d_a : ((F.at_ : Int) != 0) = !(F.at_ == 0) := bne_zero _
  generalize (F.at_ == 0) = z_a at d_a ⊢
  have d_o : ((F.of_ : Int) != 0) = !(F.of_ == 0) := bne_zero _
  generalize (F.of_ == 0) = z_o at d_o ⊢
  have d_z : ((F.size : Int) != 0) = !(F.size == 0) := bne_zero _
  generalize (F.size == 0) = z_z at d_z ⊢
  have d_r : ((F.rnd : Int) != 0) = !(F.rnd == 0) := bne_zero _
  generalize (F.rnd == 0) = z_r at d_r ⊢
  have d_e : decide ((0 : Int) < (n_e : Int)) = !(n_e == 0) := pos_zero _
  have p_e : decide (0 < n_e) = !(n_e == 0) := pos_zeroN _
  generalize (n_e == 0) = z_e at d_e p_e ⊢
  have d_x : decide ((0 : Int) < (n_x : Int)) = !(n_x == 0) := pos_zero _
  have p_x : decide (0 < n_x) = !(n_x == 0) := pos_zeroN _
  generalize (n_x == 0) = z_x at d_x p_x ⊢
  have d_b : ((n_b : Int) == 0) = (n_b == 0) := beq_zero _
  generalize (n_b == 0) = z_b at d_b ⊢
  go_enter Try.func37, Try.ntmps37
  go_wp2_with fail
  refine (in_lit ⟨#[105, 110, 104]⟩ 113 false _ (by decide) (by decide) rfl _).mono ?_
  rintro e _ ⟨rfl, rfl⟩
  cases z_q
  · simp only [Bool.not_false] at d_q
    go_wp2
    go_ret
    exact ⟨ret_bool (by simp), HB.out⟩
  simp only [Bool.not_true] at d_q
  go_wp2_with fail
  refine (in_lit ⟨#[105, 110, 104]⟩ 100 false _ (by decide) (by decide) rfl _).mono ?_
  rintro e _ ⟨rfl, rfl⟩
  cases z_f
  · simp only [Bool.not_false] at d_f
    go_wp2
    go_ret
    exact ⟨ret_bool (by simp), HB.out⟩
  simp only [Bool.not_true] at d_f
  cases z_s
  · simp only [Bool.not_false] at d_s
    go_wp2
    go_ret
    exact ⟨ret_bool (by simp), HB.out⟩
  simp only [Bool.not_true] at d_s
  go_wp2_with fail
  refine (in_lit ⟨#[105, 110, 104]⟩ 97 false _ (by decide) (by decide) rfl _).mono ?_
  rintro e _ ⟨rfl, rfl⟩
  cases z_a
  · simp only [Bool.not_false] at d_a
    go_wp2
    go_ret
    exact ⟨ret_bool (by simp), HB.out⟩
  simp only [Bool.not_true] at d_a
  go_wp2_with fail
  refine (in_lit ⟨#[105, 110, 104]⟩ 111 false _ (by decide) (by decide) rfl _).mono ?_
  rintro e _ ⟨rfl, rfl⟩
  cases z_o
  · simp only [Bool.not_false] at d_o
    go_wp2
    go_ret
    exact ⟨ret_bool (by simp), HB.out⟩
  simp only [Bool.not_true] at d_o
  go_wp2_with fail
  refine (in_lit ⟨#[105, 110, 104]⟩ 122 false _ (by decide) (by decide) rfl _).mono ?_
  rintro e _ ⟨rfl, rfl⟩
  cases z_z
  · simp only [Bool.not_false] at d_z
    go_wp2
    go_ret
    exact ⟨ret_bool (by simp), HB.out⟩
  simp only [Bool.not_true] at d_z
  go_wp2_with fail
  refine (in_lit ⟨#[105, 110, 104]⟩ 105 true _ (by decide) (by decide) rfl _).mono ?_
  rintro e _ ⟨rfl, rfl⟩
  go_wp2_with fail
  refine (in_lit ⟨#[105, 110, 104]⟩ 114 false _ (by decide) (by decide) rfl _).mono ?_
  rintro e _ ⟨rfl, rfl⟩
  cases z_r
  · simp only [Bool.not_false] at d_r
    go_wp2
    go_ret
    exact ⟨ret_bool (by simp), HB.out⟩
  simp only [Bool.not_true] at d_r
  go_wp2_with fail
  refine (in_lit ⟨#[105, 110, 104]⟩ 101 false _ (by decide) (by decide) rfl _).mono ?_
  rintro e _ ⟨rfl, rfl⟩
  cases z_e
  · simp only [Bool.not_false] at d_e p_e
    go_wp2
    go_ret
    exact ⟨ret_bool (by simp), HB.out⟩
  simp only [Bool.not_true] at d_e p_e
  go_wp2_with fail
  refine (in_lit ⟨#[105, 110, 104]⟩ 120 false _ (by decide) (by decide) rfl _).mono ?_
  rintro e _ ⟨rfl, rfl⟩
  cases z_x
  · simp only [Bool.not_false] at d_x p_x
    go_wp2
    go_ret
    exact ⟨ret_bool (by simp), HB.out⟩
  simp only [Bool.not_true] at d_x p_x
  go_wp2_with fail
  refine (in_lit ⟨#[105, 110, 104]⟩ 110 true _ (by decide) (by decide) rfl _).mono ?_
  rintro e _ ⟨rfl, rfl⟩
  go_wp2_with fail
  refine (in_lit ⟨#[105, 110, 104]⟩ 104 true _ (by decide) (by decide) rfl _).mono ?_
  rintro e _ ⟨rfl, rfl⟩
  go_wp2_with fail
  refine (in_lit ⟨#[105, 110, 104]⟩ 98 false _ (by decide) (by decide) rfl _).mono ?_
  rintro e _ ⟨rfl, rfl⟩
  cases z_b
  · go_wp2
    go_ret
    exact ⟨ret_bool (by simp), HB.out⟩
  go_wp2
  go_ret
  exact ⟨ret_bool (by simp), HB.out⟩

end Go.Proofs.Ytbfjfidodpgohaa
