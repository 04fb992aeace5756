/- Stage 12: Right, the program's and the document's. -/
import Derived.Test.YtgkkobnoegggaaaCkB
import Derived.Test.YtgkkobnoegggaaaSlD
namespace Go.Proofs.Ytgkkobnoegggaaa
open Go.RowKit Go.Sort

/-- Can a frame's chunk be one? -/
def rightZ (F : Fr) (k most : Int) : Bool := decide ((F.size : Int) ≤ most) && decide ((F.of_ : Int) = (cntZ F.size k : Int)) && decide (F.at_ < F.of_) && decide ((F.data.length : Int) = (lenZ F.size k F.at_ : Int))

set_option maxRecDepth 100000 in
set_option maxHeartbeats 3200000 in
theorem right_any (F : Fr) (cs : Array Value) (k most : Int) (w : World) (hF : FrL w F cs) (hw : F.Wf) :
    Calls Try.prog 17 #[.agg cs, .int .i64 k, .int .i64 most] w fun e w' => e = .returned (.bool (rightZ F k most)) ∧ RowKit.Below w.heap.size w w' := by
  have HB : Hid (RowKit.Below w.heap.size w (w.alloc (.cells cs 42))) := (RowKit.Below.refl _ _).alloc (Nat.le_refl _) _
  obtain ⟨A1, c1, A2, c2, A3, c3, A4, c4, A5, c5, -, -, -, -, x5⟩ := hF.sls
  obtain ⟨-, -, -, -, -, -, x6, x7, x8, -, -⟩ := hF.at_
  have hC := fun W => count_any (F.size : Int) k W
  have hL := fun W => length_any (F.size : Int) k (F.at_ : Int) W
  have w1 := hw.at_
  have w2 := hw.of_
  have w3 := hw.size
  unfold rightZ
  clear hw hF
  generalize F.data.length = n5 at *
  generalize F.at_ = at' at *
  generalize F.of_ = of' at *
  generalize F.size = sz at *
  generalize lenZ (sz : Int) k (at' : Int) = lz at *
  generalize cntZ (sz : Int) k = cz at *
  have ew1 : IntKind.i64.wrap (of' : Int) = (of' : Int) := by rw [IntKind.wrap_i64]; omega
  have ew2 : IntKind.i64.wrap (at' : Int) = (at' : Int) := by rw [IntKind.wrap_i64]; omega
  by_cases h1 : (sz : Int) ≤ most
  case neg =>
    rw [show (decide ((sz : Int) ≤ most) && decide ((of' : Int) = (cz : Int)) && decide (at' < of') && decide ((n5 : Int) = (lz : Int))) = false by simp [h1]]
    have d1 : decide ((sz : Int) ≤ most) = false := by simpa using h1
    clear h1
    go_enter Try.func17, Try.ntmps17
    go_wp2_with fail
    go_quiet (first | (go_at_call 9; exact Calls.quiet_of_same (hC _)) | (go_at_call 11; exact Calls.quiet_of_same (hL _)))
    go_wp2
    go_ret
    exact ⟨rfl, below_drewN HB.out _⟩
  have d1 : decide ((sz : Int) ≤ most) = true := by simpa using h1
  by_cases h2 : of' = cz
  case neg =>
    rw [show (decide ((sz : Int) ≤ most) && decide ((of' : Int) = (cz : Int)) && decide (at' < of') && decide ((n5 : Int) = (lz : Int))) = false by rw [decide_eq_false (show ¬ (of' : Int) = (cz : Int) by omega), Bool.and_false, Bool.false_and, Bool.false_and]]
    have d2 : ((of' : Int) == (cz : Int)) = false := by rw [beq_eq_false_iff_ne]; omega
    clear h1 h2
    go_enter Try.func17, Try.ntmps17
    go_wp2_with fail
    go_quiet (first | (go_at_call 9; exact Calls.quiet_of_same (hC _)) | (go_at_call 11; exact Calls.quiet_of_same (hL _)))
    go_wp2
    go_ret
    exact ⟨rfl, below_drewN HB.out _⟩
  have d2 : ((of' : Int) == (cz : Int)) = true := by rw [beq_iff_eq]; omega
  by_cases h3 : at' < of'
  case neg =>
    rw [show (decide ((sz : Int) ≤ most) && decide ((of' : Int) = (cz : Int)) && decide (at' < of') && decide ((n5 : Int) = (lz : Int))) = false by simp [h3]]
    have d3 : decide (at' < of') = false := by simp; omega
    clear h1 h2 h3
    go_enter Try.func17, Try.ntmps17
    go_wp2_with fail
    go_quiet (first | (go_at_call 9; exact Calls.quiet_of_same (hC _)) | (go_at_call 11; exact Calls.quiet_of_same (hL _)))
    go_wp2
    go_ret
    exact ⟨rfl, below_drewN HB.out _⟩
  have d3 : decide (at' < of') = true := by simp; omega
  rw [show (decide ((sz : Int) ≤ most) && decide ((of' : Int) = (cz : Int)) && decide (at' < of') && decide ((n5 : Int) = (lz : Int))) = ((n5 : Int) == (lz : Int)) by rw [decide_eq_true h1, decide_eq_true (show (of' : Int) = (cz : Int) by omega), decide_eq_true h3]; rfl]
  clear h1 h2 h3
  go_enter Try.func17, Try.ntmps17
  go_wp2_with fail
  go_quiet (first | (go_at_call 9; exact Calls.quiet_of_same (hC _)) | (go_at_call 11; exact Calls.quiet_of_same (hL _)))
  go_wp2
  go_ret
  exact ⟨rfl, below_drewN HB.out _⟩

set_option maxRecDepth 100000 in
set_option maxHeartbeats 3200000 in
theorem refRight_any (F : Fr) (cs : Array Value) (k most : Int) (w : World) (hF : FrL w F cs) (hw : F.Wf) :
    Calls Try.prog 19 #[.agg cs, .int .i64 k, .int .i64 most] w fun e w' => e = .returned (.bool (rightZ F k most)) ∧ RowKit.Below w.heap.size w w' := by
  have HB : Hid (RowKit.Below w.heap.size w (w.alloc (.cells cs 42))) := (RowKit.Below.refl _ _).alloc (Nat.le_refl _) _
  obtain ⟨A1, c1, A2, c2, A3, c3, A4, c4, A5, c5, -, -, -, -, x5⟩ := hF.sls
  obtain ⟨-, -, -, -, -, -, x6, x7, x8, -, -⟩ := hF.at_
  have hC := fun W => refCount_any (F.size : Int) k W
  have hL := fun W => refLength_any (F.size : Int) k (F.at_ : Int) W
  have w1 := hw.at_
  have w2 := hw.of_
  have w3 := hw.size
  unfold rightZ
  clear hw hF
  generalize F.data.length = n5 at *
  generalize F.at_ = at' at *
  generalize F.of_ = of' at *
  generalize F.size = sz at *
  generalize lenZ (sz : Int) k (at' : Int) = lz at *
  generalize cntZ (sz : Int) k = cz at *
  have ew1 : IntKind.i64.wrap (of' : Int) = (of' : Int) := by rw [IntKind.wrap_i64]; omega
  have ew2 : IntKind.i64.wrap (at' : Int) = (at' : Int) := by rw [IntKind.wrap_i64]; omega
  have ew3 : IntKind.i64.wrap (sz : Int) = (sz : Int) := by rw [IntKind.wrap_i64]; omega
  by_cases h1 : (sz : Int) ≤ most
  case neg =>
    rw [show (decide ((sz : Int) ≤ most) && decide ((of' : Int) = (cz : Int)) && decide (at' < of') && decide ((n5 : Int) = (lz : Int))) = false by simp [h1]]
    have d1 : decide (most < (sz : Int)) = true := by simp; omega
    clear h1
    go_enter Try.func19, Try.ntmps19
    go_wp2_with (go_at_call 10; refine (hC _).mono ?_; rintro e w' ⟨rfl, rfl⟩)
    go_ret
    exact ⟨rfl, HB.out⟩
  have d1 : decide (most < (sz : Int)) = false := by simp; omega
  by_cases h2 : of' = cz
  case neg =>
    rw [show (decide ((sz : Int) ≤ most) && decide ((of' : Int) = (cz : Int)) && decide (at' < of') && decide ((n5 : Int) = (lz : Int))) = false by rw [decide_eq_false (show ¬ (of' : Int) = (cz : Int) by omega), Bool.and_false, Bool.false_and, Bool.false_and]]
    have d2 : ((of' : Int) != (cz : Int)) = true := by rw [bne_iff_ne]; omega
    clear h1 h2
    go_enter Try.func19, Try.ntmps19
    go_wp2_with (go_at_call 10; refine (hC _).mono ?_; rintro e w' ⟨rfl, rfl⟩)
    go_ret
    exact ⟨rfl, HB.out⟩
  have d2 : ((of' : Int) != (cz : Int)) = false := by rw [bne_eq_false_iff_eq]; omega
  by_cases h3 : at' < of'
  case neg =>
    rw [show (decide ((sz : Int) ≤ most) && decide ((of' : Int) = (cz : Int)) && decide (at' < of') && decide ((n5 : Int) = (lz : Int))) = false by simp [h3]]
    have d3 : decide (cz ≤ at') = true := by simp; omega
    clear h1 h2 h3
    go_enter Try.func19, Try.ntmps19
    go_wp2_with (go_at_call 10; refine (hC _).mono ?_; rintro e w' ⟨rfl, rfl⟩)
    go_ret
    exact ⟨rfl, HB.out⟩
  have d3 : decide (cz ≤ at') = false := by simp; omega
  rw [show (decide ((sz : Int) ≤ most) && decide ((of' : Int) = (cz : Int)) && decide (at' < of') && decide ((n5 : Int) = (lz : Int))) = ((n5 : Int) == (lz : Int)) by rw [decide_eq_true h1, decide_eq_true (show (of' : Int) = (cz : Int) by omega), decide_eq_true h3]; rfl]
  clear h1 h2 h3
  go_enter Try.func19, Try.ntmps19
  go_wp2_with (go_at_call 10; refine (hC _).mono ?_; rintro e w' ⟨rfl, rfl⟩)
  go_quiet (first | (go_at_call 12; exact Calls.quiet_of_same (hL _)) | fail)
  go_wp2
  go_ret
  exact ⟨rfl, below_drewN HB.out _⟩

end Go.Proofs.Ytgkkobnoegggaaa
