/- The walks of the document's own May, Less, Run, Last. -/
import Derived.Test.YtoihikeeaobemaaIdM
namespace Go.Proofs.Ytoihikeeaobemaa
open Go.RowKit Go.Sort

theorem refMay_any (x : Id) (n : Int) (W : World) (_ : -9223372036854775808 ≤ n ∧ n ≤ 9223372036854775807) : Calls Try.prog 10 #[valId x, .int .i64 n] W fun e w' => e = .returned (.bool (decide ((x.f : Int) < n) && mayB x)) ∧ Grew W w' := by
  unfold valId mayB
  have h1 := x.hf
  have h2 := x.hs
  generalize x.f = f at h1 ⊢
  generalize x.s = s at h2 ⊢
  go_enter Try.func10, Try.ntmps10
  go_wp2
  all_goals
    go_ret
    refine ⟨ret_bool ?_, (Grew.refl W).alloc _⟩
    rw [Bool.eq_iff_iff]
    simp only [Bool.and_eq_true, decide_eq_true_eq, Bool.false_eq_true]
    first | omega | (rw [false_iff]; omega)

theorem refLess_any (x y : Id) (W : World) : Calls Try.prog 12 #[valId x, valId y] W fun e w' => e = .returned (.bool (ltB x y)) ∧ Grew W w' := by
  have hlt := ltB_iff x y
  generalize ltB x y = b at hlt ⊢
  have HL := Lib.hid hlt
  clear hlt
  unfold valId
  by_cases h : x.f = y.f
  · have hz : ((x.f : Int) = (y.f : Int)) := by omega
    have HF := Lib.hid h
    clear h
    go_enter Try.func12, Try.ntmps12
    go_wp2
    go_ret
    refine ⟨ret_bool ?_, ((Grew.refl W).alloc _).alloc _⟩
    rw [Bool.eq_iff_iff, HL.out]
    have := HF.out
    simp only [decide_eq_true_eq]
    omega
  · have hz : ¬ ((x.f : Int) = (y.f : Int)) := by omega
    have HF := Lib.hid h
    clear h
    go_enter Try.func12, Try.ntmps12
    go_wp2
    go_ret
    refine ⟨ret_bool ?_, ((Grew.refl W).alloc _).alloc _⟩
    rw [Bool.eq_iff_iff, HL.out]
    have := HF.out
    simp only [decide_eq_true_eq]
    omega

theorem runB_iff (r : Rn) : runB r = true ↔ r.f < 64 ∧ 1 ≤ r.a ∧ r.a ≤ 4611686018427387904 ∧ 1 ≤ r.c ∧ r.c - 1 ≤ 4611686018427387904 - r.a := by
  simp only [runB, Bool.and_eq_true, decide_eq_true_eq]
  constructor
  · rintro ⟨⟨⟨⟨h1, h2⟩, h3⟩, h4⟩, h5⟩; exact ⟨h1, h2, h3, h4, h5⟩
  · rintro ⟨h1, h2, h3, h4, h5⟩; exact ⟨⟨⟨⟨h1, h2⟩, h3⟩, h4⟩, h5⟩

set_option maxHeartbeats 400000 in
theorem refRun_any (r : Rn) (W : World) : Calls Try.prog 14 #[valRn r] W fun e w' => e = .returned (.bool (runB r)) ∧ Grew W w' := by
  have hr := runB_iff r
  generalize runB r = b at hr ⊢
  have HR := Lib.hid hr
  clear hr
  have h0 := r.hf
  have h1 := r.ha
  have h2 := r.hc
  unfold valRn
  by_cases g1 : 63 < r.f
  · have HG := Lib.hid g1
    have z1 : decide ((63 : Int) < (r.f : Int)) = true := decide_eq_true (by omega)
    clear g1
    go_enter Try.func14, Try.ntmps14
    go_wp2
    go_ret
    refine ⟨ret_bool ?_, (Grew.refl W).alloc _⟩
    rw [Bool.eq_iff_iff, HR.out]
    have := HG.out
    first
    | (simp only [decide_eq_true_eq]; omega)
    | (simp only [Bool.false_eq_true, false_iff]; omega)
  by_cases g2 : r.a = 0
  · have HG := Lib.hid g2
    have z1 : decide ((63 : Int) < (r.f : Int)) = false := decide_eq_false (by omega)
    have z2 : ((r.a : Int) == 0) = true := beq_iff_eq.2 (by omega)
    clear g1 g2
    go_enter Try.func14, Try.ntmps14
    go_wp2
    go_ret
    refine ⟨ret_bool ?_, (Grew.refl W).alloc _⟩
    rw [Bool.eq_iff_iff, HR.out]
    have := HG.out
    first
    | (simp only [decide_eq_true_eq]; omega)
    | (simp only [Bool.false_eq_true, false_iff]; omega)
  by_cases g3 : r.c = 0
  · have HG := Lib.hid g3
    have z1 : decide ((63 : Int) < (r.f : Int)) = false := decide_eq_false (by omega)
    have z2 : ((r.a : Int) == 0) = false := beq_eq_false_iff_ne.2 (by omega)
    have z3 : ((r.c : Int) == 0) = true := beq_iff_eq.2 (by omega)
    clear g1 g2 g3
    go_enter Try.func14, Try.ntmps14
    go_wp2
    go_ret
    refine ⟨ret_bool ?_, (Grew.refl W).alloc _⟩
    rw [Bool.eq_iff_iff, HR.out]
    have := HG.out
    first
    | (simp only [decide_eq_true_eq]; omega)
    | (simp only [Bool.false_eq_true, false_iff]; omega)
  have z1 : decide ((63 : Int) < (r.f : Int)) = false := decide_eq_false (by omega)
  have z2 : ((r.a : Int) == 0) = false := beq_eq_false_iff_ne.2 (by omega)
  have z3 : ((r.c : Int) == 0) = false := beq_eq_false_iff_ne.2 (by omega)
  by_cases g4 : 4611686018427387904 < r.a
  · have HG := Lib.hid g4
    have z4 : decide ((4611686018427387904 : Int) < (r.a : Int)) = true := decide_eq_true (by omega)
    clear g1 g2 g3 g4
    go_enter Try.func14, Try.ntmps14
    go_wp2
    go_ret
    refine ⟨ret_bool ?_, (Grew.refl W).alloc _⟩
    rw [Bool.eq_iff_iff, HR.out]
    have := HG.out
    first
    | (simp only [decide_eq_true_eq]; omega)
    | (simp only [Bool.false_eq_true, false_iff]; omega)
  · have HG : Hid (r.f ≤ 63 ∧ 1 ≤ r.a ∧ 1 ≤ r.c ∧ r.a ≤ 4611686018427387904) := ⟨by omega, by omega, by omega, by omega⟩
    have z4 : decide ((4611686018427387904 : Int) < (r.a : Int)) = false := decide_eq_false (by omega)
    have e1 : IntKind.u64.wrap ((r.c : Int) - 1) = ((r.c - 1 : Nat) : Int) := by rw [IntKind.wrap_u64]; omega
    have e2 : IntKind.u64.wrap (4611686018427387904 - (r.a : Int)) = ((4611686018427387904 - r.a : Nat) : Int) := by rw [IntKind.wrap_u64]; omega
    clear g1 g2 g3 g4
    go_enter Try.func14, Try.ntmps14
    go_wp2
    go_ret
    refine ⟨ret_bool ?_, (Grew.refl W).alloc _⟩
    rw [Bool.eq_iff_iff, HR.out]
    have := HG.out
    first
    | (simp only [decide_eq_true_eq]; omega)
    | (simp only [Bool.false_eq_true, false_iff]; omega)

def lastN (r : Rn) : Nat := (r.a + (r.c + 18446744073709551615) % 18446744073709551616) % 18446744073709551616

theorem refLast_any (r : Rn) (W : World) : Calls Try.prog 30 #[valRn r] W fun e w' => e = .returned (.int .u64 (lastN r)) ∧ Grew W w' := by
  unfold valRn lastN
  have e1 : IntKind.u64.wrap ((r.c : Int) - 1) = (((r.c + 18446744073709551615) % 18446744073709551616 : Nat) : Int) := by rw [IntKind.wrap_u64]; omega
  generalize (r.c + 18446744073709551615) % 18446744073709551616 = c' at e1 ⊢
  have e2 : IntKind.u64.wrap ((r.a : Int) + (c' : Int)) = (((r.a + c') % 18446744073709551616 : Nat) : Int) := by rw [IntKind.wrap_u64]; omega
  generalize (r.a + c') % 18446744073709551616 = m at e2 ⊢
  go_enter Try.func30, Try.ntmps30
  go_wp2
  go_ret
  exact ⟨rfl, (Grew.refl W).alloc _⟩

theorem lastN_is {r : Rn} (h : runB r = true) : lastN r = r.a + (r.c - 1) := by
  rw [runB_iff] at h
  unfold lastN
  omega

theorem nextI_is {r : Rn} (h : runB r = true) : (nextI r).f = r.f ∧ (nextI r).s = r.a + r.c := by
  rw [runB_iff] at h
  refine ⟨rfl, ?_⟩
  show (r.a + r.c) % 18446744073709551616 = _
  omega

end Go.Proofs.Ytoihikeeaobemaa
