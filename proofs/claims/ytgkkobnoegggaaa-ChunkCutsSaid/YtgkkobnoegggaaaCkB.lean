/- Stage 12: Length; the document's Count and Length; the document's example. -/
import Derived.Test.YtgkkobnoegggaaaCkA
namespace Go.Proofs.Ytgkkobnoegggaaa
open Go.RowKit

theorem length_any (s k a : Int) (w : World) : Calls Try.prog 11 #[.int .i64 s, .int .i64 k, .int .i64 a] w fun e w' => e = .returned (.int .i64 (lenZ s k a : Int)) ∧ w' = w := by
  have hC := span_any s k a w
  have HE : Hid ((lenZ s k a : Int) = (uptoZ s k a : Int) - (fromZ s k a : Int)) := by
    show _ = _
    have := from_upto s k a
    unfold lenZ
    omega
  have h1 := from_upto s k a
  have h2 := upto_small s k a
  rw [HE.out]
  unfold spanV at hC
  clear HE
  generalize uptoZ s k a = u at *
  generalize fromZ s k a = f at *
  go_enter Try.func11, Try.ntmps11
  go_wp2_with (go_at_call 20; refine hC.mono ?_; rintro e w' ⟨rfl, rfl⟩)
  go_ret
  exact ⟨rfl, rfl⟩

theorem refCount_no {s k : Int} (h : ¬ Fit s k) (w : World) : Calls Try.prog 10 #[.int .i64 s, .int .i64 k] w fun e w' => e = .returned (.int .i64 0) ∧ w' = w := by
  by_cases h1 : s < 0
  · have d1 : decide (s < 0) = true := by simpa using h1
    clear h
    go_enter Try.func10, Try.ntmps10
    go_wp2
    go_ret
    exact ⟨rfl, rfl⟩
  have d1 : decide (s < 0) = false := by simpa using h1
  by_cases h2 : 1048576 < s
  · have d2 : decide (1048576 < s) = true := by simpa using h2
    clear h
    go_enter Try.func10, Try.ntmps10
    go_wp2
    go_ret
    exact ⟨rfl, rfl⟩
  have d2 : decide (1048576 < s) = false := by simpa using h2
  by_cases h3 : k < 1
  · have d3 : decide (k < 1) = true := by simpa using h3
    clear h
    go_enter Try.func10, Try.ntmps10
    go_wp2
    go_ret
    exact ⟨rfl, rfl⟩
  have d3 : decide (k < 1) = false := by simpa using h3
  by_cases h4 : 65536 < k
  · have d4 : decide (65536 < k) = true := by simpa using h4
    clear h
    go_enter Try.func10, Try.ntmps10
    go_wp2
    go_ret
    exact ⟨rfl, rfl⟩
  exact absurd (show Fit s k by unfold Fit; omega) h

theorem refCount_yes (n k : Nat) (hn : n ≤ 1048576) (hk : 1 ≤ k) (hk2 : k ≤ 65536) (w : World) : Calls Try.prog 10 #[.int .i64 (n : Int), .int .i64 (k : Int)] w fun e w' => e = .returned (.int .i64 (cntN n k : Int)) ∧ w' = w := by
  go_enter Try.func10, Try.ntmps10
  go_wp2
  go_loop [0, 5] (fun m c => ∃ (j i : Nat), j ≤ n ∧ i + j ≤ n + 1 ∧ m = .int .i64 j ∧ c = .int .i64 i ∧ i + cntN j k = cntN n k + 1) (fun m _ => (intOf m).toNat)
  case atStart => exact ⟨n, 1, Nat.le_refl _, by omega, rfl, rfl, by omega⟩
  case round =>
    obtain ⟨j, i, hj, hji, rfl, rfl, hi⟩ := hrel
    have HI := Lib.hid hi
    clear hi
    by_cases hlt : k < j
    · have HS := Lib.hid (cntN_step hk hlt)
      go_wp2
      go_round
      case rel => exact ⟨j - k, i + 1, by omega, by omega, by go_num, by go_num, by have := HI.out; have := HS.out; omega⟩
      case measure => simp [intOf]; omega
    · have hle : j ≤ k := Nat.le_of_not_lt hlt
      have HS := Lib.hid (cntN_small hk hle)
      have hd : decide ((k : Int) < (j : Int)) = false := by simp; omega
      clear hlt
      go_wp2
      go_ret
      refine ⟨?_, rfl⟩
      have h1 := HI.out
      rw [HS.out] at h1
      have : i = cntN n k := by omega
      rw [this]
      rfl

theorem refCount_any (s k : Int) (w : World) : Calls Try.prog 10 #[.int .i64 s, .int .i64 k] w fun e w' => e = .returned (.int .i64 (cntZ s k : Int)) ∧ w' = w := by
  by_cases h : Fit s k
  · obtain ⟨n, m, rfl, rfl, h1, h2, h3⟩ := fit_nat h
    rw [cntZ_yes h1 h2 h3]
    exact refCount_yes n m h1 h2 h3 w
  · rw [cntZ_no h]
    exact refCount_no h w

theorem refLength_any (s k a : Int) (w : World) : Calls Try.prog 12 #[.int .i64 s, .int .i64 k, .int .i64 a] w fun e w' => e = .returned (.int .i64 (lenZ s k a : Int)) ∧ w' = w := by
  have hC := refCount_any s k w
  by_cases h1 : a < 0
  · rw [lenZ_no (by unfold There; omega)]
    have d1 : decide (a < 0) = true := by simpa using h1
    go_enter Try.func12, Try.ntmps12
    go_wp2_with (go_at_call 10; refine hC.mono ?_; rintro e w' ⟨rfl, rfl⟩)
    go_ret
    exact ⟨rfl, rfl⟩
  by_cases h2 : a < (cntZ s k : Int)
  · have hT : There s k a := ⟨by omega, h2⟩
    obtain ⟨n, m, i, rfl, rfl, rfl, hn, hm, hm2, hi⟩ := there_nat hT
    rw [cntZ_yes hn hm hm2] at hC
    have hcl : cntN n m ≤ 1048577 := by have := cntN_le n m; omega
    by_cases hf : i + 1 < cntN n m
    · rw [lenZ_full hn hm hm2 hf]
      clear hT h1 h2
      have d2 : decide ((i : Int) < 0) = false := by simp
      have d3 : decide ((cntN n m : Int) ≤ (i : Int)) = false := by simp; omega
      have d4 : (i : Int) < (cntN n m : Int) - 1 := by omega
      go_enter Try.func12, Try.ntmps12
      go_wp2_with (go_at_call 10; refine hC.mono ?_; rintro e w' ⟨rfl, rfl⟩)
      go_ret
      exact ⟨rfl, rfl⟩
    · have hl : i + 1 = cntN n m := by omega
      have HE : Hid ((lenZ (n : Int) (m : Int) (i : Int) : Int) = (n : Int) - (m : Int) * ((cntN n m : Int) - 1)) := by
        show _ = _
        have h5 := cntN_mul hm hi
        rw [lenZ_last hn hm hm2 hl, ← hl]
        rw [show (((i + 1 : Nat) : Int) - 1) = (i : Int) by omega, Int.mul_comm]
        omega
      have HX : Hid (0 ≤ (m : Int) * ((cntN n m : Int) - 1) ∧ (m : Int) * ((cntN n m : Int) - 1) ≤ n) := by
        show _ ∧ _
        have h5 := cntN_mul hm hi
        rw [← hl, show (((i + 1 : Nat) : Int) - 1) = (i : Int) by omega, Int.mul_comm]
        omega
      obtain ⟨x1, x2⟩ := HX.out
      rw [HE.out]
      clear HE HX hT h1 h2
      have d2 : decide ((i : Int) < 0) = false := by simp
      have d3 : decide ((cntN n m : Int) ≤ (i : Int)) = false := by simp; omega
      go_enter Try.func12, Try.ntmps12
      go_wp2_with (go_at_call 10; refine hC.mono ?_; rintro e w' ⟨rfl, rfl⟩)
      go_ret
      exact ⟨rfl, rfl⟩
  · rw [lenZ_no (by unfold There; omega)]
    have d1 : decide (a < 0) = false := by simpa using h1
    have d2 : decide ((cntZ s k : Int) ≤ a) = true := by simp; omega
    go_enter Try.func12, Try.ntmps12
    go_wp2_with (go_at_call 10; refine hC.mono ?_; rintro e w' ⟨rfl, rfl⟩)
    go_ret
    exact ⟨rfl, rfl⟩

theorem awake_any (w : World) : Calls Try.prog 8 #[] w fun e w' => e = .returned (.bool true) ∧ w' = w := by
  have a1 := count_any 5 2 w
  have a2 := length_any 5 2 1 w
  have a3 := length_any 5 2 2 w
  have a4 := count_any 0 2 w
  rw [awake_c1] at a1
  rw [awake_c2] at a2
  rw [awake_c3] at a3
  rw [awake_c4] at a4
  go_enter Try.func8, Try.ntmps8
  go_wp2_with fail
  refine a1.mono ?_
  rintro e w' ⟨rfl, rfl⟩
  go_wp2_with fail
  refine a2.mono ?_
  rintro e w' ⟨rfl, rfl⟩
  go_wp2_with fail
  refine a3.mono ?_
  rintro e w' ⟨rfl, rfl⟩
  go_wp2_with fail
  refine a4.mono ?_
  rintro e w' ⟨rfl, rfl⟩
  go_wp2_with fail
  go_ret
  exact ⟨rfl, rfl⟩

end Go.Proofs.Ytgkkobnoegggaaa
