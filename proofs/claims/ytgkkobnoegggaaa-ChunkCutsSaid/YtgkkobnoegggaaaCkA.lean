/- Stage 12: Count, span, Length; the document's Count and Length; the document's example. -/
import Derived.Test.YtgkkobnoegggaaaCkM
import Derived.WalkKit
import Derived.Lib.Hide
import Derived.WalkSpells
import Derived.WalkLawsBesides
namespace Go.Proofs.Ytgkkobnoegggaaa
open Go.RowKit

theorem cntN_int (n : Nat) {k : Nat} (hk : 1 ≤ k) : (cntN n k : Int) = max 1 (((n : Int) + k - 1) / k) := by
  unfold cntN
  have : (((n + k - 1) / k : Nat) : Int) = ((n : Int) + k - 1) / k := by
    rw [Int.natCast_ediv]
    congr 1
    omega
  omega

theorem count_any (s k : Int) (w : World) : Calls Try.prog 9 #[.int .i64 s, .int .i64 k] w fun e w' => e = .returned (.int .i64 (cntZ s k : Int)) ∧ w' = w := by
  by_cases h1 : s < 0
  · rw [cntZ_no (by unfold Fit; omega)]
    have d1 : decide (s < 0) = true := by simpa using h1
    go_enter Try.func9, Try.ntmps9
    go_wp2
    go_ret
    exact ⟨rfl, rfl⟩
  have d1 : decide (s < 0) = false := by simpa using h1
  by_cases h2 : 1048576 < s
  · rw [cntZ_no (by unfold Fit; omega)]
    have d2 : decide (1048576 < s) = true := by simpa using h2
    go_enter Try.func9, Try.ntmps9
    go_wp2
    go_ret
    exact ⟨rfl, rfl⟩
  have d2 : decide (1048576 < s) = false := by simpa using h2
  by_cases h3 : k < 1
  · rw [cntZ_no (by unfold Fit; omega)]
    have d3 : decide (k < 1) = true := by simpa using h3
    go_enter Try.func9, Try.ntmps9
    go_wp2
    go_ret
    exact ⟨rfl, rfl⟩
  have d3 : decide (k < 1) = false := by simpa using h3
  by_cases h4 : 65536 < k
  · rw [cntZ_no (by unfold Fit; omega)]
    have d4 : decide (65536 < k) = true := by simpa using h4
    go_enter Try.func9, Try.ntmps9
    go_wp2
    go_ret
    exact ⟨rfl, rfl⟩
  have d4 : decide (65536 < k) = false := by simpa using h4
  obtain ⟨n, m, rfl, rfl, hn, hm, hm2⟩ := fit_nat (s := s) (k := k) (by unfold Fit; omega)
  rw [cntZ_yes hn hm hm2]
  clear h1 h2 h3 h4 d1 d2 d3 d4
  have HC := Lib.hid (cntN_int n hm)
  go_enter Try.func9, Try.ntmps9
  go_wp2
  all_goals (go_ret; refine ⟨?_, rfl⟩; rw [HC.out]; exact congrArg (fun z => Ending.returned (.int .i64 z)) (by omega))

def spanV (s k a : Int) : Ending := .returned (.tuple #[.int .i64 (fromZ s k a : Int), .int .i64 (uptoZ s k a : Int), .bool (decide (There s k a))])

theorem span_any (s k a : Int) (w : World) : Calls Try.prog 20 #[.int .i64 s, .int .i64 k, .int .i64 a] w fun e w' => e = spanV s k a ∧ w' = w := by
  have hC := count_any s k w
  by_cases h1 : a < 0
  · have hN : ¬ There s k a := by unfold There; omega
    have d1 : decide (a < 0) = true := by simpa using h1
    unfold spanV
    rw [fromZ_no hN, uptoZ_no hN, decide_eq_false hN]
    clear hN h1
    go_enter Try.func20, Try.ntmps20
    go_wp2
    go_ret3
    exact ⟨rfl, rfl⟩
  have d1 : decide (a < 0) = false := by simpa using h1
  by_cases h2 : a < (cntZ s k : Int)
  · have hT : There s k a := ⟨by omega, h2⟩
    unfold spanV
    rw [decide_eq_true hT]
    obtain ⟨n, m, i, rfl, rfl, rfl, hn, hm, hm2, hi⟩ := there_nat hT
    rw [fromZ_yes hn hm hm2 hi, uptoZ_yes hn hm hm2 hi]
    rw [cntZ_yes hn hm hm2] at hC
    have hmul := cntN_mul hm hi
    have d2 : decide ((cntN n m : Int) ≤ (i : Int)) = false := by simp; omega
    have HE1 : Hid (((min (i * m + m) n : Nat) : Int) = min ((i : Int) * m + m) n) := by show _ = _; omega
    have HE2 : Hid (((i * m : Nat) : Int) = (i : Int) * m) := by show _ = _; omega
    have hmul2 : (i : Int) * m ≤ n := by have := HE2.out; omega
    have hmul3 : 0 ≤ (i : Int) * m := by have := HE2.out; omega
    rw [HE1.out, HE2.out]
    clear hT h1 h2 d1 HE1 HE2 hmul
    go_enter Try.func20, Try.ntmps20
    go_wp2_with (go_at_call 9; refine hC.mono ?_; rintro e w' ⟨rfl, rfl⟩)
    all_goals (go_ret3; refine ⟨?_, rfl⟩; exact congrArg (fun x => Ending.returned (.tuple #[.int .i64 ((i : Int) * m), .int .i64 x, .bool true])) (by omega))
  · have hN : ¬ There s k a := by unfold There; omega
    unfold spanV
    rw [fromZ_no hN, uptoZ_no hN, decide_eq_false hN]
    have d2 : decide ((cntZ s k : Int) ≤ a) = true := by simp; omega
    clear hN h2 h1
    go_enter Try.func20, Try.ntmps20
    go_wp2_with (go_at_call 9; refine hC.mono ?_; rintro e w' ⟨rfl, rfl⟩)
    go_ret3
    exact ⟨rfl, rfl⟩

end Go.Proofs.Ytgkkobnoegggaaa
