/- Stage 12, plain: how many chunks a payload has, and where each lies. -/
import Derived.Test.YtgkkobnoegggaaaRows
namespace Go.Proofs.Ytgkkobnoegggaaa

/-- How many chunks n bytes have by k. -/
def cntN (n k : Nat) : Nat := max 1 ((n + k - 1) / k)
theorem cntN_pos (n k : Nat) : 1 ≤ cntN n k := Nat.le_max_left _ _
theorem cntN_lt {n k a : Nat} (hk : 1 ≤ k) : a + 1 < cntN n k ↔ (a + 1) * k < n := by
  have h1 : a + 2 ≤ (n + k - 1) / k ↔ (a + 2) * k ≤ n + k - 1 := Nat.le_div_iff_mul_le hk
  have h2 : (a + 2) * k = (a + 1) * k + k := by rw [Nat.add_mul, Nat.add_mul]; omega
  unfold cntN
  rw [h2] at h1
  omega
theorem cntN_mul {n k a : Nat} (hk : 1 ≤ k) (h : a < cntN n k) : a * k ≤ n := by
  cases a with
  | zero => omega
  | succ a => exact Nat.le_of_lt ((cntN_lt hk).1 h)
theorem cntN_small {n k : Nat} (hk : 1 ≤ k) (h : n ≤ k) : cntN n k = 1 := by
  have h1 := cntN_pos n k
  have h2 := (cntN_lt (n := n) (a := 0) hk).1
  omega
theorem cntN_step {n k : Nat} (hk : 1 ≤ k) (h : k < n) : cntN n k = cntN (n - k) k + 1 := by
  unfold cntN
  have e : n + k - 1 = (n - k + k - 1) + k := by omega
  rw [e, Nat.add_div_right _ (by omega)]
  have : 1 ≤ (n - k + k - 1) / k := (Nat.le_div_iff_mul_le (by omega)).2 (by omega)
  omega
theorem cntN_le (n k : Nat) : cntN n k ≤ n + 1 := by
  unfold cntN
  rcases Nat.eq_zero_or_pos k with rfl | hk
  · simp
  · have : (n + k - 1) / k < n + 1 := (Nat.div_lt_iff_lt_mul hk).2 (by
      have : n ≤ n * k := Nat.le_mul_of_pos_right _ hk
      rw [Nat.add_mul]; omega)
    omega

/-- What Count and Length tell. -/
def Fit (s k : Int) : Prop := 0 ≤ s ∧ s ≤ 1048576 ∧ 1 ≤ k ∧ k ≤ 65536
instance (s k : Int) : Decidable (Fit s k) := inferInstanceAs (Decidable (_ ∧ _))
def cntZ (s k : Int) : Nat := if Fit s k then cntN s.toNat k.toNat else 0
def There (s k a : Int) : Prop := 0 ≤ a ∧ a < (cntZ s k : Int)
instance (s k a : Int) : Decidable (There s k a) := inferInstanceAs (Decidable (_ ∧ _))
def fromZ (s k a : Int) : Nat := if There s k a then a.toNat * k.toNat else 0
def uptoZ (s k a : Int) : Nat := if There s k a then min (a.toNat * k.toNat + k.toNat) s.toNat else 0
def lenZ (s k a : Int) : Nat := uptoZ s k a - fromZ s k a

theorem cntZ_yes {n k : Nat} (hn : n ≤ 1048576) (hk : 1 ≤ k) (hk2 : k ≤ 65536) : cntZ (n : Int) (k : Int) = cntN n k := by
  unfold cntZ
  rw [if_pos (by unfold Fit; omega), Int.toNat_natCast, Int.toNat_natCast]
theorem cntZ_no {s k : Int} (h : ¬ Fit s k) : cntZ s k = 0 := if_neg h
theorem there_fit {s k a : Int} (h : There s k a) : Fit s k := Decidable.byContradiction fun hf => by
  have := cntZ_no hf
  obtain ⟨h1, h2⟩ := h
  omega
theorem fit_nat {s k : Int} (h : Fit s k) : ∃ n m : Nat, s = n ∧ k = m ∧ n ≤ 1048576 ∧ 1 ≤ m ∧ m ≤ 65536 := by
  obtain ⟨h1, h2, h3, h4⟩ := h
  exact ⟨s.toNat, k.toNat, by omega, by omega, by omega, by omega, by omega⟩
theorem there_nat {s k a : Int} (h : There s k a) : ∃ n m i : Nat, s = n ∧ k = m ∧ a = i ∧ n ≤ 1048576 ∧ 1 ≤ m ∧ m ≤ 65536 ∧ i < cntN n m := by
  obtain ⟨n, m, rfl, rfl, h1, h2, h3⟩ := fit_nat (there_fit h)
  obtain ⟨h4, h5⟩ := h
  rw [cntZ_yes h1 h2 h3] at h5
  exact ⟨n, m, a.toNat, rfl, rfl, by omega, h1, h2, h3, by omega⟩
theorem there_yes {n k a : Nat} (hn : n ≤ 1048576) (hk : 1 ≤ k) (hk2 : k ≤ 65536) : There (n : Int) (k : Int) (a : Int) ↔ a < cntN n k := by
  unfold There
  rw [cntZ_yes hn hk hk2]
  omega
theorem fromZ_yes {n k a : Nat} (hn : n ≤ 1048576) (hk : 1 ≤ k) (hk2 : k ≤ 65536) (ha : a < cntN n k) : fromZ (n : Int) (k : Int) (a : Int) = a * k := by
  unfold fromZ
  rw [if_pos ((there_yes hn hk hk2).2 ha), Int.toNat_natCast, Int.toNat_natCast]
theorem uptoZ_yes {n k a : Nat} (hn : n ≤ 1048576) (hk : 1 ≤ k) (hk2 : k ≤ 65536) (ha : a < cntN n k) : uptoZ (n : Int) (k : Int) (a : Int) = min (a * k + k) n := by
  unfold uptoZ
  rw [if_pos ((there_yes hn hk hk2).2 ha), Int.toNat_natCast, Int.toNat_natCast, Int.toNat_natCast]
theorem fromZ_no {s k a : Int} (h : ¬ There s k a) : fromZ s k a = 0 := if_neg h
theorem uptoZ_no {s k a : Int} (h : ¬ There s k a) : uptoZ s k a = 0 := if_neg h
theorem lenZ_no {s k a : Int} (h : ¬ There s k a) : lenZ s k a = 0 := by unfold lenZ; rw [uptoZ_no h, fromZ_no h]
theorem from_upto (s k a : Int) : fromZ s k a ≤ uptoZ s k a := by
  by_cases h : There s k a
  · obtain ⟨n, m, i, rfl, rfl, rfl, h1, h2, h3, h4⟩ := there_nat h
    rw [fromZ_yes h1 h2 h3 h4, uptoZ_yes h1 h2 h3 h4]
    have := cntN_mul h2 h4
    omega
  · rw [fromZ_no h]; omega
theorem upto_le (n : Nat) (k a : Int) : uptoZ (n : Int) k a ≤ n := by
  by_cases h : There (n : Int) k a
  · obtain ⟨n', m, i, e, rfl, rfl, h1, h2, h3, h4⟩ := there_nat h
    obtain rfl : n = n' := by omega
    rw [uptoZ_yes h1 h2 h3 h4]
    omega
  · rw [uptoZ_no h]; omega
theorem upto_small (s k a : Int) : uptoZ s k a ≤ 1048576 := by
  by_cases h : There s k a
  · obtain ⟨n, m, i, rfl, rfl, rfl, h1, h2, h3, h4⟩ := there_nat h
    rw [uptoZ_yes h1 h2 h3 h4]
    omega
  · rw [uptoZ_no h]; omega
theorem lenZ_full {n k a : Nat} (hn : n ≤ 1048576) (hk : 1 ≤ k) (hk2 : k ≤ 65536) (ha : a + 1 < cntN n k) : lenZ (n : Int) (k : Int) (a : Int) = k := by
  have := (cntN_lt hk).1 ha
  unfold lenZ
  rw [fromZ_yes hn hk hk2 (by omega), uptoZ_yes hn hk hk2 (by omega)]
  rw [Nat.add_mul] at this
  omega
theorem lenZ_last {n k a : Nat} (hn : n ≤ 1048576) (hk : 1 ≤ k) (hk2 : k ≤ 65536) (ha : a + 1 = cntN n k) : lenZ (n : Int) (k : Int) (a : Int) = n - a * k := by
  have h1 : ¬ (a + 1) * k < n := fun h => by have := (cntN_lt hk).2 h; omega
  have := cntN_mul (a := a) hk (by omega : a < cntN n k)
  unfold lenZ
  rw [fromZ_yes hn hk hk2 (by omega), uptoZ_yes hn hk hk2 (by omega)]
  rw [Nat.add_mul] at h1
  omega
theorem lenZ_pos {n k a : Nat} (hn : n ≤ 1048576) (hk : 1 ≤ k) (hk2 : k ≤ 65536) (ha : a < cntN n k) (h0 : 0 < n) : 0 < lenZ (n : Int) (k : Int) (a : Int) := by
  by_cases h : a + 1 < cntN n k
  · rw [lenZ_full hn hk hk2 h]; omega
  · rw [lenZ_last hn hk hk2 (by omega)]
    cases a with
    | zero => omega
    | succ a =>
      have := (cntN_lt hk).1 ha
      omega
theorem lenZ_le (s k a : Int) : lenZ s k a ≤ 1048576 := by
  have := upto_small s k a
  unfold lenZ
  omega

theorem awake_c1 : cntZ 5 2 = 3 := by decide
theorem awake_c2 : lenZ 5 2 1 = 2 := by decide
theorem awake_c3 : lenZ 5 2 2 = 1 := by decide
theorem awake_c4 : cntZ 0 2 = 1 := by decide

end Go.Proofs.Ytgkkobnoegggaaa
