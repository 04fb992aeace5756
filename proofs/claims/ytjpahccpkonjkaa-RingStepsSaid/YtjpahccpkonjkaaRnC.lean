/- Stage 15: has, Of, behind, Contains, in, Steps; the program's and the document's. -/
import Derived.Test.YtjpahccpkonjkaaRnB
set_option maxRecDepth 20000
namespace Go.Proofs.Ytjpahccpkonjkaa
open Go.RowKit Go.Sort

section
variable {w : World}

theorem has_yes (n p : Nat) (hp : p < n) (hn : n ≤ 64) (w : World) : Calls Try.prog 15 #[.int .i64 (n : Int), .int .i64 (p : Int)] w fun e w' => e = .returned (.bool true) ∧ w = w' := by
  have d1 : decide ((n : Int) ≤ 64) = true := by simp; omega
  have d2 : decide ((0 : Int) ≤ (p : Int)) = true := by simp
  have d3 : decide ((p : Int) < (n : Int)) = true := by simp; omega
  go_enter Try.func15, Try.ntmps15
  go_wp2
  go_ret
  exact ⟨rfl, rfl⟩

theorem has_no (n p : Int) (h : ¬ (n ≤ 64 ∧ 0 ≤ p ∧ p < n)) (w : World) : Calls Try.prog 15 #[.int .i64 n, .int .i64 p] w fun e w' => e = .returned (.bool false) ∧ w = w' := by
  by_cases h1 : n ≤ 64
  · have d1 : decide (n ≤ 64) = true := decide_eq_true h1
    by_cases h2 : 0 ≤ p
    · have d2 : decide (0 ≤ p) = true := decide_eq_true h2
      have h3 : ¬ p < n := fun h3 => h ⟨h1, h2, h3⟩
      have d3 : decide (p < n) = false := decide_eq_false h3
      clear h
      go_enter Try.func15, Try.ntmps15
      go_wp2
      go_ret
      exact ⟨rfl, rfl⟩
    · have d2 : decide (0 ≤ p) = false := decide_eq_false h2
      clear h
      go_enter Try.func15, Try.ntmps15
      go_wp2
      go_ret
      exact ⟨rfl, rfl⟩
  · have d1 : decide (n ≤ 64) = false := decide_eq_false h1
    clear h
    go_enter Try.func15, Try.ntmps15
    go_wp2
    go_ret
    exact ⟨rfl, rfl⟩

theorem of_yes (n p : Nat) (hp : p < n) (hn : n ≤ 64) (w : World) : Calls Try.prog 14 #[.int .i64 (n : Int), .int .i64 (p : Int)] w fun e w' => e = .returned (.bool true) ∧ w = w' := by
  have d0 : decide ((1 : Int) ≤ (n : Int)) = true := by simp; omega
  have d1 : decide ((n : Int) ≤ 64) = true := by simp; omega
  have d2 : decide ((0 : Int) ≤ (p : Int)) = true := by simp
  have d3 : decide ((p : Int) < (n : Int)) = true := by simp; omega
  go_enter Try.func14, Try.ntmps14
  go_wp2
  go_ret
  exact ⟨rfl, rfl⟩

theorem of_no (n p : Int) (h : ¬ (n ≤ 64 ∧ 0 ≤ p ∧ p < n)) (w : World) : Calls Try.prog 14 #[.int .i64 n, .int .i64 p] w fun e w' => e = .returned (.bool false) ∧ w = w' := by
  by_cases h0 : 1 ≤ n
  · have d0 : decide (1 ≤ n) = true := decide_eq_true h0
    by_cases h1 : n ≤ 64
    · have d1 : decide (n ≤ 64) = true := decide_eq_true h1
      by_cases h2 : 0 ≤ p
      · have d2 : decide (0 ≤ p) = true := decide_eq_true h2
        have h3 : ¬ p < n := fun h3 => h ⟨h1, h2, h3⟩
        have d3 : decide (p < n) = false := decide_eq_false h3
        clear h
        go_enter Try.func14, Try.ntmps14
        go_wp2
        go_ret
        exact ⟨rfl, rfl⟩
      · have d2 : decide (0 ≤ p) = false := decide_eq_false h2
        clear h
        go_enter Try.func14, Try.ntmps14
        go_wp2
        go_ret
        exact ⟨rfl, rfl⟩
    · have d1 : decide (n ≤ 64) = false := decide_eq_false h1
      clear h
      go_enter Try.func14, Try.ntmps14
      go_wp2
      go_ret
      exact ⟨rfl, rfl⟩
  · have d0 : decide (1 ≤ n) = false := decide_eq_false h0
    clear h
    go_enter Try.func14, Try.ntmps14
    go_wp2
    go_ret
    exact ⟨rfl, rfl⟩

theorem behind_any (n p : Nat) (hp : p < n) (hn : n ≤ 64) (w : World) : Calls Try.prog 16 #[.int .i64 (n : Int), .int .i64 (p : Int)] w fun e w' => e = .returned (.int .i64 (nxtR n p : Int)) ∧ w = w' := by
  have hE : Hid (((p : Int) + 1) % (n : Int) = (nxtR n p : Int)) := by
    show _ = _
    rw [← nxt_mod hp, Int.natCast_emod]
    rfl
  go_enter Try.func16, Try.ntmps16
  go_wp2
  go_ret
  exact ⟨by show Ending.returned (Value.int .i64 (((p : Int) + 1) % (n : Int))) = _; rw [hE.out], rfl⟩

theorem refBehind_any (n p : Nat) (hp : p < n) (hn : n ≤ 64) (w : World) : Calls Try.prog 18 #[.int .i64 (n : Int), .int .i64 (p : Int)] w fun e w' => e = .returned (.int .i64 (nxtR n p : Int)) ∧ w = w' := by
  by_cases h : p + 1 = n
  · have hE : Hid (nxtR n p = 0) := by show _ = _; unfold nxtR; rw [if_pos h]
    have d : ((p : Int) + 1 == (n : Int)) = true := by simp; omega
    clear h
    go_enter Try.func18, Try.ntmps18
    go_wp2
    go_ret
    exact ⟨by rw [hE.out]; rfl, rfl⟩
  · have hE : Hid (nxtR n p = p + 1) := by show _ = _; unfold nxtR; rw [if_neg h]
    have d : ((p : Int) + 1 == (n : Int)) = false := by simp; omega
    clear h
    go_enter Try.func18, Try.ntmps18
    go_wp2
    go_ret
    exact ⟨by rw [hE.out]; rfl, rfl⟩

theorem steps_no (n a b : Int) (h : ¬ (n ≤ 64 ∧ 0 ≤ a ∧ a < n) ∨ ¬ (n ≤ 64 ∧ 0 ≤ b ∧ b < n)) (w : World) : Calls Try.prog 12 #[.int .i64 n, .int .i64 a, .int .i64 b] w fun e w' => e = .returned (.int .i64 (-1)) ∧ w = w' := by
  by_cases h1 : n ≤ 64 ∧ 0 ≤ a ∧ a < n
  · have h2 := h.resolve_left (fun h => h h1)
    obtain ⟨n', rfl⟩ := Int.eq_ofNat_of_zero_le (show 0 ≤ n by omega)
    obtain ⟨a', rfl⟩ := Int.eq_ofNat_of_zero_le h1.2.1
    have H1 := fun W => has_yes n' a' (by omega) (by omega) W
    have H2 := fun W => has_no n' b h2 W
    clear h h1 h2
    go_enter Try.func12, Try.ntmps12
    go_wp2_with fail
    refine (H1 _).mono ?_
    rintro e w' ⟨rfl, rfl⟩
    go_wp2_with fail
    refine (H2 _).mono ?_
    rintro e w' ⟨rfl, rfl⟩
    go_wp2
    go_ret
    exact ⟨rfl, rfl⟩
  · have H1 := fun W => has_no n a h1 W
    clear h h1
    go_enter Try.func12, Try.ntmps12
    go_wp2_with fail
    refine (H1 _).mono ?_
    rintro e w' ⟨rfl, rfl⟩
    go_wp2
    go_ret
    exact ⟨rfl, rfl⟩

theorem steps_any (n a b : Nat) (ha : a < n) (hb : b < n) (hn : n ≤ 64) (w : World) : Calls Try.prog 12 #[.int .i64 (n : Int), .int .i64 (a : Int), .int .i64 (b : Int)] w fun e w' => e = .returned (.int .i64 (stpR n a b : Int)) ∧ w = w' := by
  have H1 := fun W => has_yes n a ha hn W
  have H2 := fun W => has_yes n b hb hn W
  have hE : Hid (((b : Int) - (a : Int) + (n : Int)) % (n : Int) = (stpR n a b : Int)) := by
    show _ = _
    rw [← stp_mod ha hb, Int.natCast_emod]
    congr 1
    omega
  have h0 : 0 ≤ (b : Int) - (a : Int) + (n : Int) := by omega
  go_enter Try.func12, Try.ntmps12
  go_wp2_with fail
  refine (H1 _).mono ?_
  rintro e w' ⟨rfl, rfl⟩
  go_wp2_with fail
  refine (H2 _).mono ?_
  rintro e w' ⟨rfl, rfl⟩
  go_wp2
  go_ret
  exact ⟨by show Ending.returned (Value.int .i64 (((b : Int) - (a : Int) + (n : Int)) % (n : Int))) = _; rw [hE.out], rfl⟩

theorem refSteps_no (n a b : Int) (h : ¬ (n ≤ 64 ∧ 0 ≤ a ∧ a < n) ∨ ¬ (n ≤ 64 ∧ 0 ≤ b ∧ b < n)) (w : World) : Calls Try.prog 13 #[.int .i64 n, .int .i64 a, .int .i64 b] w fun e w' => e = .returned (.int .i64 (-1)) ∧ w = w' := by
  by_cases h1 : n ≤ 64 ∧ 0 ≤ a ∧ a < n
  · have h2 := h.resolve_left (fun h => h h1)
    obtain ⟨n', rfl⟩ := Int.eq_ofNat_of_zero_le (show 0 ≤ n by omega)
    obtain ⟨a', rfl⟩ := Int.eq_ofNat_of_zero_le h1.2.1
    have H1 := fun W => of_yes n' a' (by omega) (by omega) W
    have H2 := fun W => of_no n' b h2 W
    clear h h1 h2
    go_enter Try.func13, Try.ntmps13
    go_wp2_with fail
    refine (H1 _).mono ?_
    rintro e w' ⟨rfl, rfl⟩
    go_wp2_with fail
    refine (H2 _).mono ?_
    rintro e w' ⟨rfl, rfl⟩
    go_wp2
    go_ret
    exact ⟨rfl, rfl⟩
  · have H1 := fun W => of_no n a h1 W
    clear h h1
    go_enter Try.func13, Try.ntmps13
    go_wp2_with fail
    refine (H1 _).mono ?_
    rintro e w' ⟨rfl, rfl⟩
    go_wp2
    go_ret
    exact ⟨rfl, rfl⟩

theorem refSteps_any (n a b : Nat) (ha : a < n) (hb : b < n) (hn : n ≤ 64) (w : World) : Calls Try.prog 13 #[.int .i64 (n : Int), .int .i64 (a : Int), .int .i64 (b : Int)] w fun e w' => e = .returned (.int .i64 (stpR n a b : Int)) ∧ w = w' := by
  have H1 := fun W => of_yes n a ha hn W
  have H2 := fun W => of_yes n b hb hn W
  have hlt := stp_lt ha hb
  obtain ⟨S, hS⟩ : ∃ S, stpR n a b = S := ⟨_, rfl⟩
  rw [hS] at hlt ⊢
  have HS := Lib.hid hS
  clear hS
  go_enter Try.func13, Try.ntmps13
  go_wp2_with fail
  refine (H1 _).mono ?_
  rintro e w' ⟨rfl, rfl⟩
  go_wp2_with fail
  refine (H2 _).mono ?_
  rintro e w' ⟨rfl, rfl⟩
  clear H1 H2
  go_wp2
  go_loopw [7, 8] (fun s7 s8 wr => ∃ k i : Nat, s7 = .int .i64 (k : Int) ∧ s8 = .int .i64 (i : Int) ∧ i < n ∧ Hid (stpR n i b + k = S) ∧ k ≤ S ∧ wr = w) (fun s7 _ _ => S - (Lib.intOf s7).toNat)
  case atStart => exact ⟨0, a, rfl, rfl, ha, HS, Nat.zero_le _, rfl⟩
  case round =>
    obtain ⟨k, i, rfl, rfl, hi, HK, hk, rfl⟩ := hrel
    by_cases h : i = b
    · subst h
      have hk : Hid (k = S) := by show _ = _; have := HK.out; rw [stp_self] at this; omega
      go_wp2
      go_ret
      exact ⟨by rw [← hk.out]; rfl, rfl⟩
    · have hne : ((i : Int) == (b : Int)) = false := by simp; omega
      have hb1 := fun W => refBehind_any n i hi hn W
      have hx := nxt_lt hi
      have hK1 : Hid (stpR n (nxtR n i) b + (k + 1) = S) := by
        show _ = _
        have := HK.out
        rw [stp_step hi hb h] at this
        omega
      have hk1 : k + 1 ≤ S := by have := hK1.out; omega
      generalize nxtR n i = j at hb1 hx hK1
      go_wp2_with fail
      refine (hb1 _).mono ?_
      rintro e w' ⟨rfl, rfl⟩
      go_wp2
      exact ⟨⟨k + 1, j, by go_num, rfl, hx, hK1, hk1, trivial⟩, by simp [Lib.intOf]; omega⟩
end

end Go.Proofs.Ytjpahccpkonjkaa
