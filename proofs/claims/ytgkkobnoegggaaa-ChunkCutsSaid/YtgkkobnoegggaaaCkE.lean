/- Stage 12: Cut. -/
import Derived.Test.YtgkkobnoegggaaaCkB
import Derived.Test.YtgkkobnoegggaaaOwn
namespace Go.Proofs.Ytgkkobnoegggaaa
open Go.RowKit

theorem lies_mid {w : World} {B b off : Nat} {xs : List Value} (h : Lies w B (some ⟨b, off, none⟩) xs) (f m : Nat) : Lies w B (some ⟨b, off + f, none⟩) ((xs.drop f).take m) := fun hn => by
  have hne : xs ≠ [] := fun h0 => hn (by rw [h0, List.drop_nil, List.take_nil])
  obtain ⟨b', off', e, hlt, hc⟩ := h hne
  injection e with e
  injection e with e1 e2
  subst e1 e2
  refine ⟨_, _, rfl, hlt, fun i u hu => ?_⟩
  have h1 : ((xs.drop f).take m)[i]? = some u := hu
  rw [List.getElem?_take] at h1
  split at h1
  · rw [List.getElem?_drop] at h1
    have := hc (f + i) u h1
    rwa [← Nat.add_assoc] at this
  · cases h1

/-- A chunk of a payload. -/
def cutL (l : List UInt8) (k a : Int) : List UInt8 := (l.drop (fromZ l.length k a)).take (lenZ l.length k a)
theorem cutL_len (l : List UInt8) (k a : Int) : (cutL l k a).length = lenZ l.length k a := by
  have h1 := from_upto (l.length : Int) k a
  have h2 := upto_le l.length k a
  unfold cutL lenZ
  rw [List.length_take, List.length_drop]
  omega
theorem from_lt {n : Nat} (h : 0 < n) (k a : Int) : fromZ (n : Int) k a < n := by
  by_cases hT : There (n : Int) k a
  · obtain ⟨n', m, i, e, rfl, rfl, h1, h2, h3, h4⟩ := there_nat hT
    obtain rfl : n = n' := by omega
    rw [fromZ_yes h1 h2 h3 h4]
    cases i with
    | zero => omega
    | succ i => exact (cntN_lt h2).1 h4
  · rw [fromZ_no hT]; exact h

def CutDone (w : World) (l : List UInt8) (k a : Int) (e : Ending) (w' : World) : Prop :=
  ∃ A n c, e = .returned (.tuple #[.slice A n c, .bool (decide (There (l.length : Int) k a))]) ∧ Hid ((cutL l k a).length = n) ∧ n ≤ c ∧ c ≤ maxLen ∧ w'.ownsRow w.heap.size 5 1 (.slice A n c) n (bvs (cutL l k a)) ∧ Below w.heap.size w w'

set_option maxHeartbeats 800000 in
theorem cut_any (A : Option Addr) (n c : Nat) (l : List UInt8) (k a : Int) (w : World) (hl : l.length = n) (hc : n ≤ c) (hm : c ≤ maxLen) (h : Lies w w.heap.size A (bvs l)) :
    Calls Try.prog 14 #[.slice A n c, .int .i64 k, .int .i64 a] w (CutDone w l k a) := by
  obtain ⟨i0, hi, hz0, hz1, hz2⟩ := info_parts Try.info5
  have hS := (span_any (n : Int) k a w).mono fun e w' (h : e = spanV (n : Int) k a ∧ w' = w) => (⟨h.1, h.2.symm⟩ : e = spanV (n : Int) k a ∧ w = w')
  unfold spanV at hS
  have HL := Lib.hid hl
  have hcm : (c : Int) ≤ 9223372036854775807 := by unfold maxLen at hm; omega
  by_cases h0 : n = 0
  · subst h0
    have hl0 : l = [] := List.eq_nil_of_length_eq_zero hl
    subst hl0
    have h1 := upto_le 0 k a
    have h2 := from_upto ((0 : Nat) : Int) k a
    rw [show uptoZ ((0 : Nat) : Int) k a = 0 by omega, show fromZ ((0 : Nat) : Int) k a = 0 by omega] at hS
    have HCL : Hid (cutL [] k a = []) := by show _ = _; unfold cutL; rw [List.drop_nil, List.take_nil]
    unfold CutDone
    rw [HCL.out]
    have HB := Lib.hid (Below.refl w.heap.size w)
    cases A
    all_goals
      go_enter Try.func14, Try.ntmps14
      go_wp2_with (first | (go_at_call 20; refine hS.mono ?_; rintro e w' ⟨rfl, rfl⟩) | fail)
      go_ret2
      exact ⟨none, 0, 0, rfl, rfl, Nat.le_refl _, Nat.zero_le _, World.ownsRow_nil _ _ _ _, HB.out⟩
  · have hff := from_lt (n := n) (by omega) k a
    have hfu := from_upto (n : Int) k a
    have hun := upto_le n k a
    have hus := upto_small (n : Int) k a
    have HCE : Hid (bvs (cutL l k a) = ((bvs l).drop (fromZ n k a)).take (uptoZ n k a - fromZ n k a)) := by
      show _ = _
      unfold cutL lenZ bvs
      rw [List.map_take, List.map_drop, hl]
    have hne : bvs l ≠ [] := fun h1 => by
      have := congrArg List.length h1
      rw [bvs_length, hl, List.length_nil] at this
      omega
    obtain ⟨b, off, rfl, -, -⟩ := h hne
    have hM := lies_mid h (fromZ n k a) (uptoZ n k a - fromZ n k a)
    have hone : ∀ u ∈ bvs (cutL l k a), u.oneCell' = true := bvs_one _
    have hlen : (cutL l k a).length = uptoZ n k a - fromZ n k a := by rw [cutL_len, hl]; rfl
    rw [← HCE.out] at hM
    have HM := Lib.hid hM
    have HLEN := Lib.hid hlen
    unfold CutDone
    rw [hl]
    generalize cutL l k a = xs at *
    generalize uptoZ n k a = u at *
    generalize fromZ n k a = f at *
    clear hM hlen HCE hne hl
    have hcf : ¬ c = f := by omega
    go_enter Try.func14, Try.ntmps14
    go_wp2_with (first | (go_at_call 20; refine hS.mono ?_; rintro e w' ⟨rfl, rfl⟩) | (at_builtin; refine wpList_append_lst rfl _ _ 29 rfl w.heap.size 5 i0 (.int .u8 0) 1 Try.underlying29 hi hz0 hz1 hz2 rfl _ 0 [] rfl (World.ownsRow_nil _ _ _ _) w.heap.size _ _ _ (bvs xs) rfl ?c1 HM.out hone ?c2 ?c3 (Nat.le_refl _) ?_) | fail)
    case c1 => rw [bvs_length]; exact HLEN.out
    case c2 => unfold maxLen; omega
    case c3 => omega
    intro v' w2 hown hg hb _
    go_wp2
    go_ret2
    obtain ⟨A', c', rfl, e1, e2⟩ := own_slice hown
    exact ⟨A', _, c', rfl, HLEN.out, e1, e2, hown, hb⟩

end Go.Proofs.Ytgkkobnoegggaaa
