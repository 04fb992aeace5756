/- The walks of At, of the functions that are handed on, and of longest. -/
import Derived.Test.YtjhdaddemeegmaaVcW
namespace Go.Proofs.Ytjhdaddemeegmaa
open Go.RowKit

/-- The number of a process, whatever the place. -/
def atI (l : List Nat) (i : Int) : Nat := if i < 0 then 0 else num l i.toNat

theorem atI_nat (l : List Nat) (k : Nat) : atI l (k : Int) = num l k := by unfold atI; rw [if_neg (by omega)]; rfl

set_option maxHeartbeats 400000 in
theorem at_any (A : Option Addr) (n c : Nat) (i : Int) (B : Nat) (l : List Nat) (w : World) (hl : l.length = n) (h : Lies w B A (uvs l)) :
    Calls Try.prog 13 #[.slice A n c, .int .i64 i] w fun e w' => e = .returned (.int .u64 (atI l i : Int)) ∧ w = w' := by
  by_cases h0 : i < 0
  · have e0 : atI l i = 0 := by unfold atI; rw [if_pos h0]
    rw [e0]
    go_enter Try.func13, Try.ntmps13
    go_wp2
    go_ret
    exact ⟨rfl, rfl⟩
  · obtain ⟨k, rfl⟩ : ∃ k : Nat, i = (k : Int) := ⟨i.toNat, by omega⟩
    rw [atI_nat]
    by_cases hk : k < n
    · have hk1 : k < l.length := by rw [hl]; exact hk
      rw [num_in hk1]
      obtain ⟨b, off, rfl, hb, hc⟩ := h.at_ (uvs_at hk1)
      generalize (l[k] : Int) = x at hc
      clear hl
      go_enter Try.func13, Try.ntmps13
      go_wp2
      go_ret
      exact ⟨rfl, rfl⟩
    · rw [num_out (by omega)]
      clear hl
      go_enter Try.func13, Try.ntmps13
      go_wp2
      go_ret
      exact ⟨rfl, rfl⟩

theorem at_nat (A : Option Addr) (n c : Nat) (k : Nat) (B : Nat) (l : List Nat) (w : World) (hl : l.length = n) (h : Lies w B A (uvs l)) :
    Calls Try.prog 13 #[.slice A n c, .int .i64 (k : Int)] w fun e w' => e = .returned (.int .u64 (num l k : Int)) ∧ w = w' := by
  rw [← atI_nat]
  exact at_any A n c k B l w hl h

theorem minF_any (x y : Nat) (w : World) : Calls Try.prog 27 #[.int .u64 (x : Int), .int .u64 (y : Int)] w fun e w' => e = .returned (.int .u64 (min x y : Nat)) ∧ w = w' := by
  by_cases h : y < x
  · rw [Nat.min_eq_right (by omega)]
    go_enter Try.func27, Try.ntmps27
    go_wp2
    go_ret
    exact ⟨rfl, rfl⟩
  · rw [Nat.min_eq_left (by omega)]
    go_enter Try.func27, Try.ntmps27
    go_wp2
    go_ret
    exact ⟨rfl, rfl⟩

theorem maxF_any (x y : Nat) (w : World) : Calls Try.prog 28 #[.int .u64 (x : Int), .int .u64 (y : Int)] w fun e w' => e = .returned (.int .u64 (max x y : Nat)) ∧ w = w' := by
  by_cases h : x < y
  · rw [Nat.max_eq_right (by omega)]
    go_enter Try.func28, Try.ntmps28
    go_wp2
    go_ret
    exact ⟨rfl, rfl⟩
  · rw [Nat.max_eq_left (by omega)]
    go_enter Try.func28, Try.ntmps28
    go_wp2
    go_ret
    exact ⟨rfl, rfl⟩

theorem coversF_any (x y : Nat) (w : World) : Calls Try.prog 30 #[.int .u64 (x : Int), .int .u64 (y : Int)] w fun e w' => e = .returned (.bool (decide (y ≤ x))) ∧ w = w' := by
  go_enter Try.func30, Try.ntmps30
  go_wp2
  go_ret
  exact ⟨rfl, rfl⟩

theorem sameF_any (x y : Nat) (w : World) : Calls Try.prog 31 #[.int .u64 (x : Int), .int .u64 (y : Int)] w fun e w' => e = .returned (.bool (decide (x = y))) ∧ w = w' := by
  by_cases h : x = y
  · subst h
    rw [decide_eq_true rfl]
    go_enter Try.func31, Try.ntmps31
    go_wp2
    go_ret
    exact ⟨by simp, rfl⟩
  · rw [decide_eq_false h]
    have hb : (((x : Int)) == ((y : Int))) = false := by simp; omega
    go_enter Try.func31, Try.ntmps31
    go_wp2
    go_ret
    exact ⟨by simp, rfl⟩

/-- The length of the longest one. -/
def longN (ls : List (List Nat)) : Nat := ls.foldl (fun m l => max m l.length) 0

theorem longN_snoc (ls : List (List Nat)) (k : Nat) (h : k < ls.length) : longN (ls.take (k + 1)) = max (longN (ls.take k)) ls[k].length := by
  unfold longN
  rw [List.take_succ_eq_append_getElem h, List.foldl_append]
  rfl

set_option maxHeartbeats 400000 in
theorem longest_any (A : Option Addr) (n c : Nat) (B : Nat) (vs : List Value) (ls : List (List Nat)) (w : World) (hn : n ≤ 1000) (hl : vs.length = n) (h : Lies w B A vs) (hr : VecRows w B vs ls) :
    Calls Try.prog 32 #[.slice A n c] w fun e w' => e = .returned (.int .i64 (longN ls : Int)) ∧ w = w' := by
  have HL := Lib.hid hl
  have HR := Lib.hid hr
  clear hl hr
  go_enter Try.func32, Try.ntmps32
  go_wp2
  go_loop [3, 5, 8] (fun s3 _ i => ∃ k : Nat, k ≤ n ∧ i = .int .i64 k ∧ s3 = .int .i64 (longN (ls.take k) : Int)) (fun _ _ i => n - (intOf i).toNat)
  case atStart => exact ⟨0, Nat.zero_le _, rfl, rfl⟩
  case round =>
    obtain ⟨k, hk, rfl, rfl⟩ := hrel
    by_cases hlt : k < n
    · have hk1 : k < vs.length := by rw [HL.out]; exact hlt
      have hk2 : k < ls.length := by rw [← HR.out.1]; exact hk1
      obtain ⟨Ar, nr, cr, hvr, hlr, _, _, hLr⟩ := HR.out.2 k hk1 hk2
      obtain ⟨b, off, rfl, hb, hc⟩ := h.at_ (List.getElem?_eq_getElem hk1)
      rw [hvr] at hc
      have HS := Lib.hid (longN_snoc ls k hk2)
      rw [hlr] at HS
      clear hvr hlr
      generalize longN (ls.take k) = q at HS
      by_cases hm : q < nr
      · have HM : Hid (longN (ls.take (k + 1)) = nr) := by rw [HS.out]; exact Nat.max_eq_right (by omega)
        clear HS
        go_wp2
        go_round
        case rel => exact ⟨k + 1, by omega, by go_num, by rw [HM.out]⟩
        case measure => simp [intOf]; omega
      · have HM : Hid (longN (ls.take (k + 1)) = q) := by rw [HS.out]; exact Nat.max_eq_left (by omega)
        clear HS
        go_wp2
        go_round
        case rel => exact ⟨k + 1, by omega, by go_num, by rw [HM.out]⟩
        case measure => simp [intOf]; omega
    · have HA : Hid (ls.take k = ls) := List.take_of_length_le (by rw [← HR.out.1, HL.out]; omega)
      go_wp2
      go_ret
      exact ⟨by rw [HA.out]; rfl, rfl⟩

end Go.Proofs.Ytjhdaddemeegmaa
