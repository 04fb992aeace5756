/- Stage 12: the chunks that are there, one behind the other. -/
import Derived.Test.YtgkkobnoegggaaaCkE
namespace Go.Proofs.Ytgkkobnoegggaaa
open Go.RowKit

/-- The chunk number j. -/
def chL (l : List UInt8) (k j : Nat) : List UInt8 := (l.drop (j * k)).take k
theorem cutL_yes {l : List UInt8} {k j : Nat} (hl : l.length ≤ 1048576) (hk : 1 ≤ k) (hk2 : k ≤ 65536) (hj : j < cntN l.length k) : cutL l (k : Int) (j : Int) = chL l k j := by
  unfold cutL chL lenZ
  rw [fromZ_yes hl hk hk2 hj, uptoZ_yes hl hk hk2 hj]
  have := cntN_mul hk hj
  by_cases h : j * k + k ≤ l.length
  · rw [show min (j * k + k) l.length - j * k = k by omega]
  · rw [List.take_of_length_le (by rw [List.length_drop]; omega), List.take_of_length_le (by rw [List.length_drop]; omega)]
theorem chL_len (l : List UInt8) (k j : Nat) : (chL l k j).length = min k (l.length - j * k) := by unfold chL; rw [List.length_take, List.length_drop]
theorem lenZ_ch {l : List UInt8} {k j : Nat} (hl : l.length ≤ 1048576) (hk : 1 ≤ k) (hk2 : k ≤ 65536) (hj : j < cntN l.length k) : lenZ (l.length : Int) (k : Int) (j : Int) = (chL l k j).length := by
  rw [← cutL_len, cutL_yes hl hk hk2 hj]
theorem take_chunk (l : List UInt8) (k j : Nat) : l.take (j * k) ++ chL l k j = l.take ((j + 1) * k) := by
  unfold chL
  rw [Nat.add_mul, Nat.one_mul, List.take_add]
theorem take_all {l : List UInt8} {k : Nat} (hk : 1 ≤ k) : l.take (cntN l.length k * k) = l := by
  refine List.take_of_length_le ?_
  have h1 := cntN_pos l.length k
  have h2 : ¬ (cntN l.length k - 1 + 1) * k < l.length := fun h => by have := (cntN_lt hk).2 h; omega
  rw [show cntN l.length k - 1 + 1 = cntN l.length k by omega] at h2
  omega

/-- What Cut leaves: a slice of the call's own, with these bytes. -/
def CutBytes (w : World) (xs : List UInt8) (ok : Bool) (e : Ending) (w' : World) : Prop :=
  ∃ A n c, e = .returned (.tuple #[.slice A n c, .bool ok]) ∧ Hid (xs.length = n) ∧ n ≤ c ∧ c ≤ maxLen ∧ w'.ownsRow w.heap.size 5 1 (.slice A n c) n (bvs xs) ∧ Below w.heap.size w w'

section
variable {A : Option Addr} {n c : Nat} {l : List UInt8} {w : World}
theorem cut_yes (k j : Nat) (hl : l.length = n) (hn : n ≤ 1048576) (hc : n ≤ c) (hm : c ≤ maxLen) (h : Lies w w.heap.size A (bvs l)) (hk : 1 ≤ k) (hk2 : k ≤ 65536) (hj : j < cntN n k) :
    Calls Try.prog 14 #[.slice A n c, .int .i64 (k : Int), .int .i64 (j : Int)] w (CutBytes w (chL l k j) true) := by
  subst hl
  refine (cut_any A l.length c l k j w rfl hc hm h).mono fun e w' hC => ?_
  obtain ⟨A', n', c', e1, e2, e3, e4, e5, e6⟩ := hC
  rw [cutL_yes hn hk hk2 hj] at e2 e5
  rw [decide_eq_true ((there_yes hn hk hk2).2 hj)] at e1
  exact ⟨A', n', c', e1, e2, e3, e4, e5, e6⟩
theorem cut_no (k a : Int) (hl : l.length = n) (hc : n ≤ c) (hm : c ≤ maxLen) (h : Lies w w.heap.size A (bvs l)) (hT : ¬ There (n : Int) k a) :
    Calls Try.prog 14 #[.slice A n c, .int .i64 k, .int .i64 a] w (CutBytes w [] false) := by
  subst hl
  refine (cut_any A l.length c l k a w rfl hc hm h).mono fun e w' hC => ?_
  obtain ⟨A', n', c', e1, e2, e3, e4, e5, e6⟩ := hC
  have : cutL l k a = [] := List.eq_nil_of_length_eq_zero (by rw [cutL_len, lenZ_no hT])
  rw [this] at e2 e5
  rw [decide_eq_false hT] at e1
  exact ⟨A', n', c', e1, e2, e3, e4, e5, e6⟩
theorem length_yes (k j : Nat) (hl : l.length = n) (hn : n ≤ 1048576) (hk : 1 ≤ k) (hk2 : k ≤ 65536) (hj : j < cntN n k) (W : World) :
    Calls Try.prog 11 #[.int .i64 (n : Int), .int .i64 (k : Int), .int .i64 (j : Int)] W fun e w' => e = .returned (.int .i64 ((chL l k j).length : Int)) ∧ w' = W := by
  subst hl
  rw [← lenZ_ch hn hk hk2 hj]
  exact length_any _ _ _ W
theorem count_yes (n k : Nat) (hn : n ≤ 1048576) (hk : 1 ≤ k) (hk2 : k ≤ 65536) (W : World) :
    Calls Try.prog 9 #[.int .i64 (n : Int), .int .i64 (k : Int)] W fun e w' => e = .returned (.int .i64 (cntN n k : Int)) ∧ w' = W := by
  rw [← cntZ_yes hn hk hk2]
  exact count_any _ _ W
theorem there_end (n k : Nat) (hn : n ≤ 1048576) (hk : 1 ≤ k) (hk2 : k ≤ 65536) : ¬ There (n : Int) (k : Int) (cntN n k : Int) := fun h => by
  have := (there_yes hn hk hk2).1 h
  omega
end

/-- What of string(..) of a slice is told, wherever it lies. -/
theorem strs_at {W : World} {A : Option Addr} {B n c : Nat} {l : List UInt8} (hl : l.length = n) (h : Lies W B A (bvs l)) : (convert 29 9 (.slice A n c)).run Try.prog W = .ok (.string (str l)) W := strs_of hl h c

end Go.Proofs.Ytgkkobnoegggaaa
