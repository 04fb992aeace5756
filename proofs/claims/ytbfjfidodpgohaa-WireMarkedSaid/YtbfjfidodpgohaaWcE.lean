/- The document's Sum (picked). -/
import Derived.Test.YtbfjfidodpgohaaT16

namespace Go.Proofs.Ytbfjfidodpgohaa
open Go.RowKit

theorem bits_take (ch : UInt8) (q : Nat) (h : q < 8) : (bitsOf ch).take (q + 1) = (bitsOf ch).take q ++ [decide (ch.toNat / 2 ^ q % 2 = 1)] := by
  have hl : q < (bitsOf ch).length := by rw [bitsOf_length]; exact h
  rw [List.take_succ_eq_append_getElem hl]
  congr 2
  simp only [bitsOf, List.getElem_map, List.getElem_range]
  rw [Nat.testBit_eq_decide_div_mod_eq]

theorem feed_step (r : BitVec 32) (ch : UInt8) (q : Nat) (h : q < 8) :
    (feed r ((bitsOf ch).take (q + 1))).toNat = if (feed r ((bitsOf ch).take q)).toNat % 2 = ch.toNat / 2 ^ q % 2 then (feed r ((bitsOf ch).take q)).toNat / 2 else ((feed r ((bitsOf ch).take q)).toNat / 2) ^^^ 3988292384 := by
  rw [bits_take ch q h, feed_append]
  show (down (feed r ((bitsOf ch).take q) ^^^ bit _)).toNat = _
  rw [down_bit_nat]
  generalize (feed r ((bitsOf ch).take q)).toNat = x
  generalize ch.toNat / 2 ^ q = z
  rcases Nat.mod_two_eq_zero_or_one x with h1 | h1 <;> rcases Nat.mod_two_eq_zero_or_one z with h2 | h2 <;> simp [h1, h2]

theorem not_nat (r : BitVec 32) : ((~~~ r).toNat : Int) = 4294967295 - (r.toNat : Int) := by
  have := r.isLt
  rw [BitVec.toNat_not]
  omega

theorem div_two (n q : Nat) : n / 2 ^ q / 2 = n / 2 ^ (q + 1) := by rw [Nat.div_div_eq_div_mul, Nat.pow_succ]

set_option maxRecDepth 100000 in
set_option maxHeartbeats 1600000 in
theorem refSum_any (A : Option Addr) (n c : Nat) (l : List UInt8) (w : World) (hl : l.length = n) (hn : n ≤ 1000000) (h : Lies w w.heap.size A (bvs l)) :
    Calls Try.prog 29 #[.slice A n c] w fun e w' => e = .returned (rv (sumOf l)) ∧ w = w' := by
  have HL := Lib.hid hl
  clear hl
  have hones : Value.int .u32 4294967295 = rv (regOf (l.take 0)) := by rw [List.take_zero]; rfl
  have HO := Lib.hid hones
  clear hones
  go_enter Try.func29, Try.ntmps29
  go_wp2
  rw [HO.out]
  go_loop [3, 10] (fun r i => ∃ (j : Nat), j ≤ n ∧ i = .int .i64 j ∧ r = rv (regOf (l.take j))) (fun _ i => n - (intOf i).toNat)
  case atStart => exact ⟨0, Nat.zero_le _, rfl, rfl⟩
  case round =>
    obtain ⟨j, hj, rfl, rfl⟩ := hrel
    by_cases hjl : j < n
    · have hj2 : j < l.length := by rw [HL.out]; exact hjl
      obtain ⟨b2, off2, rfl, hb2, hc2⟩ := h.at_ (bvs_at hj2)
      have HRS : Hid (regOf (l.take (j + 1)) = feed (regOf (l.take j)) (bitsOf l[j])) := by
        show regOf (l.take (j + 1)) = feed (regOf (l.take j)) (bitsOf l[j])
        rw [List.take_succ_eq_append_getElem hj2, regOf_snoc]
      generalize l[j] = ch at HRS hc2
      generalize regOf (l.take j) = r at HRS
      unfold bv at hc2
      have hch := ch.toNat_lt
      go_wp2
      have hr0 : rv r = rv (feed r ((bitsOf ch).take 0)) := by rw [List.take_zero]; rfl
      have hc0 : Value.int .i64 (ch.toNat : Int) = .int .i64 ((ch.toNat / 2 ^ 0 : Nat) : Int) := by simp
      have HR0 := Lib.hid hr0
      have HC0 := Lib.hid hc0
      clear hr0 hc0
      go_loop [3, 5, 6] (fun r' z i => ∃ (q : Nat), q ≤ 8 ∧ i = .int .i64 q ∧ r' = rv (feed r ((bitsOf ch).take q)) ∧ z = .int .i64 ((ch.toNat / 2 ^ q : Nat) : Int)) (fun _ _ i => 8 - (intOf i).toNat)
      case atStart => exact ⟨0, Nat.zero_le _, rfl, HR0.out, HC0.out⟩
      case round =>
        obtain ⟨q, hq, rfl, rfl, rfl⟩ := hrel
        by_cases hq8 : q < 8
        · have HST := Lib.hid (feed_step r ch q hq8)
          have HDV := Lib.hid (div_two ch.toNat q)
          have hz : ch.toNat / 2 ^ q ≤ ch.toNat := Nat.div_le_self _ _
          generalize feed r ((bitsOf ch).take q) = x at HST ⊢
          generalize ch.toNat / 2 ^ q = z at HST HDV hz ⊢
          have hx := x.isLt
          have hz8 : z < 256 := by omega
          unfold rv
          rcases Nat.mod_two_eq_zero_or_one x.toNat with h1 | h1 <;> rcases Nat.mod_two_eq_zero_or_one z with h2 | h2
          all_goals
            have hx2 := congrArg (fun k : Nat => (k : Int)) h1
            have hz2 := congrArg (fun k : Nat => (k : Int)) h2
            simp only [Int.natCast_emod] at hx2 hz2
            rw [h1, h2] at HST
            clear h1 h2
            go_wp2
            go_round
            case rel =>
              refine ⟨q + 1, by omega, by go_num, ?_, by rw [← HDV.out]; go_num⟩
              have := HST.out
              first
                | (rw [if_pos rfl] at this; rw [this]; go_num)
                | (rw [if_neg (by decide)] at this; rw [this]; exact congrArg (Value.int IntKind.u32) (xor_poly (x.toNat / 2) (by omega)))
            case measure => simp [intOf]; omega
        · go_wp2
          go_round
          case rel =>
            have : q = 8 := by omega
            subst this
            refine ⟨j + 1, by omega, by go_num, ?_⟩
            rw [HRS.out, List.take_of_length_le (by rw [bitsOf_length]; omega)]
          case measure => simp [intOf]; omega
    · have : j = n := by omega
      subst this
      have hfin : l.take j = l := by rw [← HL.out, List.take_length]
      rw [hfin]
      have HN := Lib.hid (not_nat (regOf l))
      generalize hrr : regOf l = r at HN ⊢
      have HRR := Lib.hid hrr
      have hx := r.isLt
      clear hfin hrr
      unfold rv
      go_wp2
      go_ret
      refine ⟨?_, rfl⟩
      show Ending.returned (Value.int IntKind.u32 (4294967295 - ↑r.toNat)) = Ending.returned (Value.int IntKind.u32 ((~~~ regOf l).toNat : Int))
      rw [HRR.out, HN.out]

end Go.Proofs.Ytbfjfidodpgohaa
