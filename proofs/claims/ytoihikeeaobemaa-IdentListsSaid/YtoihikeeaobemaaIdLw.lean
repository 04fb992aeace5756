/- The walk of IdentLists. -/
import Derived.Test.YtoihikeeaobemaaIdRl
import Derived.Test.YtoihikeeaobemaaIdSm
import Derived.Test.YtoihikeeaobemaaIdK
import Derived.Test.YtoihikeeaobemaaIdY
namespace Go.Proofs.Ytoihikeeaobemaa
open Go.RowKit Go.Sort

theorem listM_len {most : Int} {l : List Rn} (h : most ≤ 300) : (listM most l).length ≤ 300 := by
  unfold listM
  by_cases hc : badB l = true ∨ max most 0 < (cntN l : Int)
  · rw [if_pos hc]; simp
  · rw [if_neg hc]
    have hb : badB l = false := by
      cases hb : badB l
      · rfl
      · exact absurd (.inl hb) hc
    have hx : ¬ max most 0 < (cntN l : Int) := fun h => hc (.inr h)
    have h0 : cntN l ≤ 300 := by omega
    rw [cnt_len hb h0 (by omega)]
    exact h0

theorem listM_some {most : Int} {l : List Rn} (h : (listM most l).length ≠ 0) : listM most l = listOf l := by
  unfold listM at h ⊢
  split at h
  · simp at h
  · next hc => rw [if_neg hc]

theorem identLists_more (most : Int) (A : Option Addr) (n c : Nat) (w : World) (hn : 30 < n) :
    Calls Try.prog 5 #[.int .i64 most, .slice A n c] w fun e w' => e = .returned (.bool true) ∧ RowKit.Below w.heap.size w w' := by
  go_enter Try.func5, Try.ntmps5
  go_wp2_with (go_at_call 8; refine (awake_any _).mono ?_; rintro e w' ⟨rfl, hb⟩)
  go_ret
  exact ⟨rfl, hb⟩

theorem identLists_most (most : Int) (A : Option Addr) (n c : Nat) (w : World) (hn : n ≤ 30) (hm : 300 < most) :
    Calls Try.prog 5 #[.int .i64 most, .slice A n c] w fun e w' => e = .returned (.bool true) ∧ RowKit.Below w.heap.size w w' := by
  have hd : decide (30 < (n : Int)) = false := by simp; omega
  go_enter Try.func5, Try.ntmps5
  go_wp2_with (go_at_call 8; refine (awake_any _).mono ?_; rintro e w' ⟨rfl, hb⟩)
  go_ret
  exact ⟨rfl, hb⟩

set_option maxHeartbeats 1600000 in
theorem identLists_walk (most : Int) (A : Option Addr) (n c : Nat) (l : List Rn) (w : World) (hm1 : -9223372036854775808 ≤ most) (hm2 : most ≤ 300) (hl : l.length = n) (hn : n ≤ 30) (h : Lies w w.heap.size A (flat encRn l)) :
    Calls Try.prog 5 #[.int .i64 most, .slice A n c] w fun e w' => e = .returned (.bool true) ∧ RowKit.Below w.heap.size w w' := by
  have hd : decide (30 < (n : Int)) = false := by simp; omega
  have hdm : decide ((300 : Int) < most) = false := decide_eq_false (by omega)
  have hn1 : n ≤ 1000 := by omega
  have k25 := fun W h => list_any most A n c l W hm1 hm2 hl hn1 h
  have k23 := fun W h => refList_any most A n c l W hm1 hm2 hl hn1 h
  have hLl := listM_len (l := l) hm2
  have hLs : Hid ((listM most l).length ≠ 0 → listM most l = listOf l) := listM_some
  generalize listM most l = L at k25 k23 hLl hLs
  have HL := Lib.hid hl
  have HLl := Lib.hid hLl
  clear hl hLl
  go_enter Try.func5, Try.ntmps5
  go_wp2_with fail
  refine (k25 w h).mono ?_
  rintro e w1 ⟨A1, n1, c1, rfl, hq1, _, _, hown1, hb1⟩
  have hi1 := Lies.of_ownK hown1
  have hL1 := h.on hb1
  clear hown1
  go_wp2_with fail
  refine (k23 w1 hL1).mono ?_
  rintro e w2 ⟨A2, n2, c2, rfl, hq2, _, _, hown2, hb2⟩
  have hi2 := Lies.of_ownK hown2
  have hi1' := hi1.on hb2
  have hL2 := hL1.on hb2
  have hb02 : RowKit.Below w.heap.size w w2 := hb1.trans (hb2.mono hb1.size)
  have hn1m : n1 ≤ 1000 := by rw [← hq1.out]; exact Nat.le_trans HLl.out (by decide)
  clear hown2 hi1 k25 k23 hb1 hb2 hL1
  go_wp2_with fail
  refine (sameIds_any A1 A2 n1 c1 n2 c2 L L w2 hq1.out hq2.out hn1m hi1' hi2).mono ?_
  rw [show decide (L = L) = true from decide_eq_true rfl]
  rintro e w3 ⟨rfl, hb3⟩
  have hi3 := hi1'.on hb3
  have hL3 := hL2.on hb3
  have hb03 : RowKit.Below w.heap.size w w3 := hb02.trans (hb3.mono hb02.size)
  clear hi1' hi2 hL2 hb02 hb3
  by_cases hz : n2 = 0
  · subst hz
    clear hi3 hL3
    go_wp2_with (go_at_call 8; refine (awake_any _).mono ?_; rintro e w' ⟨rfl, hb⟩)
    go_ret
    exact ⟨rfl, hb03.trans (hb.mono hb03.size)⟩
  · have hzz : ((n2 : Int) == 0) = false := beq_eq_false_iff_ne.2 (by omega)
    have hLe := hLs.out (by rw [hq2.out]; exact hz)
    go_wp2_with fail
    refine (refRows_any A n c l w3 HL.out hn1 hL3).mono ?_
    rintro e w4 ⟨rfl, hb4⟩
    have hi4 := hi3.on hb4
    have hL4 := hL3.on hb4
    have hb04 : RowKit.Below w.heap.size w w4 := hb03.trans (hb4.mono hb03.size)
    clear hi3 hL3 hb03 hb4
    cases hrows : rowsB l with
    | false =>
      clear hi4 hL4 hLe
      go_wp2_with (go_at_call 8; refine (awake_any _).mono ?_; rintro e w' ⟨rfl, hb⟩)
      go_ret
      exact ⟨rfl, hb04.trans (hb.mono hb04.size)⟩
    | true =>
      have hj : joinOf L = l := by rw [hLe]; exact join_rows ((rowsB_iff l).1 hrows)
      have k21 := join_any A1 n1 c1 L w4 hq1.out hn1m hi4
      rw [hj] at k21
      clear hLe hj hi4
      go_wp2_with fail
      refine k21.mono ?_
      rintro e w5 ⟨A5, n5, c5, rfl, hq5, _, _, hown5, hb5⟩
      have hi5 := Lies.of_ownK hown5
      have hL5 := hL4.on hb5
      have hb05 : RowKit.Below w.heap.size w w5 := hb04.trans (hb5.mono hb04.size)
      have hn5 : n5 ≤ 1000 := by rw [← hq5.out, HL.out]; exact hn1
      clear hown5 k21 hL4 hb04 hb5
      go_wp2_with fail
      refine (sameRns_any A5 A n5 c5 n c l l w5 hq5.out HL.out hn5 hi5 hL5).mono ?_
      rw [show decide (l = l) = true from decide_eq_true rfl]
      rintro e w6 ⟨rfl, hb6⟩
      have hb06 : RowKit.Below w.heap.size w w6 := hb05.trans (hb6.mono hb05.size)
      clear hi5 hL5 hb05 hb6
      go_wp2_with (go_at_call 8; refine (awake_any _).mono ?_; rintro e w' ⟨rfl, hb⟩)
      go_ret
      exact ⟨rfl, hb06.trans (hb.mono hb06.size)⟩

end Go.Proofs.Ytoihikeeaobemaa
