/- The walks of the document's SameIDs and Same. -/
import Derived.Test.YtoihikeeaobemaaIdX
namespace Go.Proofs.Ytoihikeeaobemaa
open Go.RowKit Go.Sort

set_option maxHeartbeats 800000 in
theorem sameIds_any (A1 A2 : Option Addr) (n1 c1 n2 c2 : Nat) (xs ys : List Id) (w : World) (hl1 : xs.length = n1) (hl2 : ys.length = n2) (hn : n1 ≤ 1000) (h1 : Lies w w.heap.size A1 (flat encId xs)) (h2 : Lies w w.heap.size A2 (flat encId ys)) :
    Calls Try.prog 22 #[.slice A1 n1 c1, .slice A2 n2 c2] w fun e w' => e = .returned (.bool (decide (xs = ys))) ∧ RowKit.Below w.heap.size w w' := by
  have mixed := mixedOrders
  have hGd := guardId
  generalize hD : decide (xs = ys) = D
  have HD := Lib.hid hD
  have HL1 := Lib.hid hl1
  have HL2 := Lib.hid hl2
  clear hD hl1 hl2
  by_cases hnn : n1 = n2
  · subst hnn
    go_enter Try.func22, Try.ntmps22
    go_wp2
    go_loopw [5, 13] (fun _ i wr => ∃ k : Nat, k ≤ n1 ∧ i = .int .i64 k ∧ RowKit.Below w.heap.size w wr ∧ Hid (xs.take k = ys.take k)) (fun _ i _ => n1 - (intOf i).toNat)
    case atStart => exact ⟨0, Nat.zero_le _, rfl, RowKit.Below.refl _ _, by show xs.take 0 = ys.take 0; simp⟩
    case round =>
      obtain ⟨k, hk, rfl, hb, hT⟩ := hrel
      by_cases hlt : k < n1
      · have hk1 : k < xs.length := by rw [HL1.out]; exact hlt
        have hk2 : k < ys.length := by rw [HL2.out]; exact hlt
        obtain ⟨b1, o1, rfl, hl1, x0, x1⟩ := (h1.below hb).id hk1
        obtain ⟨b2, o2, rfl, hl2, y0, y1⟩ := (h2.below hb).id hk2
        have hw1 : b1 < wr.heap.size := Nat.lt_of_lt_of_le hl1 hb.size
        have hw2 : b2 < wr.heap.size := Nat.lt_of_lt_of_le hl2 hb.size
        have hE := neqId xs[k] ys[k]
        have K1 : Hid (decide (xs[k] = ys[k]) = false → D = false) := fun he => by
          rw [← HD.out]
          refine decide_eq_false fun h => ?_
          subst h
          exact absurd rfl (of_decide_eq_false he)
        have K2 : Hid (decide (xs[k] = ys[k]) = true → xs.take (k + 1) = ys.take (k + 1)) := fun he => by
          rw [List.take_succ_eq_append_getElem hk1, List.take_succ_eq_append_getElem hk2, hT.out, of_decide_eq_true he]
        generalize xs[k] = x at x0 x1 K1 K2 hE
        generalize ys[k] = y at y0 y1 K1 K2 hE
        have p0 := later_cell (w0 := wr) (b := b1) hw1 x0
        have p1 := later_cell (w0 := wr) (b := b1) hw1 x1
        have q0 := later_cell (w0 := wr) (b := b2) hw2 y0
        have q1 := later_cell (w0 := wr) (b := b2) hw2 y1
        clear x0 x1 y0 y1
        generalize decide (x = y) = de at hE K1 K2
        cases de with
        | false =>
          have HR : Hid (D = false) := K1.out rfl
          go_wp2_with fail
          refine wp_region_later mixed (by kernel_rfl) ?_
          repeat (go_big_quiet_step (fail))
          refine wpQuiet_nil ?_
          intro _ hw'
          obtain ⟨p, rfl⟩ := hw'
          have hbp : RowKit.Below w.heap.size w p.w := hb.trans (p.hb.mono hb.size)
          go_wp2
          go_ret
          rw [HR.out]
          exact ⟨rfl, hbp⟩
        | true =>
          have HN : Hid (xs.take (k + 1) = ys.take (k + 1)) := K2.out rfl
          go_wp2_with fail
          refine wp_region_later mixed (by kernel_rfl) ?_
          repeat (go_big_quiet_step (fail))
          refine wpQuiet_nil ?_
          intro _ hw'
          obtain ⟨p, rfl⟩ := hw'
          have hbp : RowKit.Below w.heap.size w p.w := hb.trans (p.hb.mono hb.size)
          go_wp2
          go_roundw
          case rel => exact ⟨k + 1, by omega, by go_num, hbp, HN⟩
          case measure => simp [intOf]; omega
      · have HR : Hid (D = true) := by
          show D = true
          rw [← HD.out]
          refine decide_eq_true ?_
          have := hT.out
          rwa [List.take_of_length_le (by rw [HL1.out]; omega), List.take_of_length_le (by rw [HL2.out]; omega)] at this
        go_wp2
        go_ret
        rw [HR.out]
        exact ⟨rfl, hb⟩
  · have HR : Hid (D = false) := by
      show D = false
      rw [← HD.out]
      refine decide_eq_false fun h => hnn ?_
      rw [← HL1.out, ← HL2.out, h]
    have hz : ((n1 : Int) == (n2 : Int)) = false := beq_eq_false_iff_ne.2 (by omega)
    go_enter Try.func22, Try.ntmps22
    go_wp2
    go_ret
    rw [HR.out]
    exact ⟨rfl, RowKit.Below.refl _ _⟩

set_option maxHeartbeats 800000 in
theorem sameRns_any (A1 A2 : Option Addr) (n1 c1 n2 c2 : Nat) (xs ys : List Rn) (w : World) (hl1 : xs.length = n1) (hl2 : ys.length = n2) (hn : n1 ≤ 1000) (h1 : Lies w w.heap.size A1 (flat encRn xs)) (h2 : Lies w w.heap.size A2 (flat encRn ys)) :
    Calls Try.prog 26 #[.slice A1 n1 c1, .slice A2 n2 c2] w fun e w' => e = .returned (.bool (decide (xs = ys))) ∧ RowKit.Below w.heap.size w w' := by
  have mixed := mixedOrders
  have hGd := guardRn
  generalize hD : decide (xs = ys) = D
  have HD := Lib.hid hD
  have HL1 := Lib.hid hl1
  have HL2 := Lib.hid hl2
  clear hD hl1 hl2
  by_cases hnn : n1 = n2
  · subst hnn
    go_enter Try.func26, Try.ntmps26
    go_wp2
    go_loopw [5, 13] (fun _ i wr => ∃ k : Nat, k ≤ n1 ∧ i = .int .i64 k ∧ RowKit.Below w.heap.size w wr ∧ Hid (xs.take k = ys.take k)) (fun _ i _ => n1 - (intOf i).toNat)
    case atStart => exact ⟨0, Nat.zero_le _, rfl, RowKit.Below.refl _ _, by show xs.take 0 = ys.take 0; simp⟩
    case round =>
      obtain ⟨k, hk, rfl, hb, hT⟩ := hrel
      by_cases hlt : k < n1
      · have hk1 : k < xs.length := by rw [HL1.out]; exact hlt
        have hk2 : k < ys.length := by rw [HL2.out]; exact hlt
        obtain ⟨b1, o1, rfl, hl1, x0, x1, x2⟩ := (h1.below hb).rn hk1
        obtain ⟨b2, o2, rfl, hl2, y0, y1, y2⟩ := (h2.below hb).rn hk2
        have hw1 : b1 < wr.heap.size := Nat.lt_of_lt_of_le hl1 hb.size
        have hw2 : b2 < wr.heap.size := Nat.lt_of_lt_of_le hl2 hb.size
        have hE := neqRn xs[k] ys[k]
        have K1 : Hid (decide (xs[k] = ys[k]) = false → D = false) := fun he => by
          rw [← HD.out]
          refine decide_eq_false fun h => ?_
          subst h
          exact absurd rfl (of_decide_eq_false he)
        have K2 : Hid (decide (xs[k] = ys[k]) = true → xs.take (k + 1) = ys.take (k + 1)) := fun he => by
          rw [List.take_succ_eq_append_getElem hk1, List.take_succ_eq_append_getElem hk2, hT.out, of_decide_eq_true he]
        generalize xs[k] = x at x0 x1 x2 K1 K2 hE
        generalize ys[k] = y at y0 y1 y2 K1 K2 hE
        have p0 := later_cell (w0 := wr) (b := b1) hw1 x0
        have p1 := later_cell (w0 := wr) (b := b1) hw1 x1
        have p2 := later_cell (w0 := wr) (b := b1) hw1 x2
        have q0 := later_cell (w0 := wr) (b := b2) hw2 y0
        have q1 := later_cell (w0 := wr) (b := b2) hw2 y1
        have q2 := later_cell (w0 := wr) (b := b2) hw2 y2
        clear x0 x1 x2 y0 y1 y2
        generalize decide (x = y) = de at hE K1 K2
        cases de with
        | false =>
          have HR : Hid (D = false) := K1.out rfl
          go_wp2_with fail
          refine wp_region_later mixed (by kernel_rfl) ?_
          repeat (go_big_quiet_step (fail))
          refine wpQuiet_nil ?_
          intro _ hw'
          obtain ⟨p, rfl⟩ := hw'
          have hbp : RowKit.Below w.heap.size w p.w := hb.trans (p.hb.mono hb.size)
          go_wp2
          go_ret
          rw [HR.out]
          exact ⟨rfl, hbp⟩
        | true =>
          have HN : Hid (xs.take (k + 1) = ys.take (k + 1)) := K2.out rfl
          go_wp2_with fail
          refine wp_region_later mixed (by kernel_rfl) ?_
          repeat (go_big_quiet_step (fail))
          refine wpQuiet_nil ?_
          intro _ hw'
          obtain ⟨p, rfl⟩ := hw'
          have hbp : RowKit.Below w.heap.size w p.w := hb.trans (p.hb.mono hb.size)
          go_wp2
          go_roundw
          case rel => exact ⟨k + 1, by omega, by go_num, hbp, HN⟩
          case measure => simp [intOf]; omega
      · have HR : Hid (D = true) := by
          show D = true
          rw [← HD.out]
          refine decide_eq_true ?_
          have := hT.out
          rwa [List.take_of_length_le (by rw [HL1.out]; omega), List.take_of_length_le (by rw [HL2.out]; omega)] at this
        go_wp2
        go_ret
        rw [HR.out]
        exact ⟨rfl, hb⟩
  · have HR : Hid (D = false) := by
      show D = false
      rw [← HD.out]
      refine decide_eq_false fun h => hnn ?_
      rw [← HL1.out, ← HL2.out, h]
    have hz : ((n1 : Int) == (n2 : Int)) = false := beq_eq_false_iff_ne.2 (by omega)
    go_enter Try.func26, Try.ntmps26
    go_wp2
    go_ret
    rw [HR.out]
    exact ⟨rfl, RowKit.Below.refl _ _⟩

end Go.Proofs.Ytoihikeeaobemaa
