/- Stage 13: the same ids; Right as the document has it (picked out of the texts of stages 3 and 12; the door seat alone). -/
import Derived.Test.YthkongnjokmmfaaDoorGtF
set_option maxRecDepth 20000
namespace Go.Proofs.YthkongnjokmmfaaDoor
open Go.RowKit Go.Sort Go.ChangeShapes Go.WideShapes Go.ChangeAt

set_option maxHeartbeats 800000 in
theorem sameIds_any (A1 A2 : Option Addr) (n1 c1 n2 c2 : Nat) (xs ys : List Id) (w : World) (hl1 : xs.length = n1) (hl2 : ys.length = n2) (hn : n1 ≤ 1000) (h1 : Lies w w.heap.size A1 (flat encId xs)) (h2 : Lies w w.heap.size A2 (flat encId ys)) :
    Calls Tryd.prog 19 #[.slice A1 n1 c1, .slice A2 n2 c2] w fun e w' => e = .returned (.bool (decide (xs = ys))) ∧ RowKit.Below w.heap.size w w' := by
  have mixed := mixedOrders
  have hGd := guardId
  generalize hD : decide (xs = ys) = D
  have HD := Lib.hid hD
  have HL1 := Lib.hid hl1
  have HL2 := Lib.hid hl2
  clear hD hl1 hl2
  by_cases hnn : n1 = n2
  · subst hnn
    go_enter Tryd.func19, Tryd.ntmps19
    go_wp2
    go_loopw [5, 13] (fun _ i wr => ∃ k : Nat, k ≤ n1 ∧ i = .int .i64 k ∧ RowKit.Below w.heap.size w wr ∧ Hid (xs.take k = ys.take k)) (fun _ i _ => n1 - (intOf i).toNat)
    case atStart => exact ⟨0, Nat.zero_le _, rfl, RowKit.Below.refl _ _, by show xs.take 0 = ys.take 0; simp⟩
    case round =>
      obtain ⟨k, hk, rfl, hb, hT⟩ := hrel
      by_cases hlt : k < n1
      · have hk1 : k < xs.length := by rw [HL1.out]; exact hlt
        have hk2 : k < ys.length := by rw [HL2.out]; exact hlt
        obtain ⟨b1, o1, rfl, hl1, x0, x1⟩ := (h1.below hb).id hk1
        obtain ⟨b2, o2, rfl, hl2, y0, y1⟩ := (h2.below hb).id hk2
        have hw1 : b1 < wr.heap.size := Nat.lt_of_lt_of_le hl1 hb.size
        have hw2 : b2 < wr.heap.size := Nat.lt_of_lt_of_le hl2 hb.size
        have hE := neqId xs[k] ys[k]
        have K1 : Hid (decide (xs[k] = ys[k]) = false → D = false) := fun he => by
          rw [← HD.out]
          refine decide_eq_false fun h => ?_
          subst h
          exact absurd rfl (of_decide_eq_false he)
        have K2 : Hid (decide (xs[k] = ys[k]) = true → xs.take (k + 1) = ys.take (k + 1)) := fun he => by
          rw [List.take_succ_eq_append_getElem hk1, List.take_succ_eq_append_getElem hk2, hT.out, of_decide_eq_true he]
        generalize xs[k] = x at x0 x1 K1 K2 hE
        generalize ys[k] = y at y0 y1 K1 K2 hE
        have p0 := later_cell (w0 := wr) (b := b1) hw1 x0
        have p1 := later_cell (w0 := wr) (b := b1) hw1 x1
        have q0 := later_cell (w0 := wr) (b := b2) hw2 y0
        have q1 := later_cell (w0 := wr) (b := b2) hw2 y1
        clear x0 x1 y0 y1
        generalize decide (x = y) = de at hE K1 K2
        cases de with
        | false =>
          have HR : Hid (D = false) := K1.out rfl
          go_wp2_with fail
          refine wp_region_later mixed (by kernel_rfl) ?_
          repeat (go_big_quiet_step (fail))
          refine wpQuiet_nil ?_
          intro _ hw'
          obtain ⟨p, rfl⟩ := hw'
          have hbp : RowKit.Below w.heap.size w p.w := hb.trans (p.hb.mono hb.size)
          go_wp2
          go_ret
          rw [HR.out]
          exact ⟨rfl, hbp⟩
        | true =>
          have HN : Hid (xs.take (k + 1) = ys.take (k + 1)) := K2.out rfl
          go_wp2_with fail
          refine wp_region_later mixed (by kernel_rfl) ?_
          repeat (go_big_quiet_step (fail))
          refine wpQuiet_nil ?_
          intro _ hw'
          obtain ⟨p, rfl⟩ := hw'
          have hbp : RowKit.Below w.heap.size w p.w := hb.trans (p.hb.mono hb.size)
          go_wp2
          go_roundw
          case rel => exact ⟨k + 1, by omega, by go_num, hbp, HN⟩
          case measure => simp [intOf]; omega
      · have HR : Hid (D = true) := by
          show D = true
          rw [← HD.out]
          refine decide_eq_true ?_
          have := hT.out
          rwa [List.take_of_length_le (by rw [HL1.out]; omega), List.take_of_length_le (by rw [HL2.out]; omega)] at this
        go_wp2
        go_ret
        rw [HR.out]
        exact ⟨rfl, hb⟩
  · have HR : Hid (D = false) := by
      show D = false
      rw [← HD.out]
      refine decide_eq_false fun h => hnn ?_
      rw [← HL1.out, ← HL2.out, h]
    have hz : ((n1 : Int) == (n2 : Int)) = false := beq_eq_false_iff_ne.2 (by omega)
    go_enter Tryd.func19, Tryd.ntmps19
    go_wp2
    go_ret
    rw [HR.out]
    exact ⟨rfl, RowKit.Below.refl _ _⟩

theorem refLength_any (s k a : Int) (w : World) : Calls Tryd.prog 38 #[.int .i64 s, .int .i64 k, .int .i64 a] w fun e w' => e = .returned (.int .i64 (lenZ s k a : Int)) ∧ w' = w := by
  have hC := refCount_any s k w
  by_cases h1 : a < 0
  · rw [lenZ_no (by unfold There; omega)]
    have d1 : decide (a < 0) = true := by simpa using h1
    go_enter Tryd.func38, Tryd.ntmps38
    go_wp2_with (go_at_call 37; refine hC.mono ?_; rintro e w' ⟨rfl, rfl⟩)
    go_ret
    exact ⟨rfl, rfl⟩
  by_cases h2 : a < (cntZ s k : Int)
  · have hT : There s k a := ⟨by omega, h2⟩
    obtain ⟨n, m, i, rfl, rfl, rfl, hn, hm, hm2, hi⟩ := there_nat hT
    rw [cntZ_yes hn hm hm2] at hC
    have hcl : cntN n m ≤ 1048577 := by have := cntN_le n m; omega
    by_cases hf : i + 1 < cntN n m
    · rw [lenZ_full hn hm hm2 hf]
      clear hT h1 h2
      have d2 : decide ((i : Int) < 0) = false := by simp
      have d3 : decide ((cntN n m : Int) ≤ (i : Int)) = false := by simp; omega
      have d4 : (i : Int) < (cntN n m : Int) - 1 := by omega
      go_enter Tryd.func38, Tryd.ntmps38
      go_wp2_with (go_at_call 37; refine hC.mono ?_; rintro e w' ⟨rfl, rfl⟩)
      go_ret
      exact ⟨rfl, rfl⟩
    · have hl : i + 1 = cntN n m := by omega
      have HE : Hid ((lenZ (n : Int) (m : Int) (i : Int) : Int) = (n : Int) - (m : Int) * ((cntN n m : Int) - 1)) := by
        show _ = _
        have h5 := cntN_mul hm hi
        rw [lenZ_last hn hm hm2 hl, ← hl]
        rw [show (((i + 1 : Nat) : Int) - 1) = (i : Int) by omega, Int.mul_comm]
        omega
      have HX : Hid (0 ≤ (m : Int) * ((cntN n m : Int) - 1) ∧ (m : Int) * ((cntN n m : Int) - 1) ≤ n) := by
        show _ ∧ _
        have h5 := cntN_mul hm hi
        rw [← hl, show (((i + 1 : Nat) : Int) - 1) = (i : Int) by omega, Int.mul_comm]
        omega
      obtain ⟨x1, x2⟩ := HX.out
      rw [HE.out]
      clear HE HX hT h1 h2
      have d2 : decide ((i : Int) < 0) = false := by simp
      have d3 : decide ((cntN n m : Int) ≤ (i : Int)) = false := by simp; omega
      go_enter Tryd.func38, Tryd.ntmps38
      go_wp2_with (go_at_call 37; refine hC.mono ?_; rintro e w' ⟨rfl, rfl⟩)
      go_ret
      exact ⟨rfl, rfl⟩
  · rw [lenZ_no (by unfold There; omega)]
    have d1 : decide (a < 0) = false := by simpa using h1
    have d2 : decide ((cntZ s k : Int) ≤ a) = true := by simp; omega
    go_enter Tryd.func38, Tryd.ntmps38
    go_wp2_with (go_at_call 37; refine hC.mono ?_; rintro e w' ⟨rfl, rfl⟩)
    go_ret
    exact ⟨rfl, rfl⟩

set_option maxRecDepth 100000 in
set_option maxHeartbeats 3200000 in
theorem refRight_any (F : Fr) (cs : Array Value) (k most : Int) (w : World) (hF : FrL w F cs) (hw : F.Wf) :
    Calls Tryd.prog 25 #[.agg cs, .int .i64 k, .int .i64 most] w fun e w' => e = .returned (.bool (rightZ F k most)) ∧ RowKit.Below w.heap.size w w' := by
  have HB : Hid (RowKit.Below w.heap.size w (w.alloc (.cells cs 41))) := (RowKit.Below.refl _ _).alloc (Nat.le_refl _) _
  obtain ⟨A1, c1, A2, c2, A3, c3, A4, c4, A5, c5, -, -, -, -, x5⟩ := hF.sls
  obtain ⟨-, -, -, -, -, -, x6, x7, x8, -, -⟩ := hF.at_
  have hC := fun W => refCount_any (F.size : Int) k W
  have hL := fun W => refLength_any (F.size : Int) k (F.at_ : Int) W
  have w1 := hw.at_
  have w2 := hw.of_
  have w3 := hw.size
  unfold rightZ
  clear hw hF
  generalize F.data.length = n5 at *
  generalize F.at_ = at' at *
  generalize F.of_ = of' at *
  generalize F.size = sz at *
  generalize lenZ (sz : Int) k (at' : Int) = lz at *
  generalize cntZ (sz : Int) k = cz at *
  have ew1 : IntKind.i64.wrap (of' : Int) = (of' : Int) := by rw [IntKind.wrap_i64]; omega
  have ew2 : IntKind.i64.wrap (at' : Int) = (at' : Int) := by rw [IntKind.wrap_i64]; omega
  have ew3 : IntKind.i64.wrap (sz : Int) = (sz : Int) := by rw [IntKind.wrap_i64]; omega
  by_cases h1 : (sz : Int) ≤ most
  case neg =>
    rw [show (decide ((sz : Int) ≤ most) && decide ((of' : Int) = (cz : Int)) && decide (at' < of') && decide ((n5 : Int) = (lz : Int))) = false by simp [h1]]
    have d1 : decide (most < (sz : Int)) = true := by simp; omega
    clear h1
    go_enter Tryd.func25, Tryd.ntmps25
    go_wp2_with (go_at_call 37; refine (hC _).mono ?_; rintro e w' ⟨rfl, rfl⟩)
    go_ret
    exact ⟨rfl, HB.out⟩
  have d1 : decide (most < (sz : Int)) = false := by simp; omega
  by_cases h2 : of' = cz
  case neg =>
    rw [show (decide ((sz : Int) ≤ most) && decide ((of' : Int) = (cz : Int)) && decide (at' < of') && decide ((n5 : Int) = (lz : Int))) = false by rw [decide_eq_false (show ¬ (of' : Int) = (cz : Int) by omega), Bool.and_false, Bool.false_and, Bool.false_and]]
    have d2 : ((of' : Int) != (cz : Int)) = true := by rw [bne_iff_ne]; omega
    clear h1 h2
    go_enter Tryd.func25, Tryd.ntmps25
    go_wp2_with (go_at_call 37; refine (hC _).mono ?_; rintro e w' ⟨rfl, rfl⟩)
    go_ret
    exact ⟨rfl, HB.out⟩
  have d2 : ((of' : Int) != (cz : Int)) = false := by rw [bne_eq_false_iff_eq]; omega
  by_cases h3 : at' < of'
  case neg =>
    rw [show (decide ((sz : Int) ≤ most) && decide ((of' : Int) = (cz : Int)) && decide (at' < of') && decide ((n5 : Int) = (lz : Int))) = false by simp [h3]]
    have d3 : decide (cz ≤ at') = true := by simp; omega
    clear h1 h2 h3
    go_enter Tryd.func25, Tryd.ntmps25
    go_wp2_with (go_at_call 37; refine (hC _).mono ?_; rintro e w' ⟨rfl, rfl⟩)
    go_ret
    exact ⟨rfl, HB.out⟩
  have d3 : decide (cz ≤ at') = false := by simp; omega
  rw [show (decide ((sz : Int) ≤ most) && decide ((of' : Int) = (cz : Int)) && decide (at' < of') && decide ((n5 : Int) = (lz : Int))) = ((n5 : Int) == (lz : Int)) by rw [decide_eq_true h1, decide_eq_true (show (of' : Int) = (cz : Int) by omega), decide_eq_true h3]; rfl]
  clear h1 h2 h3
  go_enter Tryd.func25, Tryd.ntmps25
  go_wp2_with (go_at_call 37; refine (hC _).mono ?_; rintro e w' ⟨rfl, rfl⟩)
  go_quiet (first | (go_at_call 38; exact Calls.quiet_of_same (hL _)) | fail)
  go_wp2
  go_ret
  exact ⟨rfl, below_drewN HB.out _⟩

end Go.Proofs.YthkongnjokmmfaaDoor
