/- RingSteps: for every number of processes, every two of them and every list of those that are skipped the call returns true (there and back is once round, or nothing; and what comes on a way comes farther and farther), and changes nothing that was there. No conditions. -/
import Derived.Test.YtjpahccpkonjkaaRnE
import Derived.ChangeOld
namespace Go.Proofs.Ytjpahccpkonjkaa
open Go.ChangeShapes Go.WideShapes Go.ChangeAt Go.RowKit

theorem ringSteps_many (n a b : Int) (A : Option Addr) (m c : Nat) (W : World) (hm : 100 < m) : Calls Try.prog 5 #[.int .i64 n, .int .i64 a, .int .i64 b, .slice A m c] W fun e w' => e = .returned (.bool true) ∧ Below W.heap.size W w' := by
  have hA := awake_any W
  have hd : decide ((100 : Int) < (m : Int)) = true := by simp; omega
  go_enter Try.func5, Try.ntmps5
  go_wp2_with fail
  refine hA.mono ?_
  rintro e w' ⟨rfl, hb⟩
  go_wp2_with fail
  go_ret
  exact ⟨rfl, hb⟩

theorem ringSteps_out (n a b : Int) (A : Option Addr) (m c : Nat) (W : World) (hm : m ≤ 100) (h : ¬ (n ≤ 64 ∧ 0 ≤ a ∧ a < n) ∨ ¬ (n ≤ 64 ∧ 0 ≤ b ∧ b < n)) : Calls Try.prog 5 #[.int .i64 n, .int .i64 a, .int .i64 b, .slice A m c] W fun e w' => e = .returned (.bool true) ∧ Below W.heap.size W w' := by
  have hA := awake_any W
  have hd : decide ((100 : Int) < (m : Int)) = false := by simp; omega
  by_cases h1 : n ≤ 64 ∧ 0 ≤ a ∧ a < n
  · have h2 := h.resolve_left (fun h => h h1)
    obtain ⟨n', rfl⟩ := Int.eq_ofNat_of_zero_le (show 0 ≤ n by omega)
    obtain ⟨a', rfl⟩ := Int.eq_ofNat_of_zero_le h1.2.1
    have H1 := fun W => of_yes n' a' (by omega) (by omega) W
    have H2 := fun W => of_no n' b h2 W
    clear h h1 h2
    go_enter Try.func5, Try.ntmps5
    go_wp2_with fail
    refine (H1 _).mono ?_
    rintro e w' ⟨rfl, rfl⟩
    go_wp2_with fail
    refine (H2 _).mono ?_
    rintro e w' ⟨rfl, rfl⟩
    go_wp2_with fail
    refine hA.mono ?_
    rintro e w' ⟨rfl, hb⟩
    go_wp2_with fail
    go_ret
    exact ⟨rfl, hb⟩
  · have H1 := fun W => of_no n a h1 W
    clear h h1
    go_enter Try.func5, Try.ntmps5
    go_wp2_with fail
    refine (H1 _).mono ?_
    rintro e w' ⟨rfl, rfl⟩
    go_wp2_with fail
    refine hA.mono ?_
    rintro e w' ⟨rfl, hb⟩
    go_wp2_with fail
    go_ret
    exact ⟨rfl, hb⟩

/-- A call that changes nothing, inside a drawn region. -/
theorem later_same {P : Program} {f : FuncId} {args : Array Value} {w0 : World} {p : Later w0} {v : Value} (h : Calls P f args p.w fun e w' => e = .returned v ∧ p.w = w') : Calls P f args p.w fun e w'' => e = .returned v ∧ ∃ q : Later w0, w'' = q.w :=
  h.mono fun _ _ ⟨he, hw⟩ => ⟨he, p, hw.symm⟩

set_option maxRecDepth 20000 in
set_option maxHeartbeats 3200000 in
theorem ringSteps_walk (n a b : Nat) (ha : a < n) (hb : b < n) (hn : n ≤ 64) (A : Option Addr) (m c : Nat) (l : List Int) (W : World) (hl : l.length = m) (hL : Lies W W.heap.size A (zvs l)) (hm : m ≤ 100) : Calls Try.prog 5 #[.int .i64 (n : Int), .int .i64 (a : Int), .int .i64 (b : Int), .slice A m c] W fun e w' => e = .returned (.bool true) ∧ Below W.heap.size W w' := by
  have mixed := mixedOrders
  have HA := Lib.hid (fun W => awake_any W)
  have h1 := of_yes n a ha hn W
  have h2 := of_yes n b hb hn W
  have s1 := steps_any n a b ha hb hn W
  have s2 := steps_any n b a hb ha hn W
  have HS := Lib.hid (fun (q : Nat) (hq : q < n) W => steps_any n a q ha hq hn W)
  obtain ⟨L, HW, HM, HF, HN⟩ : ∃ L : List Nat, Hid (Calls Try.prog 10 #[.int .i64 (n : Int), .int .i64 (a : Int), .slice A m c] W fun e w' => OwnedK W W.heap.size L e w') ∧ Hid (∀ x ∈ L, x < n ∧ x ≠ a) ∧
      Hid (∀ i, (hi : i + 1 < L.length) → stpR n a L[i] < stpR n a L[i + 1]) ∧ Hid (L.length ≤ n - 1) :=
    ⟨wayR n a l (n - 1), way_any n a ha hn A m c l W hl (by omega) hL, way_mem ha (by omega), fun i hi => way_farther ha (by omega) hi, way_len⟩
  have hd : decide ((100 : Int) < (m : Int)) = false := by simp; omega
  clear hl hL hm
  by_cases h : a = b
  · subst h
    rw [stp_self] at s1 s2
    have e0 : ((a : Int) == (a : Int)) = true := by simp
    have e1 : ((a : Int) != (a : Int)) = false := by simp
    go_enter Try.func5, Try.ntmps5
    go_wp2_with fail
    refine h1.mono ?_
    rintro e w' ⟨rfl, rfl⟩
    go_wp2_with fail
    refine h2.mono ?_
    rintro e w' ⟨rfl, rfl⟩
    go_wp2_with fail
    refine s1.mono ?_
    rintro e w' ⟨rfl, rfl⟩
    go_wp2_with fail
    refine s2.mono ?_
    rintro e w' ⟨rfl, rfl⟩
    clear h1 h2 s1 s2
    go_wp2_with fail
    refine HW.out.mono ?_
    rintro e w1 ⟨A1, j, c1, rfl, hj, hc1, hc2, ho, hb1⟩
    have HO := Lib.hid (Lies.of_own ho)
    have HB1 := Lib.hid hb1
    have hj64 : j ≤ 64 := by have := HN.out; have := hj.out; omega
    clear ho hb1 HW
    go_wp2_with fail
    go_loopw [11] (fun s11 wr => ∃ i : Nat, s11 = .int .i64 (i : Int) ∧ i ≤ j ∧ Hid (Below w1.heap.size w1 wr)) (fun s11 _ => j - (Lib.intOf s11).toNat)
    case atStart => exact ⟨0, rfl, Nat.zero_le _, Below.refl _ _⟩
    case round =>
      obtain ⟨i, rfl, hi, HB⟩ := hrel
      by_cases hij : i < j
      · have hil : i < L.length := by rw [hj.out]; exact hij
        obtain ⟨g, off, rfl, hlt, hc⟩ := HO.out.at_ (kvs_at hil)
        have x0 := later_cell (w0 := wr) (Nat.lt_of_lt_of_le hlt HB.out.size) ((HB.out.cell (p := ⟨g, off + i, none⟩) hlt).trans hc)
        obtain ⟨hxn, hxa⟩ := HM.out L[i] (List.getElem_mem hil)
        have hne : ((L[i] : Int) == (a : Int)) = false := by simp; omega
        by_cases hi0 : i = 0
        · have hg : decide ((0 : Int) < (i : Int)) = false := by simp; omega
          have hg2 : decide (0 < i) = false := by simp; omega
          generalize L[i] = x at x0 hne
          clear hc hxn hxa hil hi0
          go_wp2_with fail
          refine wp_region_later mixed (by kernel_rfl) ?_
          repeat (go_big_quiet_step (fail))
          refine wpQuiet_nil ?_
          intro _ hw'
          obtain ⟨p, rfl⟩ := hw'
          have HB2 := Lib.hid (HB.out.trans (p.hb.mono HB.out.size))
          clear x0 HB
          go_wp2_with fail
          exact ⟨⟨i + 1, by go_num, hij, HB2⟩, by simp [Lib.intOf]; omega⟩
        · obtain ⟨q, hq⟩ : ∃ q, i = q + 1 := ⟨i - 1, by omega⟩
          have hg : decide ((0 : Int) < (i : Int)) = true := by simp; omega
          have hg2 : decide (0 < i) = true := by simp; omega
          have hql : q + 1 < L.length := by omega
          have hlt2 : stpR n a L[q] < stpR n a L[i] := by subst hq; exact HF.out q hql
          obtain ⟨g', off', eA, -, hc'⟩ := HO.out.at_ (kvs_at (show q < L.length by omega))
          injection eA with eA
          injection eA with e4 e5
          subst e4 e5
          have y0 := later_cell (w0 := wr) (Nat.lt_of_lt_of_le hlt HB.out.size) ((HB.out.cell (p := ⟨g, off + q, none⟩) hlt).trans hc')
          obtain ⟨hyn, -⟩ := HM.out L[q] (List.getElem_mem _)
          have hs1 := HS.out L[q] hyn
          have hs2 := HS.out L[i] hxn
          have hge : decide (stpR n a L[i] ≤ stpR n a L[q]) = false := by simp; omega
          have hsub : (i : Int) - 1 = (q : Int) := by omega
          have hqj : q < j := by omega
          generalize stpR n a L[q] = t1 at hs1 hge
          generalize stpR n a L[i] = t2 at hs2 hge
          generalize L[q] = y at y0 hs1
          generalize L[i] = x at x0 hne hs2
          clear hc hc' hxn hxa hil hyn hlt2 hi0 hq hql
          go_wp2_with fail
          refine wp_region_later mixed (by kernel_rfl) ?_
          iterate 18 (go_big_quiet_step (first | (go_at_call 12; exact later_same (hs1 _))))
          repeat (go_big_quiet_step (first | (go_at_call 12; exact later_same (hs2 _))))
          refine wpQuiet_nil ?_
          intro _ hw'
          obtain ⟨p, rfl⟩ := hw'
          have HB2 := Lib.hid (HB.out.trans (p.hb.mono HB.out.size))
          clear x0 y0 HB hs1 hs2
          go_wp2_with fail
          exact ⟨⟨i + 1, by go_num, hij, HB2⟩, by simp [Lib.intOf]; omega⟩
      · have hA := HA.out wr
        go_wp2_with fail
        refine hA.mono ?_
        rintro e w' ⟨rfl, hb⟩
        have HB2 := Lib.hid (HB1.out.trans ((HB.out.trans (hb.mono HB.out.size)).mono HB1.out.size))
        clear hb
        go_wp2_with fail
        go_ret
        exact ⟨rfl, HB2.out⟩
  · have e0 : ((a : Int) == (b : Int)) = false := by simp; omega
    have e1 : ((a : Int) != (b : Int)) = true := by simp; omega
    have hsum := stp_both ha hb h
    generalize stpR n a b = x at s1 hsum
    generalize stpR n b a = y at s2 hsum
    have e2 : ((x : Int) + (y : Int) == (n : Int)) = true := by simp; omega
    have e3 : ((x : Int) + (y : Int) != (n : Int)) = false := by simp; omega
    clear h
    go_enter Try.func5, Try.ntmps5
    go_wp2_with fail
    refine h1.mono ?_
    rintro e w' ⟨rfl, rfl⟩
    go_wp2_with fail
    refine h2.mono ?_
    rintro e w' ⟨rfl, rfl⟩
    go_wp2_with fail
    refine s1.mono ?_
    rintro e w' ⟨rfl, rfl⟩
    go_wp2_with fail
    refine s2.mono ?_
    rintro e w' ⟨rfl, rfl⟩
    clear h1 h2 s1 s2
    go_wp2_with fail
    refine HW.out.mono ?_
    rintro e w1 ⟨A1, j, c1, rfl, hj, hc1, hc2, ho, hb1⟩
    have HO := Lib.hid (Lies.of_own ho)
    have HB1 := Lib.hid hb1
    have hj64 : j ≤ 64 := by have := HN.out; have := hj.out; omega
    clear ho hb1 HW
    go_wp2_with fail
    go_loopw [11] (fun s11 wr => ∃ i : Nat, s11 = .int .i64 (i : Int) ∧ i ≤ j ∧ Hid (Below w1.heap.size w1 wr)) (fun s11 _ => j - (Lib.intOf s11).toNat)
    case atStart => exact ⟨0, rfl, Nat.zero_le _, Below.refl _ _⟩
    case round =>
      obtain ⟨i, rfl, hi, HB⟩ := hrel
      by_cases hij : i < j
      · have hil : i < L.length := by rw [hj.out]; exact hij
        obtain ⟨g, off, rfl, hlt, hc⟩ := HO.out.at_ (kvs_at hil)
        have x0 := later_cell (w0 := wr) (Nat.lt_of_lt_of_le hlt HB.out.size) ((HB.out.cell (p := ⟨g, off + i, none⟩) hlt).trans hc)
        obtain ⟨hxn, hxa⟩ := HM.out L[i] (List.getElem_mem hil)
        have hne : ((L[i] : Int) == (a : Int)) = false := by simp; omega
        by_cases hi0 : i = 0
        · have hg : decide ((0 : Int) < (i : Int)) = false := by simp; omega
          have hg2 : decide (0 < i) = false := by simp; omega
          generalize L[i] = x at x0 hne
          clear hc hxn hxa hil hi0
          go_wp2_with fail
          refine wp_region_later mixed (by kernel_rfl) ?_
          repeat (go_big_quiet_step (fail))
          refine wpQuiet_nil ?_
          intro _ hw'
          obtain ⟨p, rfl⟩ := hw'
          have HB2 := Lib.hid (HB.out.trans (p.hb.mono HB.out.size))
          clear x0 HB
          go_wp2_with fail
          exact ⟨⟨i + 1, by go_num, hij, HB2⟩, by simp [Lib.intOf]; omega⟩
        · obtain ⟨q, hq⟩ : ∃ q, i = q + 1 := ⟨i - 1, by omega⟩
          have hg : decide ((0 : Int) < (i : Int)) = true := by simp; omega
          have hg2 : decide (0 < i) = true := by simp; omega
          have hql : q + 1 < L.length := by omega
          have hlt2 : stpR n a L[q] < stpR n a L[i] := by subst hq; exact HF.out q hql
          obtain ⟨g', off', eA, -, hc'⟩ := HO.out.at_ (kvs_at (show q < L.length by omega))
          injection eA with eA
          injection eA with e4 e5
          subst e4 e5
          have y0 := later_cell (w0 := wr) (Nat.lt_of_lt_of_le hlt HB.out.size) ((HB.out.cell (p := ⟨g, off + q, none⟩) hlt).trans hc')
          obtain ⟨hyn, -⟩ := HM.out L[q] (List.getElem_mem _)
          have hs1 := HS.out L[q] hyn
          have hs2 := HS.out L[i] hxn
          have hge : decide (stpR n a L[i] ≤ stpR n a L[q]) = false := by simp; omega
          have hsub : (i : Int) - 1 = (q : Int) := by omega
          have hqj : q < j := by omega
          generalize stpR n a L[q] = t1 at hs1 hge
          generalize stpR n a L[i] = t2 at hs2 hge
          generalize L[q] = y at y0 hs1
          generalize L[i] = x at x0 hne hs2
          clear hc hc' hxn hxa hil hyn hlt2 hi0 hq hql
          go_wp2_with fail
          refine wp_region_later mixed (by kernel_rfl) ?_
          iterate 18 (go_big_quiet_step (first | (go_at_call 12; exact later_same (hs1 _))))
          repeat (go_big_quiet_step (first | (go_at_call 12; exact later_same (hs2 _))))
          refine wpQuiet_nil ?_
          intro _ hw'
          obtain ⟨p, rfl⟩ := hw'
          have HB2 := Lib.hid (HB.out.trans (p.hb.mono HB.out.size))
          clear x0 y0 HB hs1 hs2
          go_wp2_with fail
          exact ⟨⟨i + 1, by go_num, hij, HB2⟩, by simp [Lib.intOf]; omega⟩
      · have hA := HA.out wr
        go_wp2_with fail
        refine hA.mono ?_
        rintro e w' ⟨rfl, hb⟩
        have HB2 := Lib.hid (HB1.out.trans ((HB.out.trans (hb.mono HB.out.size)).mono HB1.out.size))
        clear hb
        go_wp2_with fail
        go_ret
        exact ⟨rfl, HB2.out⟩

theorem own : ownKnob Try.prog.godebug = none := by kernel_rfl
theorem laidOut : laidOutB Try.prog = true := by kernel_rfl

set_option maxRecDepth 100000 in
theorem ringSteps_lifted (os : Os) (started : os.Started) (H : Type) (enc : TypeId × Value → H) :
    ReturnsInHanded {} Try.checked os 5 .any (Rows.ringStepsSpec.pre6 enc Try.prog Try.f5 Rows.ringStepsRow.domain false) (Rows.ringStepsSpec.post enc Try.prog Try.f5 false true false false) := by
  refine returnsInHanded_of_change (C := Try.checked) own started (by kernel_rfl) Try.func5
    (ChangeSpec.witness6 (enc := enc) (C := Try.checked) false ⟨#[], #[.int .i64 0, .int .i64 0, .int .i64 0, .slice none 0 0], []⟩ 8 (by kernel_rfl) (by kernel_rfl) (by kernel_rfl) (by kernel_rfl)) ?_
  intro W base args ds gs before hval0 hW _ _
  have hval : ∀ (j : Nat) t v, Try.f5.params[j]? = some t → args[j]? = some v → Value.okWide Try.prog W .any base t v := hval0
  have hW' := hW
  obtain ⟨p, q, hA0, hV, rfl, _, _⟩ := hW
  have hA : DataW.TrodAll enc Try.prog W 0 (fun _ => true) true Try.f5.params.toList args.toList ds p := hA0
  rw [Try.params5] at hA hval
  obtain ⟨v0, vs0, d0, ds0, p0, q0, hargs, rfl, rfl, h0, r0⟩ := trodAll_cons hA
  obtain ⟨v1, vs1, d1, ds1, p1, q1, rfl, rfl, rfl, h1, r1⟩ := trodAll_cons r0
  obtain ⟨v2, vs2, d2, ds2, p2, q2, rfl, rfl, rfl, h2, r2⟩ := trodAll_cons r1
  obtain ⟨v3, vs3, d3, ds3, p3, q3, rfl, rfl, rfl, h3, r3⟩ := trodAll_cons r2
  obtain ⟨rfl, rfl, rfl⟩ := trodAll_nil r3
  obtain rfl : args = #[v0, v1, v2, v3] := by cases args; simp_all
  obtain ⟨rfl, rfl⟩ := trodVars_none hV
  have k0 := h0
  have lt0 : ∀ x ∈ p0, x.block < W.heap.size := by obtain ⟨m, hm⟩ := k0; exact DataW.trod_lt m _ _ _ hm
  have k1 := h1
  have lt1 : ∀ x ∈ p1, x.block < W.heap.size := by obtain ⟨m, hm⟩ := k1; exact DataW.trod_lt m _ _ _ hm
  have k2 := h2
  have lt2 : ∀ x ∈ p2, x.block < W.heap.size := by obtain ⟨m, hm⟩ := k2; exact DataW.trod_lt m _ _ _ hm
  have k3 := h3
  have lt3 : ∀ x ∈ p3, x.block < W.heap.size := by obtain ⟨m, hm⟩ := k3; exact DataW.trod_lt m _ _ _ hm
  obtain ⟨a0, rfl, _, _, _⟩ := open_int Try.underlying3 (hval 0 3 v0 rfl rfl) h0
  obtain ⟨a1, rfl, _, _, _⟩ := open_int Try.underlying3 (hval 1 3 v1 rfl rfl) h1
  obtain ⟨a2, rfl, _, _, _⟩ := open_int Try.underlying3 (hval 2 3 v2 rfl rfl) h2
  have hwalk : Calls Try.prog 5 #[.int .i64 a0, .int .i64 a1, .int .i64 a2, v3] W fun e w' => e = .returned (.bool true) ∧ Below W.heap.size W w' := by
    obtain ⟨x3, len3, cap3, rfl⟩ := okWide_slice Try.underlying22 (hval 3 22 v3 rfl rfl)
    obtain ⟨fuel3, hf3⟩ := h3
    obtain ⟨l, A, n, c, hv, hl, _, _, hL⟩ := open_zs Try.underlying22 Try.underlying3 (by kernel_rfl) (by simpa [Value.cells] using hf3)
    injection hv with e1 e2 e3
    subst e1 e2 e3
    by_cases hm : 100 < len3
    · exact ringSteps_many a0 a1 a2 x3 len3 cap3 W hm
    · by_cases hr : (a0 ≤ 64 ∧ 0 ≤ a1 ∧ a1 < a0) ∧ (a0 ≤ 64 ∧ 0 ≤ a2 ∧ a2 < a0)
      · obtain ⟨n', rfl⟩ := Int.eq_ofNat_of_zero_le (show 0 ≤ a0 by omega)
        obtain ⟨a', rfl⟩ := Int.eq_ofNat_of_zero_le hr.1.2.1
        obtain ⟨b', rfl⟩ := Int.eq_ofNat_of_zero_le hr.2.2.1
        exact ringSteps_walk n' a' b' (by omega) (by omega) (by omega) x3 len3 cap3 l W hl hL (by omega)
      · exact ringSteps_out a0 a1 a2 x3 len3 cap3 W (by omega) (Decidable.not_and_iff_or_not.1 hr)
  clear hA0 hval0
  refine hwalk.mono fun e W' ⟨he, bel⟩ => ?_
  subst he
  exact ⟨_, rfl, _, _, _, [], _, [], hW', trodAll_mk1 (shut_bool Try.underlying4 _), (trodAll_cons_mk (Below.trod laidOut (by kernel_rfl) (of_decide_eq_true (by kernel_rfl)) k0 bel lt0) (trodAll_cons_mk (Below.trod laidOut (by kernel_rfl) (of_decide_eq_true (by kernel_rfl)) k1 bel lt1) (trodAll_cons_mk (Below.trod laidOut (by kernel_rfl) (of_decide_eq_true (by kernel_rfl)) k2 bel lt2) (trodAll_cons_mk (Below.trod laidOut (by kernel_rfl) (of_decide_eq_true (by kernel_rfl)) k3 bel lt3) trodAll_mk0)))), rfl, bel.frame _, fun h => by cases h⟩

theorem ringSteps_proved : Rows.RingStepsSaid :=
  OpenClaim.holds_of_wide 5 Try.f5 rfl rfl rfl rfl rfl rfl rfl ⟨rfl, rfl, rfl, rfl, rfl⟩ rfl rfl rfl rfl rfl (by kernel_rfl) Try.func5 (by kernel_rfl)
    (of_decide_eq_true (by kernel_rfl)) (by unfold Func.isWrapper; first | (rw [if_pos (by decide +kernel)]; kernel_rfl) | (rw [if_neg (by decide +kernel)]; exact ⟨rfl, rfl⟩))
    (fun os started H enc _ => ringSteps_lifted os started H enc)

end Go.Proofs.Ytjpahccpkonjkaa
