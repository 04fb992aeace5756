/- RingRound: for every number of processes, every two of them and every list of those that are skipped the call returns true (who isn't skipped is come to from any other such one, by going on, within n steps; each on the way once), and changes nothing that was there. No conditions. -/
import Derived.Test.YtjpahccpkonjkaaRnE
import Derived.ChangeOld
namespace Go.Proofs.Ytjpahccpkonjkaa
open Go.ChangeShapes Go.WideShapes Go.ChangeAt Go.RowKit

theorem ringRound_many (n a b : Int) (A : Option Addr) (m c : Nat) (W : World) (hm : 100 < m) : Calls Try.prog 4 #[.int .i64 n, .int .i64 a, .int .i64 b, .slice A m c] W fun e w' => e = .returned (.bool true) ∧ Below W.heap.size W w' := by
  have hA := awake_any W
  have hd : decide ((100 : Int) < (m : Int)) = true := by simp; omega
  go_enter Try.func4, Try.ntmps4
  go_wp2_with fail
  refine hA.mono ?_
  rintro e w' ⟨rfl, hb⟩
  go_wp2_with fail
  go_ret
  exact ⟨rfl, hb⟩

theorem ringRound_out (n a b : Int) (A : Option Addr) (m c : Nat) (W : World) (hm : m ≤ 100) (h : ¬ (n ≤ 64 ∧ 0 ≤ a ∧ a < n) ∨ ¬ (n ≤ 64 ∧ 0 ≤ b ∧ b < n)) : Calls Try.prog 4 #[.int .i64 n, .int .i64 a, .int .i64 b, .slice A m c] W fun e w' => e = .returned (.bool true) ∧ Below W.heap.size W w' := by
  have hA := awake_any W
  have hd : decide ((100 : Int) < (m : Int)) = false := by simp; omega
  by_cases h1 : n ≤ 64 ∧ 0 ≤ a ∧ a < n
  · have h2 := h.resolve_left (fun h => h h1)
    obtain ⟨n', rfl⟩ := Int.eq_ofNat_of_zero_le (show 0 ≤ n by omega)
    obtain ⟨a', rfl⟩ := Int.eq_ofNat_of_zero_le h1.2.1
    have H1 := fun W => of_yes n' a' (by omega) (by omega) W
    have H2 := fun W => of_no n' b h2 W
    clear h h1 h2
    go_enter Try.func4, Try.ntmps4
    go_wp2_with fail
    refine (H1 _).mono ?_
    rintro e w' ⟨rfl, rfl⟩
    go_wp2_with fail
    refine (H2 _).mono ?_
    rintro e w' ⟨rfl, rfl⟩
    go_wp2_with fail
    refine hA.mono ?_
    rintro e w' ⟨rfl, hb⟩
    go_wp2_with fail
    go_ret
    exact ⟨rfl, hb⟩
  · have H1 := fun W => of_no n a h1 W
    clear h h1
    go_enter Try.func4, Try.ntmps4
    go_wp2_with fail
    refine (H1 _).mono ?_
    rintro e w' ⟨rfl, rfl⟩
    go_wp2_with fail
    refine hA.mono ?_
    rintro e w' ⟨rfl, hb⟩
    go_wp2_with fail
    go_ret
    exact ⟨rfl, hb⟩

set_option maxRecDepth 20000 in
set_option maxHeartbeats 3200000 in
theorem ringRound_walk (n a b : Nat) (ha : a < n) (hb : b < n) (hn : n ≤ 64) (A : Option Addr) (m c : Nat) (l : List Int) (W : World) (hl : l.length = m) (hL : Lies W W.heap.size A (zvs l)) (hm : m ≤ 100) : Calls Try.prog 4 #[.int .i64 (n : Int), .int .i64 (a : Int), .int .i64 (b : Int), .slice A m c] W fun e w' => e = .returned (.bool true) ∧ Below W.heap.size W w' := by
  have HA := Lib.hid (fun W => awake_any W)
  have HL := Lib.hid hl
  have H := Lib.hid hL
  have HO := Lib.hid (fun (q : Nat) (hq : q < n) W => of_yes n q hq hn W)
  have HS := Lib.hid (fun (q : Nat) (hq : q < n) W => steps_any n q b hq hb hn W)
  have HX := Lib.hid (fun (q : Nat) (hq : q < n) V (hV : Below W.heap.size W V) => next_any n q hq hn A m c l V hl (by omega) (hL.on hV))
  have h1 := HO.out a ha
  have h2 := HO.out b hb
  have hd : decide ((100 : Int) < (m : Int)) = false := by simp; omega
  clear hl hL
  go_enter Try.func4, Try.ntmps4
  go_wp2_with fail
  refine (h1 _).mono ?_
  rintro e w' ⟨rfl, rfl⟩
  go_wp2_with fail
  refine (h2 _).mono ?_
  rintro e w' ⟨rfl, rfl⟩
  clear h1 h2
  go_wp2_with fail
  go_loopw [9] (fun s9 wr => ∃ i : Nat, s9 = .int .i64 (i : Int) ∧ i ≤ m ∧ Hid ((l.take i).contains (b : Int) = false) ∧ wr = W) (fun s9 _ => m - (Lib.intOf s9).toNat)
  case atStart => exact ⟨0, rfl, Nat.zero_le _, (by show _ = _; simp), rfl⟩
  case round =>
    obtain ⟨i, rfl, hi, HN, hw⟩ := hrel
    obtain rfl : W = wr := hw.symm
    by_cases him : i < m
    · have hil : i < l.length := by rw [HL.out]; exact him
      obtain ⟨g, off, rfl, -, hc⟩ := H.out.at_ (zvs_at hil)
      have HC := Lib.hid (contains_next (x := (b : Int)) hil)
      have hA := HA.out W
      generalize l[i] = x at hc HC
      clear hil
      cases q1 : (x == (a : Int)) with
      | true =>
        go_wp2_with fail
        refine hA.mono ?_
        rintro e w' ⟨rfl, hb⟩
        go_wp2_with fail
        go_ret
        exact ⟨rfl, hb⟩
      | false =>
        cases q2 : (x == (b : Int)) with
        | true =>
          go_wp2_with fail
          refine hA.mono ?_
          rintro e w' ⟨rfl, hb⟩
          go_wp2_with fail
          go_ret
          exact ⟨rfl, hb⟩
        | false =>
          have HN2 : Hid ((l.take (i + 1)).contains (b : Int) = false) := by show _ = _; rw [HC.out, HN.out, q2]; rfl
          go_wp2_with fail
          exact ⟨⟨i + 1, by go_num, him, HN2, trivial⟩, by simp [Lib.intOf]; omega⟩
    · have HNb : Hid (l.contains (b : Int) = false) := by
        show _ = _
        have := HN.out
        rwa [List.take_of_length_le (by rw [HL.out]; omega)] at this
      have hst := stp_lt ha hb
      clear HN H HL
      go_wp2_with fail
      go_loopw [10, 11, 12] (fun s10 s11 _ wz => ∃ q i : Nat, s10 = .int .i64 (q : Int) ∧ s11 = .int .i64 (i : Int) ∧ q < n ∧ Hid (i + stpR n q b < n) ∧ Hid (Below W.heap.size W wz)) (fun s10 _ _ _ => stpR n (Lib.intOf s10).toNat b)
      case atStart => exact ⟨a, 0, rfl, rfl, ha, (by show 0 + _ < _; omega), Below.refl _ _⟩
      case round =>
        obtain ⟨q, i, rfl, rfl, hq, HI, HB⟩ := hrel
        by_cases h : q = b
        · subst h
          have hin : i < n := by have := HI.out; omega
          have hA := HA.out wr
          clear HNb hst
          go_wp2_with fail
          refine hA.mono ?_
          rintro e w' ⟨rfl, hb⟩
          have HB2 := Lib.hid (HB.out.trans (hb.mono HB.out.size))
          clear hb hA
          go_wp2_with fail
          go_ret
          exact ⟨rfl, HB2.out⟩
        · have hin : i < n := by have := HI.out; omega
          have hne : ((q : Int) == (b : Int)) = false := by simp; omega
          have hx := HX.out q hq wr HB.out
          have hnx := next_lt (sk := l) hq
          have hnr := next_near hq hb h HNb.out
          generalize nextR n q l = x at hx hnx hnr
          have ho := HO.out x hnx
          have hs1 := HS.out x hnx
          have hs2 := HS.out q hq
          have hge : decide ((stpR n q b : Int) ≤ (stpR n x b : Int)) = false := by simp; omega
          have hge2 : decide (stpR n q b ≤ stpR n x b) = false := by simp; omega
          have HI2 : Hid (i + 1 + stpR n x b < n) := by have := HI.out; show _ < _; omega
          have HM : Hid (stpR n x b < stpR n q b) := hnr
          clear hnr h hst HNb
          generalize stpR n x b = sx at hs1 hge hge2
          generalize stpR n q b = sq at hs2 hge hge2
          go_wp2_with fail
          refine hx.mono ?_
          rintro e w2 ⟨rfl, hb2⟩
          have HB2 := Lib.hid (HB.out.trans (hb2.mono HB.out.size))
          clear hb2 hx
          go_wp2_with fail
          refine (ho _).mono ?_
          rintro e w3 ⟨rfl, rfl⟩
          go_wp2_with fail
          refine (hs1 _).mono ?_
          rintro e w3 ⟨rfl, rfl⟩
          go_wp2_with fail
          refine (hs2 _).mono ?_
          rintro e w3 ⟨rfl, rfl⟩
          go_wp2_with fail
          exact ⟨⟨x, i + 1, rfl, by go_num, hnx, HI2, HB2⟩, HM.out⟩

theorem own : ownKnob Try.prog.godebug = none := by kernel_rfl
theorem laidOut : laidOutB Try.prog = true := by kernel_rfl

set_option maxRecDepth 100000 in
theorem ringRound_lifted (os : Os) (started : os.Started) (H : Type) (enc : TypeId × Value → H) :
    ReturnsInHanded {} Try.checked os 4 .any (Rows.ringRoundSpec.pre6 enc Try.prog Try.f4 Rows.ringRoundRow.domain false) (Rows.ringRoundSpec.post enc Try.prog Try.f4 false true false false) := by
  refine returnsInHanded_of_change (C := Try.checked) own started (by kernel_rfl) Try.func4
    (ChangeSpec.witness6 (enc := enc) (C := Try.checked) false ⟨#[], #[.int .i64 0, .int .i64 0, .int .i64 0, .slice none 0 0], []⟩ 8 (by kernel_rfl) (by kernel_rfl) (by kernel_rfl) (by kernel_rfl)) ?_
  intro W base args ds gs before hval0 hW _ _
  have hval : ∀ (j : Nat) t v, Try.f4.params[j]? = some t → args[j]? = some v → Value.okWide Try.prog W .any base t v := hval0
  have hW' := hW
  obtain ⟨p, q, hA0, hV, rfl, _, _⟩ := hW
  have hA : DataW.TrodAll enc Try.prog W 0 (fun _ => true) true Try.f4.params.toList args.toList ds p := hA0
  rw [Try.params4] at hA hval
  obtain ⟨v0, vs0, d0, ds0, p0, q0, hargs, rfl, rfl, h0, r0⟩ := trodAll_cons hA
  obtain ⟨v1, vs1, d1, ds1, p1, q1, rfl, rfl, rfl, h1, r1⟩ := trodAll_cons r0
  obtain ⟨v2, vs2, d2, ds2, p2, q2, rfl, rfl, rfl, h2, r2⟩ := trodAll_cons r1
  obtain ⟨v3, vs3, d3, ds3, p3, q3, rfl, rfl, rfl, h3, r3⟩ := trodAll_cons r2
  obtain ⟨rfl, rfl, rfl⟩ := trodAll_nil r3
  obtain rfl : args = #[v0, v1, v2, v3] := by cases args; simp_all
  obtain ⟨rfl, rfl⟩ := trodVars_none hV
  have k0 := h0
  have lt0 : ∀ x ∈ p0, x.block < W.heap.size := by obtain ⟨m, hm⟩ := k0; exact DataW.trod_lt m _ _ _ hm
  have k1 := h1
  have lt1 : ∀ x ∈ p1, x.block < W.heap.size := by obtain ⟨m, hm⟩ := k1; exact DataW.trod_lt m _ _ _ hm
  have k2 := h2
  have lt2 : ∀ x ∈ p2, x.block < W.heap.size := by obtain ⟨m, hm⟩ := k2; exact DataW.trod_lt m _ _ _ hm
  have k3 := h3
  have lt3 : ∀ x ∈ p3, x.block < W.heap.size := by obtain ⟨m, hm⟩ := k3; exact DataW.trod_lt m _ _ _ hm
  obtain ⟨a0, rfl, _, _, _⟩ := open_int Try.underlying3 (hval 0 3 v0 rfl rfl) h0
  obtain ⟨a1, rfl, _, _, _⟩ := open_int Try.underlying3 (hval 1 3 v1 rfl rfl) h1
  obtain ⟨a2, rfl, _, _, _⟩ := open_int Try.underlying3 (hval 2 3 v2 rfl rfl) h2
  have hwalk : Calls Try.prog 4 #[.int .i64 a0, .int .i64 a1, .int .i64 a2, v3] W fun e w' => e = .returned (.bool true) ∧ Below W.heap.size W w' := by
    obtain ⟨x3, len3, cap3, rfl⟩ := okWide_slice Try.underlying22 (hval 3 22 v3 rfl rfl)
    obtain ⟨fuel3, hf3⟩ := h3
    obtain ⟨l, A, n, c, hv, hl, _, _, hL⟩ := open_zs Try.underlying22 Try.underlying3 (by kernel_rfl) (by simpa [Value.cells] using hf3)
    injection hv with e1 e2 e3
    subst e1 e2 e3
    by_cases hm : 100 < len3
    · exact ringRound_many a0 a1 a2 x3 len3 cap3 W hm
    · by_cases hr : (a0 ≤ 64 ∧ 0 ≤ a1 ∧ a1 < a0) ∧ (a0 ≤ 64 ∧ 0 ≤ a2 ∧ a2 < a0)
      · obtain ⟨n', rfl⟩ := Int.eq_ofNat_of_zero_le (show 0 ≤ a0 by omega)
        obtain ⟨a', rfl⟩ := Int.eq_ofNat_of_zero_le hr.1.2.1
        obtain ⟨b', rfl⟩ := Int.eq_ofNat_of_zero_le hr.2.2.1
        exact ringRound_walk n' a' b' (by omega) (by omega) (by omega) x3 len3 cap3 l W hl hL (by omega)
      · exact ringRound_out a0 a1 a2 x3 len3 cap3 W (by omega) (Decidable.not_and_iff_or_not.1 hr)
  clear hA0 hval0
  refine hwalk.mono fun e W' ⟨he, bel⟩ => ?_
  subst he
  exact ⟨_, rfl, _, _, _, [], _, [], hW', trodAll_mk1 (shut_bool Try.underlying4 _), (trodAll_cons_mk (Below.trod laidOut (by kernel_rfl) (of_decide_eq_true (by kernel_rfl)) k0 bel lt0) (trodAll_cons_mk (Below.trod laidOut (by kernel_rfl) (of_decide_eq_true (by kernel_rfl)) k1 bel lt1) (trodAll_cons_mk (Below.trod laidOut (by kernel_rfl) (of_decide_eq_true (by kernel_rfl)) k2 bel lt2) (trodAll_cons_mk (Below.trod laidOut (by kernel_rfl) (of_decide_eq_true (by kernel_rfl)) k3 bel lt3) trodAll_mk0)))), rfl, bel.frame _, fun h => by cases h⟩

theorem ringRound_proved : Rows.RingRoundSaid :=
  OpenClaim.holds_of_wide 4 Try.f4 rfl rfl rfl rfl rfl rfl rfl ⟨rfl, rfl, rfl, rfl, rfl⟩ rfl rfl rfl rfl rfl (by kernel_rfl) Try.func4 (by kernel_rfl)
    (of_decide_eq_true (by kernel_rfl)) (by unfold Func.isWrapper; first | (rw [if_pos (by decide +kernel)]; kernel_rfl) | (rw [if_neg (by decide +kernel)]; exact ⟨rfl, rfl⟩))
    (fun os started H enc _ => ringRound_lifted os started H enc)

end Go.Proofs.Ytjpahccpkonjkaa
