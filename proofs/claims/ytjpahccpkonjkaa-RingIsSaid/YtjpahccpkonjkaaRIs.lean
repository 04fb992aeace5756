/- RingIs: for every number of processes, every two numbers and every list of those that are skipped the call returns true (who comes next, all that come, and how far it is, are the document's), and changes nothing that was there. No conditions. -/
import Derived.Test.YtjpahccpkonjkaaRnF
import Derived.ChangeOld
namespace Go.Proofs.Ytjpahccpkonjkaa
open Go.ChangeShapes Go.WideShapes Go.ChangeAt Go.RowKit

theorem ringIs_many (n a b : Int) (A : Option Addr) (m c : Nat) (W : World) (hm : 100 < m) : Calls Try.prog 3 #[.int .i64 n, .int .i64 a, .int .i64 b, .slice A m c] W fun e w' => e = .returned (.bool true) ∧ Below W.heap.size W w' := by
  have hA := awake_any W
  have hd : decide ((100 : Int) < (m : Int)) = true := by simp; omega
  go_enter Try.func3, Try.ntmps3
  go_wp2_with fail
  refine hA.mono ?_
  rintro e w' ⟨rfl, hb⟩
  go_wp2_with fail
  go_ret
  exact ⟨rfl, hb⟩

set_option maxRecDepth 20000 in
set_option maxHeartbeats 3200000 in
theorem ringIs_walk (n p b : Int) (A : Option Addr) (m c : Nat) (l : List Int) (W : World) (hl : l.length = m) (hL : Lies W W.heap.size A (zvs l)) (hm : m ≤ 100) : Calls Try.prog 3 #[.int .i64 n, .int .i64 p, .int .i64 b, .slice A m c] W fun e w' => e = .returned (.bool true) ∧ Below W.heap.size W w' := by
  have HA := Lib.hid (fun W => awake_any W)
  obtain ⟨v, hv⟩ := next_both n p A m c l W hl (by omega) hL
  obtain ⟨L, hLn, hw⟩ := way_both n p A m c l W hl (by omega) hL
  obtain ⟨s, hs⟩ := steps_both n p b
  have HV := Lib.hid hv
  have HW := Lib.hid hw
  have HS := Lib.hid hs
  have hd : decide ((100 : Int) < (m : Int)) = false := by simp; omega
  have e1 : (v == v) = true := by simp
  have e2 : (s == s) = true := by simp
  clear hl hL hv hw hs
  have h1 := (HV.out W (Below.refl _ _)).1
  go_enter Try.func3, Try.ntmps3
  go_wp2_with fail
  refine h1.mono ?_
  rintro e w1 ⟨rfl, hb1⟩
  have h2 := (HV.out w1 hb1).2
  have HB1 := Lib.hid hb1
  clear h1 hb1
  go_wp2_with fail
  refine h2.mono ?_
  rintro e w2 ⟨rfl, hb2⟩
  have HB2 := Lib.hid (HB1.out.trans (hb2.mono HB1.out.size))
  have h3 := (HW.out w2 HB2.out).1
  clear h2 hb2
  go_wp2_with fail
  refine h3.mono ?_
  rintro e w3 ⟨A3, j, c3, rfl, hj, hc1, hc2, ho3, hb3⟩
  have HB3 := Lib.hid (HB2.out.trans (hb3.mono HB2.out.size))
  have h4 := (HW.out w3 HB3.out).2
  clear h3 hb3 hc1 hc2
  go_wp2_with fail
  refine h4.mono ?_
  rintro e w4 ⟨A4, j', c4, rfl, hj', hc1, hc2, ho4, hb4⟩
  have HB4 := Lib.hid (HB3.out.trans (hb4.mono HB3.out.size))
  obtain rfl : j = j' := hj.out.symm.trans hj'.out
  have h5 := refSame_any A3 A4 j c3 c4 L w4 hj.out (by have := hj.out; omega) ((Lies.of_own ho3).on hb4) (Lies.of_own ho4)
  clear h4 hb4 hc1 hc2 ho3 ho4
  go_wp2_with fail
  refine h5.mono ?_
  rintro e w5 ⟨rfl, hb5⟩
  have HB5 := Lib.hid (HB4.out.trans (hb5.mono HB4.out.size))
  have h6 := (HS.out w5).1
  have h7 := (HS.out w5).2
  have hA := HA.out w5
  clear h5 hb5
  go_wp2_with fail
  refine h6.mono ?_
  rintro e w6 ⟨rfl, rfl⟩
  go_wp2_with fail
  refine h7.mono ?_
  rintro e w6 ⟨rfl, rfl⟩
  go_wp2_with fail
  refine hA.mono ?_
  rintro e w6 ⟨rfl, hb6⟩
  have HB6 := Lib.hid (HB5.out.trans (hb6.mono HB5.out.size))
  clear hb6
  go_wp2_with fail
  go_ret
  exact ⟨rfl, HB6.out⟩

theorem own : ownKnob Try.prog.godebug = none := by kernel_rfl
theorem laidOut : laidOutB Try.prog = true := by kernel_rfl

set_option maxRecDepth 100000 in
theorem ringIs_lifted (os : Os) (started : os.Started) (H : Type) (enc : TypeId × Value → H) :
    ReturnsInHanded {} Try.checked os 3 .any (Rows.ringIsSpec.pre6 enc Try.prog Try.f3 Rows.ringIsRow.domain false) (Rows.ringIsSpec.post enc Try.prog Try.f3 false true false false) := by
  refine returnsInHanded_of_change (C := Try.checked) own started (by kernel_rfl) Try.func3
    (ChangeSpec.witness6 (enc := enc) (C := Try.checked) false ⟨#[], #[.int .i64 0, .int .i64 0, .int .i64 0, .slice none 0 0], []⟩ 8 (by kernel_rfl) (by kernel_rfl) (by kernel_rfl) (by kernel_rfl)) ?_
  intro W base args ds gs before hval0 hW _ _
  have hval : ∀ (j : Nat) t v, Try.f3.params[j]? = some t → args[j]? = some v → Value.okWide Try.prog W .any base t v := hval0
  have hW' := hW
  obtain ⟨p, q, hA0, hV, rfl, _, _⟩ := hW
  have hA : DataW.TrodAll enc Try.prog W 0 (fun _ => true) true Try.f3.params.toList args.toList ds p := hA0
  rw [Try.params3] at hA hval
  obtain ⟨v0, vs0, d0, ds0, p0, q0, hargs, rfl, rfl, h0, r0⟩ := trodAll_cons hA
  obtain ⟨v1, vs1, d1, ds1, p1, q1, rfl, rfl, rfl, h1, r1⟩ := trodAll_cons r0
  obtain ⟨v2, vs2, d2, ds2, p2, q2, rfl, rfl, rfl, h2, r2⟩ := trodAll_cons r1
  obtain ⟨v3, vs3, d3, ds3, p3, q3, rfl, rfl, rfl, h3, r3⟩ := trodAll_cons r2
  obtain ⟨rfl, rfl, rfl⟩ := trodAll_nil r3
  obtain rfl : args = #[v0, v1, v2, v3] := by cases args; simp_all
  obtain ⟨rfl, rfl⟩ := trodVars_none hV
  have k0 := h0
  have lt0 : ∀ x ∈ p0, x.block < W.heap.size := by obtain ⟨m, hm⟩ := k0; exact DataW.trod_lt m _ _ _ hm
  have k1 := h1
  have lt1 : ∀ x ∈ p1, x.block < W.heap.size := by obtain ⟨m, hm⟩ := k1; exact DataW.trod_lt m _ _ _ hm
  have k2 := h2
  have lt2 : ∀ x ∈ p2, x.block < W.heap.size := by obtain ⟨m, hm⟩ := k2; exact DataW.trod_lt m _ _ _ hm
  have k3 := h3
  have lt3 : ∀ x ∈ p3, x.block < W.heap.size := by obtain ⟨m, hm⟩ := k3; exact DataW.trod_lt m _ _ _ hm
  obtain ⟨a0, rfl, _, _, _⟩ := open_int Try.underlying3 (hval 0 3 v0 rfl rfl) h0
  obtain ⟨a1, rfl, _, _, _⟩ := open_int Try.underlying3 (hval 1 3 v1 rfl rfl) h1
  obtain ⟨a2, rfl, _, _, _⟩ := open_int Try.underlying3 (hval 2 3 v2 rfl rfl) h2
  have hwalk : Calls Try.prog 3 #[.int .i64 a0, .int .i64 a1, .int .i64 a2, v3] W fun e w' => e = .returned (.bool true) ∧ Below W.heap.size W w' := by
    obtain ⟨x3, len3, cap3, rfl⟩ := okWide_slice Try.underlying22 (hval 3 22 v3 rfl rfl)
    obtain ⟨fuel3, hf3⟩ := h3
    obtain ⟨l, A, n, c, hv, hl, _, _, hL⟩ := open_zs Try.underlying22 Try.underlying3 (by kernel_rfl) (by simpa [Value.cells] using hf3)
    injection hv with e1 e2 e3
    subst e1 e2 e3
    by_cases hm : 100 < len3
    · exact ringIs_many a0 a1 a2 x3 len3 cap3 W hm
    · exact ringIs_walk a0 a1 a2 x3 len3 cap3 l W hl hL (by omega)
  clear hA0 hval0
  refine hwalk.mono fun e W' ⟨he, bel⟩ => ?_
  subst he
  exact ⟨_, rfl, _, _, _, [], _, [], hW', trodAll_mk1 (shut_bool Try.underlying4 _), (trodAll_cons_mk (Below.trod laidOut (by kernel_rfl) (of_decide_eq_true (by kernel_rfl)) k0 bel lt0) (trodAll_cons_mk (Below.trod laidOut (by kernel_rfl) (of_decide_eq_true (by kernel_rfl)) k1 bel lt1) (trodAll_cons_mk (Below.trod laidOut (by kernel_rfl) (of_decide_eq_true (by kernel_rfl)) k2 bel lt2) (trodAll_cons_mk (Below.trod laidOut (by kernel_rfl) (of_decide_eq_true (by kernel_rfl)) k3 bel lt3) trodAll_mk0)))), rfl, bel.frame _, fun h => by cases h⟩

theorem ringIs_proved : Rows.RingIsSaid :=
  OpenClaim.holds_of_wide 3 Try.f3 rfl rfl rfl rfl rfl rfl rfl ⟨rfl, rfl, rfl, rfl, rfl⟩ rfl rfl rfl rfl rfl (by kernel_rfl) Try.func3 (by kernel_rfl)
    (of_decide_eq_true (by kernel_rfl)) (by unfold Func.isWrapper; first | (rw [if_pos (by decide +kernel)]; kernel_rfl) | (rw [if_neg (by decide +kernel)]; exact ⟨rfl, rfl⟩))
    (fun os started H enc _ => ringIs_lifted os started H enc)

end Go.Proofs.Ytjpahccpkonjkaa
