/- BatchIs: for every two vectors, every number and every list of runs the call returns true (whether they are a batch, are held, what the base is behind them, and in which order they are delivered, are the document's; what is handed in stays), and changes nothing that was there. No conditions. -/
import Derived.Test.YtfkpffkickicmaaBtS
import Derived.Test.YtfkpffkickicmaaBtJ
import Derived.Test.YtfkpffkickicmaaBtL
import Derived.Test.YtfkpffkickicmaaBtT
import Derived.ChangeOld
namespace Go.Proofs.Ytfkpffkickicmaa
open Go.ChangeShapes Go.WideShapes Go.ChangeAt Go.RowKit

theorem afterL_length (base : List Nat) (l : List Rn) : (afterL base l).length = base.length := by
  unfold afterL
  split
  · exact addTo_length _ _ _
  · rfl

theorem orderL_length (l : List Rn) (h : l.length ≤ 100) : (orderL l).length ≤ 1000000 := by
  unfold orderL
  split
  · next hc => exact Nat.le_trans (ordTo_len rfl h (longR_le hc.1 hc.2)) (by omega)
  · simp

theorem eqB_same (x : Bool) (w : World) : (binOp .eql 4 (.bool x) (.bool x)).run Try.prog w = .ok (.bool true) w := by
  cases x <;> simp [go_sem]

theorem batchIs_long (A : Option Addr) (n c : Nat) (A2 : Option Addr) (m c2 : Nat) (i : Int) (A3 : Option Addr) (k c3 : Nat) (w : World) (hn : 100 < n) :
    Calls Try.prog 3 #[.slice A n c, .slice A2 m c2, .int .i64 i, .slice A3 k c3] w fun e w' => e = .returned (.bool true) ∧ RowKit.Below w.heap.size w w' := by
  have hd : decide (100 < (n : Int)) = true := by simp; omega
  go_enter Try.func3, Try.ntmps3
  go_wp2_with (go_at_call 7; refine (awake_any _).mono ?_; rintro e w' ⟨rfl, hb⟩)
  go_ret
  exact ⟨rfl, hb⟩

theorem batchIs_long2 (A : Option Addr) (n c : Nat) (A2 : Option Addr) (m c2 : Nat) (i : Int) (A3 : Option Addr) (k c3 : Nat) (w : World) (hn : n ≤ 100) (hm : 100 < m) :
    Calls Try.prog 3 #[.slice A n c, .slice A2 m c2, .int .i64 i, .slice A3 k c3] w fun e w' => e = .returned (.bool true) ∧ RowKit.Below w.heap.size w w' := by
  have hd : decide (100 < (n : Int)) = false := by simp; omega
  have hd2 : decide (100 < (m : Int)) = true := by simp; omega
  go_enter Try.func3, Try.ntmps3
  go_wp2_with (go_at_call 7; refine (awake_any _).mono ?_; rintro e w' ⟨rfl, hb⟩)
  go_ret
  exact ⟨rfl, hb⟩

theorem batchIs_long3 (A : Option Addr) (n c : Nat) (A2 : Option Addr) (m c2 : Nat) (i : Int) (A3 : Option Addr) (k c3 : Nat) (w : World) (hn : n ≤ 100) (hm : m ≤ 100) (hk : 100 < k) :
    Calls Try.prog 3 #[.slice A n c, .slice A2 m c2, .int .i64 i, .slice A3 k c3] w fun e w' => e = .returned (.bool true) ∧ RowKit.Below w.heap.size w w' := by
  have hd : decide (100 < (n : Int)) = false := by simp; omega
  have hd2 : decide (100 < (m : Int)) = false := by simp; omega
  have hd3 : decide (100 < (k : Int)) = true := by simp; omega
  go_enter Try.func3, Try.ntmps3
  go_wp2_with (go_at_call 7; refine (awake_any _).mono ?_; rintro e w' ⟨rfl, hb⟩)
  go_ret
  exact ⟨rfl, hb⟩

set_option maxHeartbeats 3200000 in
theorem batchIs_walk (A : Option Addr) (n c : Nat) (base : List Nat) (A2 : Option Addr) (m c2 : Nat) (held : List Nat) (i : Int) (A3 : Option Addr) (k c3 : Nat) (l : List Rn) (w : World) (hn : n ≤ 100) (hm : m ≤ 100) (hk : k ≤ 100) (hi : i ≤ 9223372036854775807)
    (hl : base.length = n) (h : Lies w w.heap.size A (uvs base)) (hu : ∀ x ∈ base, x < 18446744073709551616) (hl2 : held.length = m) (h2 : Lies w w.heap.size A2 (uvs held)) (hl3 : l.length = k) (h3 : Lies w w.heap.size A3 (flat encRn l)) :
    Calls Try.prog 3 #[.slice A n c, .slice A2 m c2, .int .i64 i, .slice A3 k c3] w fun e w' => e = .returned (.bool true) ∧ RowKit.Below w.heap.size w w' := by
  have hd : decide (100 < (n : Int)) = false := by simp; omega
  have hd2 : decide (100 < (m : Int)) = false := by simp; omega
  have hd3 : decide (100 < (k : Int)) = false := by simp; omega
  have hEq := eqB_same
  have J1 : Hid (∀ W, RowKit.Below w.heap.size w W → ∀ (A1 : Option Addr) (c1 : Nat), Lies W W.heap.size A1 (uvs base) → Calls Try.prog 8 #[.slice A1 n c1, .slice A3 k c3] W (OwnedV W W.heap.size (afterL base l))) := fun W hW A1 c1 hL => after_any A1 n c1 base A3 k c3 l W (by omega) hl hL hu (by omega) hl3 (h3.on hW)
  have J2 : Hid (∀ W, RowKit.Below w.heap.size w W → ∀ (A1 : Option Addr) (c1 : Nat), Lies W W.heap.size A1 (uvs base) → Calls Try.prog 9 #[.slice A1 n c1, .slice A n c] W fun e w' => e = .returned (.bool true) ∧ RowKit.Below W.heap.size W w') := fun W hW A1 c1 hL => refEqual_same A1 n c1 base A n c W (by omega) hl hL hl (h.on hW)
  have J3 : Hid (∀ W, RowKit.Below w.heap.size w W → Calls Try.prog 10 #[.slice A n c, .slice A3 k c3] W (OwnedV W W.heap.size (afterL base l))) := fun W hW => refAfter_any A n c base A3 k c3 l W (by omega) hl (h.on hW) hu (by omega) hl3 (h3.on hW)
  have J4 : Hid (∀ W, RowKit.Below w.heap.size w W → Calls Try.prog 11 #[.slice A n c, .int .i64 i, .slice A3 k c3] W fun e w' => e = .returned (.bool (batB base (roomN i) l)) ∧ RowKit.Below W.heap.size W w') := fun W hW => mayB_any A n c base i A3 k c3 l W (by omega) hl (h.on hW) hu (by omega) hl3 (h3.on hW)
  have J5 : Hid (∀ W, RowKit.Below w.heap.size w W → Calls Try.prog 12 #[.slice A n c, .int .i64 i, .slice A3 k c3] W fun e w' => e = .returned (.bool (batB base (roomN i) l)) ∧ RowKit.Below W.heap.size W w') := fun W hW => refMayB_any A n c base i A3 k c3 l W (by omega) hl (h.on hW) hu hi (by omega) hl3 (h3.on hW)
  have J6 : Hid (∀ W, RowKit.Below w.heap.size w W → Calls Try.prog 13 #[.slice A2 m c2, .slice A3 k c3] W fun e w' => e = .returned (.bool (heldB held l)) ∧ RowKit.Below W.heap.size W w') := fun W hW => held_any A2 m c2 held A3 k c3 l W hl2 (h2.on hW) hl3 (by omega) (h3.on hW)
  have J7 : Hid (∀ W, RowKit.Below w.heap.size w W → Calls Try.prog 14 #[.slice A2 m c2, .slice A3 k c3] W fun e w' => e = .returned (.bool (heldB held l)) ∧ RowKit.Below W.heap.size W w') := fun W hW => refHeld_any A2 m c2 held A3 k c3 l W hl2 (h2.on hW) hl3 (by omega) (h3.on hW)
  have J8 : Hid (∀ W, RowKit.Below w.heap.size w W → Calls Try.prog 16 #[.slice A3 k c3] W (OwnIds W W.heap.size (orderL l))) := fun W hW => order_any A3 k c3 l W hl3 hk (h3.on hW)
  have J9 : Hid (∀ W, RowKit.Below w.heap.size w W → Calls Try.prog 17 #[.slice A3 k c3] W (OwnIds W W.heap.size (orderL l))) := fun W hW => refOrder_any A3 k c3 l W hl3 hk (h3.on hW)
  have HAL : Hid ((afterL base l).length = n) := by show _ = _; rw [afterL_length]; exact hl
  have HOL : Hid ((orderL l).length ≤ 1000000) := orderL_length l (by omega)
  have HL := Lib.hid hl
  have HH := Lib.hid h
  generalize afterL base l = aft at J1 J3 HAL
  generalize orderL l = ord at J8 J9 HOL
  generalize batB base (roomN i) l = bb at J4 J5
  generalize heldB held l = hh at J6 J7
  clear hl hl2 hl3 h h2 h3 hu hi
  go_enter Try.func3, Try.ntmps3
  go_wp2_with (at_builtin; refine wpList_anew rfl (.tmp 25) (.tmp 26) rfl rfl A n c _ base rfl HL.out HH.out (Nat.le_refl _) (by omega) ?_)
  intro v1 w1 hown hb1
  obtain ⟨A1, c1, rfl, _, _⟩ := own_slice hown
  have hL1 := Lies.of_own hown
  have haft := J1.out w1 hb1 A1 c1 hL1
  clear hown J1
  go_wp2_with fail
  refine haft.mono ?_
  intro e w2 ho
  obtain ⟨A4, n4, c4, rfl, hn4, _, _, hL4, hb12⟩ := ho.use
  have e4 : n4 = n := by rw [← hn4.out]; exact HAL.out
  subst e4
  have hb2 : RowKit.Below w.heap.size w w2 := hb1.trans (hb12.mono hb1.size)
  have heq := J2.out w2 hb2 A1 c1 (hL1.on hb12)
  clear ho haft hL1 J2 hn4
  go_wp2_with fail
  refine heq.mono ?_
  rintro e w3 ⟨rfl, hb23⟩
  have hb3 : RowKit.Below w.heap.size w w3 := hb2.trans (hb23.mono hb2.size)
  have hL4' := hL4.on hb23
  clear heq hL4
  go_wp2_with fail
  refine (J3.out w3 hb3).mono ?_
  intro e w4 ho
  obtain ⟨A5, n5, c5, rfl, hn5, _, _, hL5, hb34⟩ := ho.use
  have hb4 : RowKit.Below w.heap.size w w4 := hb3.trans (hb34.mono hb3.size)
  have heq := refEqual_same A4 n4 c4 aft A5 n5 c5 w4 (by omega) HAL.out (hL4'.on hb34) hn5.out hL5
  clear ho J3 hL4' hL5 hn5
  go_wp2_with fail
  refine heq.mono ?_
  rintro e w5 ⟨rfl, hb45⟩
  have hb5 : RowKit.Below w.heap.size w w5 := hb4.trans (hb45.mono hb4.size)
  clear heq hb1 hb12 hb2 hb23 hb3 hb34 hb4 hb45
  go_wp2_with fail
  refine (J4.out w5 hb5).mono ?_
  rintro e w6 ⟨rfl, hb56⟩
  have hb6 : RowKit.Below w.heap.size w w6 := hb5.trans (hb56.mono hb5.size)
  clear J4 hb56
  go_wp2_with fail
  refine (J5.out w6 hb6).mono ?_
  rintro e w7 ⟨rfl, hb67⟩
  have hb7 : RowKit.Below w.heap.size w w7 := hb6.trans (hb67.mono hb6.size)
  clear J5 hb67 hb5 hb6
  go_wp2_with fail
  refine (J6.out w7 hb7).mono ?_
  rintro e w8 ⟨rfl, hb78⟩
  have hb8 : RowKit.Below w.heap.size w w8 := hb7.trans (hb78.mono hb7.size)
  clear J6 hb78
  go_wp2_with fail
  refine (J7.out w8 hb8).mono ?_
  rintro e w9 ⟨rfl, hb89⟩
  have hb9 : RowKit.Below w.heap.size w w9 := hb8.trans (hb89.mono hb8.size)
  clear J7 hb89 hb7 hb8
  go_wp2_with fail
  refine (J8.out w9 hb9).mono ?_
  rintro e wa ⟨A6, n6, c6, rfl, hn6, _, _, hown6, hb9a⟩
  have hba : RowKit.Below w.heap.size w wa := hb9.trans (hb9a.mono hb9.size)
  have hL6 := Lies.of_ownK hown6
  clear J8 hown6
  go_wp2_with fail
  refine (J9.out wa hba).mono ?_
  rintro e wb ⟨A7, n7, c7, rfl, hn7, _, _, hown7, hbab⟩
  have hbb : RowKit.Below w.heap.size w wb := hba.trans (hbab.mono hba.size)
  have hn6b : n6 ≤ 1000000 := by have := hn6.out; have := HOL.out; omega
  have hsm := sameIds_any A6 A7 n6 c6 n7 c7 ord ord wb hn6.out hn7.out hn6b (hL6.on hbab) (Lies.of_ownK hown7)
  rw [decide_eq_true rfl] at hsm
  clear J9 hown7 hL6 hn6 hn7
  go_wp2_with fail
  refine hsm.mono ?_
  rintro e wc ⟨rfl, hbbc⟩
  have hbc : RowKit.Below w.heap.size w wc := hbb.trans (hbbc.mono hbb.size)
  clear hsm
  go_wp2_with fail
  refine (awake_any _).mono ?_
  rintro e wd ⟨rfl, hbcd⟩
  go_wp2
  go_ret
  exact ⟨rfl, hbc.trans (hbcd.mono hbc.size)⟩


theorem own : ownKnob Try.prog.godebug = none := by kernel_rfl
theorem laidOut : laidOutB Try.prog = true := by kernel_rfl

set_option maxRecDepth 100000 in
theorem batchIs_lifted (os : Os) (started : os.Started) (H : Type) (enc : TypeId × Value → H) :
    ReturnsInHanded {} Try.checked os 3 .any (Rows.batchIsSpec.pre6 enc Try.prog Try.f3 Rows.batchIsRow.domain false) (Rows.batchIsSpec.post enc Try.prog Try.f3 false true false false) := by
  refine returnsInHanded_of_change (C := Try.checked) own started (by kernel_rfl) Try.func3
    (ChangeSpec.witness6 (enc := enc) (C := Try.checked) false ⟨#[], #[.slice none 0 0, .slice none 0 0, .int .i64 0, .slice none 0 0], []⟩ 8 (by kernel_rfl) (by kernel_rfl) (by kernel_rfl) (by kernel_rfl)) ?_
  intro W base args ds gs before hval0 hW _ _
  have hval : ∀ (j : Nat) t v, Try.f3.params[j]? = some t → args[j]? = some v → Value.okWide Try.prog W .any base t v := hval0
  have hW' := hW
  obtain ⟨p, q, hA0, hV, rfl, _, _⟩ := hW
  have hA : DataW.TrodAll enc Try.prog W 0 (fun _ => true) true Try.f3.params.toList args.toList ds p := hA0
  rw [Try.params3] at hA hval
  obtain ⟨v0, vs0, d0, ds0, p0, q0, hargs, rfl, rfl, h0, r0⟩ := trodAll_cons hA
  obtain ⟨v1, vs1, d1, ds1, p1, q1, rfl, rfl, rfl, h1, r1⟩ := trodAll_cons r0
  obtain ⟨v2, vs2, d2, ds2, p2, q2, rfl, rfl, rfl, h2, r2⟩ := trodAll_cons r1
  obtain ⟨v3, vs3, d3, ds3, p3, q3, rfl, rfl, rfl, h3, r3⟩ := trodAll_cons r2
  obtain ⟨rfl, rfl, rfl⟩ := trodAll_nil r3
  obtain rfl : args = #[v0, v1, v2, v3] := by cases args; simp_all
  obtain ⟨rfl, rfl⟩ := trodVars_none hV
  have k0 := h0
  have lt0 : ∀ x ∈ p0, x.block < W.heap.size := by obtain ⟨m, hm⟩ := k0; exact DataW.trod_lt m _ _ _ hm
  have k1 := h1
  have lt1 : ∀ x ∈ p1, x.block < W.heap.size := by obtain ⟨m, hm⟩ := k1; exact DataW.trod_lt m _ _ _ hm
  have k2 := h2
  have lt2 : ∀ x ∈ p2, x.block < W.heap.size := by obtain ⟨m, hm⟩ := k2; exact DataW.trod_lt m _ _ _ hm
  have k3 := h3
  have lt3 : ∀ x ∈ p3, x.block < W.heap.size := by obtain ⟨m, hm⟩ := k3; exact DataW.trod_lt m _ _ _ hm
  have hwalk : Calls Try.prog 3 #[v0, v1, v2, v3] W fun e w' => e = .returned (.bool true) ∧ Below W.heap.size W w' := by
    obtain ⟨a0, len0, cap0, rfl⟩ := okWide_slice Try.underlying22 (hval 0 22 v0 rfl rfl)
    obtain ⟨a1, len1, cap1, rfl⟩ := okWide_slice Try.underlying22 (hval 1 22 v1 rfl rfl)
    obtain ⟨x2, rfl, _, _, wf2⟩ := open_int Try.underlying3 (hval 2 3 v2 rfl rfl) h2
    obtain ⟨a3, len3, cap3, rfl⟩ := okWide_slice Try.underlying23 (hval 3 23 v3 rfl rfl)
    obtain ⟨fuel, hf⟩ := h0
    obtain ⟨fuel1, hf1⟩ := h1
    obtain ⟨fuel3, hf3⟩ := h3
    obtain ⟨a, A, n, c, hv, hl, hc1, hc2, hL, hu⟩ := open_nums Try.underlying22 Try.underlying40 (by kernel_rfl) (by simpa [Value.cells] using hf)
    obtain ⟨b, A2, m, c2, hv2, hl2, hc3, hc4, hL2, hu2⟩ := open_nums Try.underlying22 Try.underlying40 (by kernel_rfl) (by simpa [Value.cells] using hf1)
    obtain ⟨A3, k, c3, l, hv3, hl3, hc5, hc6, hL3⟩ := open_rns (by simpa [Value.cells] using hf3)
    rw [hv, hv2, hv3]
    have b2 := bounds_i64 wf2
    by_cases hn : n ≤ 100
    · by_cases hm : m ≤ 100
      · by_cases hk : k ≤ 100
        · exact batchIs_walk A n c a A2 m c2 b x2 A3 k c3 l W hn hm hk (by omega) hl hL hu hl2 hL2 hl3 hL3
        · exact batchIs_long3 A n c A2 m c2 _ A3 k c3 W hn hm (by omega)
      · exact batchIs_long2 A n c A2 m c2 _ A3 k c3 W hn (by omega)
    · exact batchIs_long A n c A2 m c2 _ A3 k c3 W (by omega)
  clear hA0 hval0
  refine hwalk.mono fun e W' ⟨he, bel⟩ => ?_
  subst he
  exact ⟨_, rfl, _, _, _, [], _, [], hW', trodAll_mk1 (shut_bool Try.underlying4 _), (trodAll_cons_mk (Below.trod laidOut (by kernel_rfl) (of_decide_eq_true (by kernel_rfl)) k0 bel lt0) (trodAll_cons_mk (Below.trod laidOut (by kernel_rfl) (of_decide_eq_true (by kernel_rfl)) k1 bel lt1) (trodAll_cons_mk (Below.trod laidOut (by kernel_rfl) (of_decide_eq_true (by kernel_rfl)) k2 bel lt2) (trodAll_cons_mk (Below.trod laidOut (by kernel_rfl) (of_decide_eq_true (by kernel_rfl)) k3 bel lt3) trodAll_mk0)))), rfl, bel.frame _, fun h => by cases h⟩

theorem batchIs_proved : Rows.BatchIsSaid :=
  OpenClaim.holds_of_wide 3 Try.f3 rfl rfl rfl rfl rfl rfl rfl ⟨rfl, rfl, rfl, rfl, rfl⟩ rfl rfl rfl rfl rfl (by kernel_rfl) Try.func3 (by kernel_rfl)
    (of_decide_eq_true (by kernel_rfl)) (by unfold Func.isWrapper; first | (rw [if_pos (by decide +kernel)]; kernel_rfl) | (rw [if_neg (by decide +kernel)]; exact ⟨rfl, rfl⟩))
    (fun os started H enc _ => batchIs_lifted os started H enc)

end Go.Proofs.Ytfkpffkickicmaa
