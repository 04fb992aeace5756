/- VecIs: for every two vectors, place and number the call returns true (the number of a process, a vector with another one, and by how much one falls short, are the document's; what is handed in stays), and changes nothing that was there. No conditions. -/
import Derived.Test.YtjhdaddemeegmaaVcF
import Derived.Test.YtjhdaddemeegmaaVcH
import Derived.Test.YtjhdaddemeegmaaVcI
import Derived.ChangeOld
namespace Go.Proofs.Ytjhdaddemeegmaa
open Go.ChangeShapes Go.WideShapes Go.ChangeAt Go.RowKit

theorem vecIs_long (A : Option Addr) (n c : Nat) (A2 : Option Addr) (m c2 : Nat) (i x : Int) (w : World) (hn : 100 < n) :
    Calls Try.prog 3 #[.slice A n c, .slice A2 m c2, .int .i64 i, .int .u64 x] w fun e w' => e = .returned (.bool true) ∧ Below w.heap.size w w' := by
  have hd : decide (100 < (n : Int)) = true := by simp; omega
  go_enter Try.func3, Try.ntmps3
  go_wp2_with (go_at_call 9; refine (awake_any _).mono ?_; rintro e w' ⟨rfl, hb⟩)
  go_ret
  exact ⟨rfl, hb⟩

theorem vecIs_long2 (A : Option Addr) (n c : Nat) (A2 : Option Addr) (m c2 : Nat) (i x : Int) (w : World) (hn : n ≤ 100) (hm : 100 < m) :
    Calls Try.prog 3 #[.slice A n c, .slice A2 m c2, .int .i64 i, .int .u64 x] w fun e w' => e = .returned (.bool true) ∧ Below w.heap.size w w' := by
  have hd : decide (100 < (n : Int)) = false := by simp; omega
  have hd2 : decide (100 < (m : Int)) = true := by simp; omega
  go_enter Try.func3, Try.ntmps3
  go_wp2_with (go_at_call 9; refine (awake_any _).mono ?_; rintro e w' ⟨rfl, hb⟩)
  go_ret
  exact ⟨rfl, hb⟩

theorem setI_length (a : List Nat) (i : Int) (n : Nat) : (setI a i n).length ≤ max a.length 64 := by
  unfold setI
  split
  · rw [setL_length]; omega
  · omega

set_option maxHeartbeats 1600000 in
theorem vecIs_walk (A : Option Addr) (n c : Nat) (a : List Nat) (A2 : Option Addr) (m c2 : Nat) (b : List Nat) (i : Int) (x : Nat) (w : World) (hn : n ≤ 100) (hm : m ≤ 100)
    (hl : a.length = n) (h : Lies w w.heap.size A (uvs a)) (hl2 : b.length = m) (h2 : Lies w w.heap.size A2 (uvs b)) (hu2 : ∀ x ∈ b, x < 18446744073709551616) :
    Calls Try.prog 3 #[.slice A n c, .slice A2 m c2, .int .i64 i, .int .u64 (x : Int)] w fun e w' => e = .returned (.bool true) ∧ Below w.heap.size w w' := by
  have hd : decide (100 < (n : Int)) = false := by simp; omega
  have hd2 : decide (100 < (m : Int)) = false := by simp; omega
  have HL := Lib.hid hl
  have HSL := Lib.hid (setI_length a i x)
  -- the calls, in every later world
  have J1 : Hid (∀ W : World, Below w.heap.size w W → Calls Try.prog 12 #[.slice A n c, .int .i64 i, .int .u64 (x : Int)] W (OwnedV W W.heap.size (setI a i x))) := fun W hW => refSet_any A n c i x a W (by omega) hl (h.later hW)
  have J2 : Hid (∀ W : World, Below w.heap.size w W → Calls Try.prog 13 #[.slice A n c, .int .i64 i] W fun e w' => e = .returned (.int .u64 (atI a i : Int)) ∧ W = w') := fun W hW => at_any A n c i _ a W hl (h.later hW)
  have J3 : Hid (∀ W : World, Below w.heap.size w W → Calls Try.prog 14 #[.slice A n c, .int .i64 i] W fun e w' => e = .returned (.int .u64 (atI a i : Int)) ∧ W = w') := fun W hW => refAt_any A n c i _ a W hl (h.later hW)
  have J4 : Hid (∀ W : World, Below w.heap.size w W → Calls Try.prog 15 #[.slice A n c, .slice A2 m c2] W fun e w' => e = .returned (.int .u64 (lackN a b : Int)) ∧ W = w') := fun W hW => lack_any A n c _ a A2 m c2 b W (by omega) hl (h.later hW) hl2 (h2.later hW) hu2
  have J5 : Hid (∀ W : World, Below w.heap.size w W → Calls Try.prog 16 #[.slice A n c, .slice A2 m c2] W fun e w' => e = .returned (.int .u64 (lackN a b : Int)) ∧ Below W.heap.size W w') := fun W hW => refLack_any A n c a A2 m c2 b W (by omega) hl (h.later hW) hl2 (h2.later hW) hu2
  have J6 : Hid (∀ W : World, Below w.heap.size w W → ∀ (A1 : Option Addr) (n1 c1 : Nat), a.length = n1 → Lies W W.heap.size A1 (uvs a) → Calls Try.prog 11 #[.slice A1 n1 c1, .slice A n c] W fun e w' => e = .returned (.bool true) ∧ Below W.heap.size W w') := fun W hW A1 n1 c1 e1 hL1 => refEqual_same A1 n1 c1 a A n c W (by omega) e1 hL1 hl (h.later hW)
  have HH := Lib.hid h
  generalize hat : atI a i = p at J2 J3
  generalize hlk : lackN a b = q at J4 J5
  clear hl hl2 h h2 hu2 hat hlk
  go_enter Try.func3, Try.ntmps3
  go_wp2_with (at_builtin; refine wpList_anew rfl (.tmp 20) (.tmp 21) rfl rfl A n c _ a rfl HL.out HH.out (Nat.le_refl _) (by omega) ?_)
  intro v1 w1 hown hb1
  obtain ⟨A1, c1, rfl, _, _⟩ := own_slice hown
  have hL1 := Lies.of_own hown
  have hset := set_any A1 n c1 i x a w1 (by omega) HL.out hL1
  clear hown
  go_wp2_with fail
  refine hset.mono ?_
  intro e w2 ho
  obtain ⟨A3, n3, c3, rfl, hn3, _, _, hL3, hb12⟩ := ho.use
  have hb2 : Below w.heap.size w w2 := hb1.trans (hb12.mono hb1.size)
  have heq := J6.out w2 hb2 A1 n c1 HL.out (hL1.later hb12)
  have hn3b : n3 ≤ 1000 := by have h1 := hn3.out; have h2 := HSL.out; rw [HL.out] at h2; omega
  clear ho hset hL1 J6
  go_wp2_with fail
  refine heq.mono ?_
  rintro e w3 ⟨rfl, hb23⟩
  have hb3 : Below w.heap.size w w3 := hb2.trans (hb23.mono hb2.size)
  have hL3' := hL3.later hb23
  clear heq hL3 hb1 hb12
  go_wp2_with fail
  refine (J1.out w3 hb3).mono ?_
  intro e w4 ho
  obtain ⟨A5, n5, c5, rfl, hn5, _, _, hL5, hb34⟩ := ho.use
  have hb4 : Below w.heap.size w w4 := hb3.trans (hb34.mono hb3.size)
  have heq := refEqual_same A3 n3 c3 (setI a i x) A5 n5 c5 w4 hn3b hn3.out (hL3'.later hb34) hn5.out hL5
  clear ho J1 hL3' hL5 hb2 hb23
  go_wp2_with fail
  refine heq.mono ?_
  rintro e w5 ⟨rfl, hb45⟩
  have hb5 : Below w.heap.size w w5 := hb4.trans (hb45.mono hb4.size)
  clear heq hb3 hb34
  go_wp2_with fail
  refine (J2.out w5 hb5).mono ?_
  rintro e w6 ⟨rfl, rfl⟩
  go_wp2_with fail
  refine (J3.out w5 hb5).mono ?_
  rintro e w6 ⟨rfl, rfl⟩
  clear J2 J3
  go_wp2_with fail
  refine (J4.out w5 hb5).mono ?_
  rintro e w6 ⟨rfl, rfl⟩
  go_wp2_with fail
  refine (J5.out w5 hb5).mono ?_
  rintro e w6 ⟨rfl, hb56⟩
  have hb6 : Below w.heap.size w w6 := hb5.trans (hb56.mono hb5.size)
  clear J4 J5
  go_wp2_with fail
  refine (awake_any _).mono ?_
  rintro e w7 ⟨rfl, hb7⟩
  go_wp2
  go_ret
  exact ⟨rfl, hb6.trans (hb7.mono hb6.size)⟩

theorem own : ownKnob Try.prog.godebug = none := by kernel_rfl
theorem laidOut : laidOutB Try.prog = true := by kernel_rfl

set_option maxRecDepth 100000 in
theorem vecIs_lifted (os : Os) (started : os.Started) (H : Type) (enc : TypeId × Value → H) :
    ReturnsInHanded {} Try.checked os 3 .any (Rows.vecIsSpec.pre6 enc Try.prog Try.f3 Rows.vecIsRow.domain false) (Rows.vecIsSpec.post enc Try.prog Try.f3 false true false false) := by
  refine returnsInHanded_of_change (C := Try.checked) own started (by kernel_rfl) Try.func3
    (ChangeSpec.witness6 (enc := enc) (C := Try.checked) false ⟨#[], #[.slice none 0 0, .slice none 0 0, .int .i64 0, .int .u64 0], []⟩ 8 (by kernel_rfl) (by kernel_rfl) (by kernel_rfl) (by kernel_rfl)) ?_
  intro W base args ds gs before hval0 hW _ _
  have hval : ∀ (j : Nat) t v, Try.f3.params[j]? = some t → args[j]? = some v → Value.okWide Try.prog W .any base t v := hval0
  have hW' := hW
  obtain ⟨p, q, hA0, hV, rfl, _, _⟩ := hW
  have hA : DataW.TrodAll enc Try.prog W 0 (fun _ => true) true Try.f3.params.toList args.toList ds p := hA0
  rw [Try.params3] at hA hval
  obtain ⟨v0, vs0, d0, ds0, p0, q0, hargs, rfl, rfl, h0, r0⟩ := trodAll_cons hA
  obtain ⟨v1, vs1, d1, ds1, p1, q1, rfl, rfl, rfl, h1, r1⟩ := trodAll_cons r0
  obtain ⟨v2, vs2, d2, ds2, p2, q2, rfl, rfl, rfl, h2, r2⟩ := trodAll_cons r1
  obtain ⟨v3, vs3, d3, ds3, p3, q3, rfl, rfl, rfl, h3, r3⟩ := trodAll_cons r2
  obtain ⟨rfl, rfl, rfl⟩ := trodAll_nil r3
  obtain rfl : args = #[v0, v1, v2, v3] := by cases args; simp_all
  obtain ⟨rfl, rfl⟩ := trodVars_none hV
  have k0 := h0
  have lt0 : ∀ x ∈ p0, x.block < W.heap.size := by obtain ⟨m, hm⟩ := k0; exact DataW.trod_lt m _ _ _ hm
  have k1 := h1
  have lt1 : ∀ x ∈ p1, x.block < W.heap.size := by obtain ⟨m, hm⟩ := k1; exact DataW.trod_lt m _ _ _ hm
  have k2 := h2
  have lt2 : ∀ x ∈ p2, x.block < W.heap.size := by obtain ⟨m, hm⟩ := k2; exact DataW.trod_lt m _ _ _ hm
  have k3 := h3
  have lt3 : ∀ x ∈ p3, x.block < W.heap.size := by obtain ⟨m, hm⟩ := k3; exact DataW.trod_lt m _ _ _ hm
  have hwalk : Calls Try.prog 3 #[v0, v1, v2, v3] W fun e w' => e = .returned (.bool true) ∧ Below W.heap.size W w' := by
    obtain ⟨a0, len0, cap0, rfl⟩ := okWide_slice Try.underlying22 (hval 0 22 v0 rfl rfl)
    obtain ⟨a1, len1, cap1, rfl⟩ := okWide_slice Try.underlying22 (hval 1 22 v1 rfl rfl)
    obtain ⟨x2, rfl, _, _, _⟩ := open_int Try.underlying3 (hval 2 3 v2 rfl rfl) h2
    obtain ⟨x3, rfl, _, _, wf3⟩ := open_int Try.underlying23 (hval 3 23 v3 rfl rfl) h3
    obtain ⟨fuel, hf⟩ := h0
    obtain ⟨fuel1, hf1⟩ := h1
    obtain ⟨a, A, n, c, hv, hl, hc1, hc2, hL, hu⟩ := open_nums Try.underlying22 Try.underlying23 (by kernel_rfl) (by simpa [Value.cells] using hf)
    obtain ⟨b, A2, m, c2, hv2, hl2, hc3, hc4, hL2, hu2⟩ := open_nums Try.underlying22 Try.underlying23 (by kernel_rfl) (by simpa [Value.cells] using hf1)
    rw [hv, hv2]
    have b3 := bounds_u64 wf3
    obtain ⟨y, rfl⟩ : ∃ y : Nat, x3 = (y : Int) := ⟨x3.toNat, by omega⟩
    by_cases hn : n ≤ 100
    · by_cases hm : m ≤ 100
      · exact vecIs_walk A n c a A2 m c2 b x2 y W hn hm hl hL hl2 hL2 hu2
      · exact vecIs_long2 A n c A2 m c2 _ _ W hn (by omega)
    · exact vecIs_long A n c A2 m c2 _ _ W (by omega)
  clear hA0 hval0
  refine hwalk.mono fun e W' ⟨he, bel⟩ => ?_
  subst he
  exact ⟨_, rfl, _, _, _, [], _, [], hW', trodAll_mk1 (shut_bool Try.underlying4 _), (trodAll_cons_mk (Below.trod laidOut (by kernel_rfl) (of_decide_eq_true (by kernel_rfl)) k0 bel lt0) (trodAll_cons_mk (Below.trod laidOut (by kernel_rfl) (of_decide_eq_true (by kernel_rfl)) k1 bel lt1) (trodAll_cons_mk (Below.trod laidOut (by kernel_rfl) (of_decide_eq_true (by kernel_rfl)) k2 bel lt2) (trodAll_cons_mk (Below.trod laidOut (by kernel_rfl) (of_decide_eq_true (by kernel_rfl)) k3 bel lt3) trodAll_mk0)))), rfl, bel.frame _, fun h => by cases h⟩

theorem vecIs_proved : Rows.VecIsSaid :=
  OpenClaim.holds_of_wide 3 Try.f3 rfl rfl rfl rfl rfl rfl rfl ⟨rfl, rfl, rfl, rfl, rfl⟩ rfl rfl rfl rfl rfl (by kernel_rfl) Try.func3 (by kernel_rfl)
    (of_decide_eq_true (by kernel_rfl)) (by unfold Func.isWrapper; first | (rw [if_pos (by decide +kernel)]; kernel_rfl) | (rw [if_neg (by decide +kernel)]; exact ⟨rfl, rfl⟩))
    (fun os started H enc _ => vecIs_lifted os started H enc)

end Go.Proofs.Ytjhdaddemeegmaa
