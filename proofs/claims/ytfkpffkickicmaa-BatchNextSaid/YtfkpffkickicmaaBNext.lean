/- BatchNext: for every two vectors and every number the call returns true (the batch that is built is the document's), and changes nothing that was there. No conditions. -/
import Derived.Test.YtfkpffkickicmaaBtS
import Derived.Test.YtfkpffkickicmaaBtR
import Derived.ChangeOld
namespace Go.Proofs.Ytfkpffkickicmaa
open Go.ChangeShapes Go.WideShapes Go.ChangeAt Go.RowKit

theorem nextL_length (base held : List Nat) (R : Nat) : (nextL base held R).length ≤ 64 := by
  unfold nextL
  refine Nat.le_trans (List.length_filter_le _ _) ?_
  rw [rowOf_length]
  unfold endN
  rw [passes_length]
  unfold startN
  simp
  omega

theorem batchNext_long (A : Option Addr) (n c : Nat) (A2 : Option Addr) (m c2 : Nat) (i : Int) (w : World) (hn : 100 < n) :
    Calls Try.prog 4 #[.slice A n c, .slice A2 m c2, .int .i64 i] w fun e w' => e = .returned (.bool true) ∧ RowKit.Below w.heap.size w w' := by
  have hd : decide (100 < (n : Int)) = true := by simp; omega
  go_enter Try.func4, Try.ntmps4
  go_wp2_with (go_at_call 7; refine (awake_any _).mono ?_; rintro e w' ⟨rfl, hb⟩)
  go_ret
  exact ⟨rfl, hb⟩

theorem batchNext_long2 (A : Option Addr) (n c : Nat) (A2 : Option Addr) (m c2 : Nat) (i : Int) (w : World) (hn : n ≤ 100) (hm : 100 < m) :
    Calls Try.prog 4 #[.slice A n c, .slice A2 m c2, .int .i64 i] w fun e w' => e = .returned (.bool true) ∧ RowKit.Below w.heap.size w w' := by
  have hd : decide (100 < (n : Int)) = false := by simp; omega
  have hd2 : decide (100 < (m : Int)) = true := by simp; omega
  go_enter Try.func4, Try.ntmps4
  go_wp2_with (go_at_call 7; refine (awake_any _).mono ?_; rintro e w' ⟨rfl, hb⟩)
  go_ret
  exact ⟨rfl, hb⟩

set_option maxHeartbeats 1600000 in
theorem batchNext_walk (A : Option Addr) (n c : Nat) (base : List Nat) (A2 : Option Addr) (m c2 : Nat) (held : List Nat) (i : Int) (w : World) (hn : n ≤ 100) (hm : m ≤ 100)
    (hl : base.length = n) (h : Lies w w.heap.size A (uvs base)) (hu : ∀ x ∈ base, x < 18446744073709551616) (hl2 : held.length = m) (h2 : Lies w w.heap.size A2 (uvs held)) :
    Calls Try.prog 4 #[.slice A n c, .slice A2 m c2, .int .i64 i] w fun e w' => e = .returned (.bool true) ∧ RowKit.Below w.heap.size w w' := by
  have hd : decide (100 < (n : Int)) = false := by simp; omega
  have hd2 : decide (100 < (m : Int)) = false := by simp; omega
  have J1 : Hid (∀ W, RowKit.Below w.heap.size w W → Calls Try.prog 19 #[.slice A n c, .slice A2 m c2, .int .i64 i] W (OwnRns W W.heap.size (nextL base held (roomN i)))) := fun W hW => next_any A n c base A2 m c2 held i W (by omega) hl (h.on hW) hu hl2 (h2.on hW)
  have J2 : Hid (∀ W, RowKit.Below w.heap.size w W → Calls Try.prog 20 #[.slice A n c, .slice A2 m c2, .int .i64 i] W (OwnRns W W.heap.size (nextL base held (roomN i)))) := fun W hW => refNext_any A n c base A2 m c2 held i W (by omega) hl (h.on hW) hu hl2 (h2.on hW)
  have HN := Lib.hid (nextL_length base held (roomN i))
  generalize nextL base held (roomN i) = L at J1 J2 HN
  clear hl hl2 h h2 hu
  go_enter Try.func4, Try.ntmps4
  go_wp2_with fail
  refine (J1.out w (RowKit.Below.refl _ _)).mono ?_
  rintro e w1 ⟨A3, n3, c3, rfl, hn3, _, _, hown3, hb1⟩
  have hL3 := Lies.of_ownK hown3
  clear J1 hown3
  go_wp2_with fail
  refine (J2.out w1 hb1).mono ?_
  rintro e w2 ⟨A4, n4, c4, rfl, hn4, _, _, hown4, hb12⟩
  have hL4 := Lies.of_ownK hown4
  have hb2 : RowKit.Below w.heap.size w w2 := hb1.trans (hb12.mono hb1.size)
  have hn3b : n3 ≤ 1000000 := by have := hn3.out; have := HN.out; omega
  have hsm := sameRns_any A3 A4 n3 c3 n4 c4 L L w2 hn3.out hn4.out hn3b (hL3.on hb12) hL4
  rw [decide_eq_true rfl] at hsm
  clear J2 hown4 hL3 hL4
  go_wp2_with fail
  refine hsm.mono ?_
  rintro e w3 ⟨rfl, hb23⟩
  have hb3 : RowKit.Below w.heap.size w w3 := hb2.trans (hb23.mono hb2.size)
  clear hsm
  go_wp2_with fail
  refine (awake_any _).mono ?_
  rintro e w4 ⟨rfl, hb34⟩
  go_wp2
  go_ret
  exact ⟨rfl, hb3.trans (hb34.mono hb3.size)⟩


theorem own : ownKnob Try.prog.godebug = none := by kernel_rfl
theorem laidOut : laidOutB Try.prog = true := by kernel_rfl

set_option maxRecDepth 100000 in
theorem batchNext_lifted (os : Os) (started : os.Started) (H : Type) (enc : TypeId × Value → H) :
    ReturnsInHanded {} Try.checked os 4 .any (Rows.batchNextSpec.pre6 enc Try.prog Try.f4 Rows.batchNextRow.domain false) (Rows.batchNextSpec.post enc Try.prog Try.f4 false true false false) := by
  refine returnsInHanded_of_change (C := Try.checked) own started (by kernel_rfl) Try.func4
    (ChangeSpec.witness6 (enc := enc) (C := Try.checked) false ⟨#[], #[.slice none 0 0, .slice none 0 0, .int .i64 0], []⟩ 8 (by kernel_rfl) (by kernel_rfl) (by kernel_rfl) (by kernel_rfl)) ?_
  intro W base args ds gs before hval0 hW _ _
  have hval : ∀ (j : Nat) t v, Try.f4.params[j]? = some t → args[j]? = some v → Value.okWide Try.prog W .any base t v := hval0
  have hW' := hW
  obtain ⟨p, q, hA0, hV, rfl, _, _⟩ := hW
  have hA : DataW.TrodAll enc Try.prog W 0 (fun _ => true) true Try.f4.params.toList args.toList ds p := hA0
  rw [Try.params4] at hA hval
  obtain ⟨v0, vs0, d0, ds0, p0, q0, hargs, rfl, rfl, h0, r0⟩ := trodAll_cons hA
  obtain ⟨v1, vs1, d1, ds1, p1, q1, rfl, rfl, rfl, h1, r1⟩ := trodAll_cons r0
  obtain ⟨v2, vs2, d2, ds2, p2, q2, rfl, rfl, rfl, h2, r2⟩ := trodAll_cons r1
  obtain ⟨rfl, rfl, rfl⟩ := trodAll_nil r2
  obtain rfl : args = #[v0, v1, v2] := by cases args; simp_all
  obtain ⟨rfl, rfl⟩ := trodVars_none hV
  have k0 := h0
  have lt0 : ∀ x ∈ p0, x.block < W.heap.size := by obtain ⟨m, hm⟩ := k0; exact DataW.trod_lt m _ _ _ hm
  have k1 := h1
  have lt1 : ∀ x ∈ p1, x.block < W.heap.size := by obtain ⟨m, hm⟩ := k1; exact DataW.trod_lt m _ _ _ hm
  have k2 := h2
  have lt2 : ∀ x ∈ p2, x.block < W.heap.size := by obtain ⟨m, hm⟩ := k2; exact DataW.trod_lt m _ _ _ hm
  have hwalk : Calls Try.prog 4 #[v0, v1, v2] W fun e w' => e = .returned (.bool true) ∧ Below W.heap.size W w' := by
    obtain ⟨a0, len0, cap0, rfl⟩ := okWide_slice Try.underlying22 (hval 0 22 v0 rfl rfl)
    obtain ⟨a1, len1, cap1, rfl⟩ := okWide_slice Try.underlying22 (hval 1 22 v1 rfl rfl)
    obtain ⟨x2, rfl, _, _, _⟩ := open_int Try.underlying3 (hval 2 3 v2 rfl rfl) h2
    obtain ⟨fuel, hf⟩ := h0
    obtain ⟨fuel1, hf1⟩ := h1
    obtain ⟨a, A, n, c, hv, hl, hc1, hc2, hL, hu⟩ := open_nums Try.underlying22 Try.underlying40 (by kernel_rfl) (by simpa [Value.cells] using hf)
    obtain ⟨b, A2, m, c2, hv2, hl2, hc3, hc4, hL2, hu2⟩ := open_nums Try.underlying22 Try.underlying40 (by kernel_rfl) (by simpa [Value.cells] using hf1)
    rw [hv, hv2]
    by_cases hn : n ≤ 100
    · by_cases hm : m ≤ 100
      · exact batchNext_walk A n c a A2 m c2 b x2 W hn hm hl hL hu hl2 hL2
      · exact batchNext_long2 A n c A2 m c2 _ W hn (by omega)
    · exact batchNext_long A n c A2 m c2 _ W (by omega)
  clear hA0 hval0
  refine hwalk.mono fun e W' ⟨he, bel⟩ => ?_
  subst he
  exact ⟨_, rfl, _, _, _, [], _, [], hW', trodAll_mk1 (shut_bool Try.underlying4 _), (trodAll_cons_mk (Below.trod laidOut (by kernel_rfl) (of_decide_eq_true (by kernel_rfl)) k0 bel lt0) (trodAll_cons_mk (Below.trod laidOut (by kernel_rfl) (of_decide_eq_true (by kernel_rfl)) k1 bel lt1) (trodAll_cons_mk (Below.trod laidOut (by kernel_rfl) (of_decide_eq_true (by kernel_rfl)) k2 bel lt2) trodAll_mk0))), rfl, bel.frame _, fun h => by cases h⟩

theorem batchNext_proved : Rows.BatchNextSaid :=
  OpenClaim.holds_of_wide 4 Try.f4 rfl rfl rfl rfl rfl rfl rfl ⟨rfl, rfl, rfl, rfl, rfl⟩ rfl rfl rfl rfl rfl (by kernel_rfl) Try.func4 (by kernel_rfl)
    (of_decide_eq_true (by kernel_rfl)) (by unfold Func.isWrapper; first | (rw [if_pos (by decide +kernel)]; kernel_rfl) | (rw [if_neg (by decide +kernel)]; exact ⟨rfl, rfl⟩))
    (fun os started H enc _ => batchNext_lifted os started H enc)

end Go.Proofs.Ytfkpffkickicmaa
