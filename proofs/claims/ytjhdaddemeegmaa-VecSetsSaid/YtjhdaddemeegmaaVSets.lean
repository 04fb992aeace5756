/- VecSets: for every vector, place and number the call returns true (a vector with another number for a process has that, and for all others what it had), and changes nothing that was there. No conditions. -/
import Derived.Test.YtjhdaddemeegmaaVcE
import Derived.Test.YtjhdaddemeegmaaVcF
import Derived.ChangeOld
namespace Go.Proofs.Ytjhdaddemeegmaa
open Go.ChangeShapes Go.WideShapes Go.ChangeAt Go.RowKit

theorem num_set_same (a : List Nat) (p n : Nat) : num (setL a p n) p = n := by
  rw [num_in (by rw [setL_length]; omega)]
  simp [setL]

theorem num_long (a : List Nat) (p k : Nat) : num (longL a p) k = num a k := by
  by_cases h : k < a.length
  · rw [num_in h, num_in (by rw [longL_length]; omega)]
    simp [longL, h]
  · rw [num_out (l := a) (by omega)]
    by_cases h2 : k < (longL a p).length
    · rw [num_in h2]
      simp only [longL]
      rw [List.getElem_append_right (by omega), List.getElem_replicate]
    · exact num_out (by omega)

theorem num_set_other (a : List Nat) (p n k : Nat) (h : k ≠ p) : num (setL a p n) k = num a k := by
  rw [← num_long a p k]
  by_cases h2 : k < (longL a p).length
  · rw [num_in h2, num_in (by rw [setL_length, ← longL_length]; exact h2)]
    simp only [setL]
    rw [List.getElem_set_ne (by omega)]
  · rw [num_out (l := longL a p) (by omega), num_out (by rw [setL_length, ← longL_length]; omega)]

theorem vecSets_long (A : Option Addr) (n c : Nat) (i x : Int) (w : World) (hn : 64 < n) :
    Calls Try.prog 7 #[.slice A n c, .int .u8 i, .int .u64 x] w fun e w' => e = .returned (.bool true) ∧ Below w.heap.size w w' := by
  go_enter Try.func7, Try.ntmps7
  go_wp2_with (go_at_call 9; refine (awake_any _).mono ?_; rintro e w' ⟨rfl, hb⟩)
  go_ret
  exact ⟨rfl, hb⟩

set_option maxHeartbeats 1600000 in
theorem vecSets_walk (A : Option Addr) (n c i x : Nat) (l : List Nat) (w : World) (hn : n ≤ 64) (hi : i < 256) (hl : l.length = n) (h : Lies w w.heap.size A (uvs l)) :
    Calls Try.prog 7 #[.slice A n c, .int .u8 (i : Int), .int .u64 (x : Int)] w fun e w' => e = .returned (.bool true) ∧ Below w.heap.size w w' := by
  have hd : decide (64 < (n : Int)) = false := by simp; omega
  have HL := Lib.hid hl
  clear hl
  obtain ⟨p, hp⟩ : ∃ p, p = i % 64 := ⟨_, rfl⟩
  have hp64 : p < 64 := by omega
  have e1 : (i : Int) % 64 = (p : Int) := by omega
  have hs := set_nat A n c p x l w (by omega) hp64 HL.out h
  clear hp
  go_enter Try.func7, Try.ntmps7
  go_wp2_with fail
  refine hs.mono ?_
  intro e w1 ho
  obtain ⟨A1, n1, c1, rfl, hn1, h1, h2, hL1, hb1⟩ := ho.use
  clear ho hs
  have hn1' : n1 = max n (p + 1) := by have := hn1.out; rw [setL_length, HL.out] at this; exact this.symm
  have HS : Hid (num (setL l p x) p = x) := num_set_same l p x
  have HO : Hid (∀ k, k ≠ p → num (setL l p x) k = num l k) := fun k hk => num_set_other l p x k hk
  generalize setL l p x = L at hn1 hL1 HS HO
  have hat := at_nat A1 n1 c1 p w1.heap.size L w1 hn1.out hL1
  rw [HS.out] at hat
  have hX : Hid (∀ k : Nat, Calls Try.prog 13 #[.slice A1 n1 c1, .int .i64 (k : Int)] w1 fun e w' => e = .returned (.int .u64 (num L k : Int)) ∧ w1 = w') := fun k => at_nat A1 n1 c1 k w1.heap.size L w1 hn1.out hL1
  have hY : Hid (∀ k : Nat, Calls Try.prog 13 #[.slice A n c, .int .i64 (k : Int)] w1 fun e w' => e = .returned (.int .u64 (num l k : Int)) ∧ w1 = w') := fun k => at_nat A n c k w1.heap.size l w1 HL.out (h.later hb1)
  clear hL1 h hn1 HS HL h1 h2
  by_cases hnp : n < p + 1
  · obtain rfl : n1 = p + 1 := by omega
    clear hn1'
    go_wp2_with (go_at_call 13; refine hat.mono ?_; rintro e w2 ⟨rfl, rfl⟩)
    clear hat
    go_loop [9] (fun i => ∃ k : Nat, k ≤ 64 ∧ i = .int .i64 k) (fun i => 64 - (intOf i).toNat)
    case atStart => exact ⟨0, Nat.zero_le _, rfl⟩
    case round =>
      obtain ⟨k, hk, rfl⟩ := hrel
      by_cases hlt : k < 64
      · by_cases hkp : k = p
        · subst hkp
          go_wp2
          go_round
          case rel => exact ⟨k + 1, by omega, by go_num⟩
          case measure => simp [intOf]; omega
        · have d1 := hX.out k
          rw [HO.out k hkp] at d1
          have d2 := hY.out k
          generalize num l k = y at d1 d2
          have hne : ((k : Int) == (p : Int)) = false := by simp; omega
          go_wp2_with fail
          refine d1.mono ?_
          rintro e w2 ⟨rfl, rfl⟩
          go_wp2_with fail
          refine d2.mono ?_
          rintro e w2 ⟨rfl, rfl⟩
          go_wp2
          go_round
          case rel => exact ⟨k + 1, by omega, by go_num⟩
          case measure => simp [intOf]; omega
      · go_wp2_with (go_at_call 9; refine (awake_any _).mono ?_; rintro e w' ⟨rfl, hb⟩)
        go_ret
        exact ⟨rfl, hb1.trans (hb.mono hb1.size)⟩
  · obtain rfl : n = n1 := by omega
    clear hn1'
    go_wp2_with (go_at_call 13; refine hat.mono ?_; rintro e w2 ⟨rfl, rfl⟩)
    clear hat
    go_loop [9] (fun i => ∃ k : Nat, k ≤ 64 ∧ i = .int .i64 k) (fun i => 64 - (intOf i).toNat)
    case atStart => exact ⟨0, Nat.zero_le _, rfl⟩
    case round =>
      obtain ⟨k, hk, rfl⟩ := hrel
      by_cases hlt : k < 64
      · by_cases hkp : k = p
        · subst hkp
          go_wp2
          go_round
          case rel => exact ⟨k + 1, by omega, by go_num⟩
          case measure => simp [intOf]; omega
        · have d1 := hX.out k
          rw [HO.out k hkp] at d1
          have d2 := hY.out k
          generalize num l k = y at d1 d2
          have hne : ((k : Int) == (p : Int)) = false := by simp; omega
          go_wp2_with fail
          refine d1.mono ?_
          rintro e w2 ⟨rfl, rfl⟩
          go_wp2_with fail
          refine d2.mono ?_
          rintro e w2 ⟨rfl, rfl⟩
          go_wp2
          go_round
          case rel => exact ⟨k + 1, by omega, by go_num⟩
          case measure => simp [intOf]; omega
      · go_wp2_with (go_at_call 9; refine (awake_any _).mono ?_; rintro e w' ⟨rfl, hb⟩)
        go_ret
        exact ⟨rfl, hb1.trans (hb.mono hb1.size)⟩

theorem own : ownKnob Try.prog.godebug = none := by kernel_rfl
theorem laidOut : laidOutB Try.prog = true := by kernel_rfl

set_option maxRecDepth 100000 in
theorem vecSets_lifted (os : Os) (started : os.Started) (H : Type) (enc : TypeId × Value → H) :
    ReturnsInHanded {} Try.checked os 7 .any (Rows.vecSetsSpec.pre6 enc Try.prog Try.f7 Rows.vecSetsRow.domain false) (Rows.vecSetsSpec.post enc Try.prog Try.f7 false true false false) := by
  refine returnsInHanded_of_change (C := Try.checked) own started (by kernel_rfl) Try.func7
    (ChangeSpec.witness6 (enc := enc) (C := Try.checked) false ⟨#[], #[.slice none 0 0, .int .u8 0, .int .u64 0], []⟩ 8 (by kernel_rfl) (by kernel_rfl) (by kernel_rfl) (by kernel_rfl)) ?_
  intro W base args ds gs before hval0 hW _ _
  have hval : ∀ (j : Nat) t v, Try.f7.params[j]? = some t → args[j]? = some v → Value.okWide Try.prog W .any base t v := hval0
  have hW' := hW
  obtain ⟨p, q, hA0, hV, rfl, _, _⟩ := hW
  have hA : DataW.TrodAll enc Try.prog W 0 (fun _ => true) true Try.f7.params.toList args.toList ds p := hA0
  rw [Try.params7] at hA hval
  obtain ⟨v0, vs0, d0, ds0, p0, q0, hargs, rfl, rfl, h0, r0⟩ := trodAll_cons hA
  obtain ⟨v1, vs1, d1, ds1, p1, q1, rfl, rfl, rfl, h1, r1⟩ := trodAll_cons r0
  obtain ⟨v2, vs2, d2, ds2, p2, q2, rfl, rfl, rfl, h2, r2⟩ := trodAll_cons r1
  obtain ⟨rfl, rfl, rfl⟩ := trodAll_nil r2
  obtain rfl : args = #[v0, v1, v2] := by cases args; simp_all
  obtain ⟨rfl, rfl⟩ := trodVars_none hV
  have k0 := h0
  have lt0 : ∀ x ∈ p0, x.block < W.heap.size := by obtain ⟨m, hm⟩ := k0; exact DataW.trod_lt m _ _ _ hm
  have k1 := h1
  have lt1 : ∀ x ∈ p1, x.block < W.heap.size := by obtain ⟨m, hm⟩ := k1; exact DataW.trod_lt m _ _ _ hm
  have k2 := h2
  have lt2 : ∀ x ∈ p2, x.block < W.heap.size := by obtain ⟨m, hm⟩ := k2; exact DataW.trod_lt m _ _ _ hm
  have hwalk : Calls Try.prog 7 #[v0, v1, v2] W fun e w' => e = .returned (.bool true) ∧ Below W.heap.size W w' := by
    obtain ⟨a0, len0, cap0, rfl⟩ := okWide_slice Try.underlying22 (hval 0 22 v0 rfl rfl)
    obtain ⟨x1, rfl, _, _, wf1⟩ := open_int Try.underlying5 (hval 1 5 v1 rfl rfl) h1
    obtain ⟨x2, rfl, _, _, wf2⟩ := open_int Try.underlying23 (hval 2 23 v2 rfl rfl) h2
    obtain ⟨fuel, hf⟩ := h0
    obtain ⟨l, A, n, c, hv, hl, _, _, hL, _⟩ := open_nums Try.underlying22 Try.underlying23 (by kernel_rfl) (by simpa [Value.cells] using hf)
    rw [hv]
    have b1 := bounds_u8 wf1
    have b2 := bounds_u64 wf2
    obtain ⟨y1, rfl⟩ : ∃ y : Nat, x1 = (y : Int) := ⟨x1.toNat, by omega⟩
    obtain ⟨y2, rfl⟩ : ∃ y : Nat, x2 = (y : Int) := ⟨x2.toNat, by omega⟩
    by_cases hn : n ≤ 64
    · exact vecSets_walk A n c y1 y2 l W hn (by omega) hl hL
    · exact vecSets_long A n c _ _ W (by omega)
  clear hA0 hval0
  refine hwalk.mono fun e W' ⟨he, bel⟩ => ?_
  subst he
  exact ⟨_, rfl, _, _, _, [], _, [], hW', trodAll_mk1 (shut_bool Try.underlying4 _), (trodAll_cons_mk (Below.trod laidOut (by kernel_rfl) (of_decide_eq_true (by kernel_rfl)) k0 bel lt0) (trodAll_cons_mk (Below.trod laidOut (by kernel_rfl) (of_decide_eq_true (by kernel_rfl)) k1 bel lt1) (trodAll_cons_mk (Below.trod laidOut (by kernel_rfl) (of_decide_eq_true (by kernel_rfl)) k2 bel lt2) trodAll_mk0))), rfl, bel.frame _, fun h => by cases h⟩

theorem vecSets_proved : Rows.VecSetsSaid :=
  OpenClaim.holds_of_wide 7 Try.f7 rfl rfl rfl rfl rfl rfl rfl ⟨rfl, rfl, rfl, rfl, rfl⟩ rfl rfl rfl rfl rfl (by kernel_rfl) Try.func7 (by kernel_rfl)
    (of_decide_eq_true (by kernel_rfl)) (by unfold Func.isWrapper; first | (rw [if_pos (by decide +kernel)]; kernel_rfl) | (rw [if_neg (by decide +kernel)]; exact ⟨rfl, rfl⟩))
    (fun os started H enc _ => vecSets_lifted os started H enc)

end Go.Proofs.Ytjhdaddemeegmaa
