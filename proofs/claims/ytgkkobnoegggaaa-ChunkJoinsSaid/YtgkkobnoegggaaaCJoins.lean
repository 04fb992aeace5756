/- ChunkJoins: for every payload and every chunk's size from 1 to 65536 the call returns true (all chunks, one behind the other, are the payload, and have the lengths that are told), and changes nothing that was there. No conditions. -/
import Derived.Test.YtgkkobnoegggaaaCkF
import Derived.Test.YtgkkobnoegggaaaHeld
import Derived.ChangeOld
namespace Go.Proofs.Ytgkkobnoegggaaa
open Go.ChangeShapes Go.WideShapes Go.ChangeAt Go.RowKit

theorem joins_many (A : Option Addr) (n c : Nat) (b : Int) (W : World) (hn : 2000 < n) : Calls Try.prog 5 #[.slice A n c, .int .u16 b] W fun e w' => e = .returned (.bool true) ∧ Below W.heap.size W w' := by
  have hA := awake_any W
  have hb := Below.refl W.heap.size W
  have d1 : decide ((2000 : Int) < (n : Int)) = true := by simp; omega
  go_enter Try.func5, Try.ntmps5
  go_wp2_with (go_at_call 8; refine hA.mono ?_; rintro e w' ⟨rfl, rfl⟩)
  go_ret
  exact ⟨rfl, hb⟩

set_option maxRecDepth 20000 in
set_option maxHeartbeats 1600000 in
theorem joins_walk (A : Option Addr) (n c : Nat) (l : List UInt8) (b : Nat) (W : World) (hl : l.length = n) (hn : n ≤ 2000) (hc : n ≤ c) (hm : c ≤ maxLen) (hL : Lies W W.heap.size A (bvs l)) (hb : b < 65536) :
    Calls Try.prog 5 #[.slice A n c, .int .u16 (b : Int)] W fun e w' => e = .returned (.bool true) ∧ Below W.heap.size W w' := by
  obtain ⟨i0, hi, hz0, hz1, hz2⟩ := info_parts Try.info5
  have d1 : decide ((2000 : Int) < (n : Int)) = false := by simp; omega
  have HKE : Hid ((1 : Int) + (b : Int) = ((b + 1 : Nat) : Int)) := by show _ = _; omega
  have hcle := cntN_le n (b + 1)
  have hcpos := cntN_pos n (b + 1)
  have HCN : Hid (∀ V, Calls Try.prog 9 #[.int .i64 (n : Int), .int .i64 (1 + (b : Int))] V fun e w' => e = .returned (.int .i64 (cntN n (b + 1) : Int)) ∧ w' = V) := fun V => by
    rw [HKE.out]; exact count_yes n (b + 1) (by omega) (by omega) (by omega) V
  have HCU : Hid (∀ V, Below W.heap.size W V → ∀ j, j < cntN n (b + 1) → Calls Try.prog 14 #[.slice A n c, .int .i64 (1 + (b : Int)), .int .i64 (j : Int)] V (CutBytes V (chL l (b + 1) j) true)) := fun V hV j hj => by
    rw [HKE.out]; exact cut_yes (b + 1) j hl (by omega) hc hm (hL.later hV) (by omega) (by omega) hj
  have HCE : Hid (∀ V, Below W.heap.size W V → Calls Try.prog 14 #[.slice A n c, .int .i64 (1 + (b : Int)), .int .i64 (cntN n (b + 1) : Int)] V (CutBytes V [] false)) := fun V hV => by
    rw [HKE.out]; exact cut_no _ _ hl hc hm (hL.later hV) (there_end n (b + 1) (by omega) (by omega) (by omega))
  have HLN : Hid (∀ V, ∀ j, j < cntN n (b + 1) → Calls Try.prog 11 #[.int .i64 (n : Int), .int .i64 (1 + (b : Int)), .int .i64 (j : Int)] V fun e w' => e = .returned (.int .i64 ((chL l (b + 1) j).length : Int)) ∧ w' = V) := fun V j hj => by
    rw [HKE.out]; exact length_yes (b + 1) j hl (by omega) (by omega) (by omega) hj V
  have HAL : Hid (l.take (cntN n (b + 1) * (b + 1)) = l) := by show _ = _; rw [← hl]; exact take_all (by omega)
  have HLL := Lib.hid hl
  have HST : Hid (∀ V, Below W.heap.size W V → (convert 29 9 (.slice A n c)).run Try.prog V = .ok (.string (str l)) V) := fun V hV => strs_at hl (hL.later hV)
  generalize hN : cntN n (b + 1) = N at *
  clear hN HKE hl hL
  have hN2 : N ≤ 2001 := by omega
  go_enter Try.func5, Try.ntmps5
  go_wp2_with (first | (go_at_call 9; refine (HCN.out _).mono ?_; rintro e w' ⟨rfl, rfl⟩) | fail)
  have hR0 : PutRel W (bvs (l.take (0 * (b + 1)))) (.slice (some ⟨W.heap.size, 0, none⟩) 0 0) (W.alloc (.cells #[] 5)) := by
    rw [Nat.zero_mul, List.take_zero]
    exact PutRel.of (World.ownsRow_lit W #[] 0 (Nat.le_refl _) (Nat.zero_le _) rfl) ((Below.refl _ _).alloc (Nat.le_refl _) _)
  go_loopw [6, 8] (fun v i wr => ∃ (j : Nat), j ≤ N ∧ i = .int .i64 j ∧ PutRel W (bvs (l.take (j * (b + 1)))) v wr) (fun _ i _ => N - (intOf i).toNat)
  case atStart => exact ⟨0, Nat.zero_le _, rfl, hR0⟩
  case round =>
    obtain ⟨j, hj, rfl, hR⟩ := hrel
    obtain ⟨L, hoL, hbL, hLL⟩ := id hR
    have hLn : L ≤ 2000 := by rw [← hLL, bvs_length, List.length_take, HLL.out]; omega
    clear hR hLL
    by_cases hlt : j < N
    · have HCU1 := Lib.hid (HCU.out wr hbL j hlt)
      have HOL := Lib.hid hoL
      have HBL := Lib.hid hbL
      obtain ⟨Al, cl, hv, hcl1, hcl2⟩ := own_slice hoL
      subst hv
      clear hoL hbL
      go_wp2_with fail
      refine HCU1.out.mono ?_
      rintro e w2 ⟨A2, n2, c2, rfl, hl2, hc2, hm2, ho2, hb2⟩
      have HLN1 := Lib.hid (HLN.out w2 j hlt)
      have e2 := hl2.out
      rw [e2] at HLN1
      have hch := chL_len l (b + 1) j
      have hn2 : n2 ≤ 65536 := by omega
      clear hch
      have HO := Lib.hid (own_below HOL.out hb2)
      have HN2 := Lib.hid (Lies.of_own ho2)
      have HB2 : Hid (Below W.heap.size W w2) := HBL.out.trans (hb2.mono HBL.out.size)
      have HE2 := Lib.hid e2
      clear ho2 hb2 e2 hl2
      go_wp2_with fail
      refine HLN1.out.mono ?_
      rintro e w3 ⟨rfl, hw3⟩
      subst hw3
      go_wp2_with (at_builtin; refine wpList_append_lst rfl _ _ 29 rfl W.heap.size 5 i0 (.int .u8 0) 1 Try.underlying29 hi hz0 hz1 hz2 rfl _ _ _ rfl HO.out _ _ _ _ (bvs (chL l (b + 1) j)) rfl ?d0 HN2.out (bvs_one _) ?d2 ?d3 HB2.out.size ?_)
      case d0 => rw [bvs_length]; exact HE2.out
      case d2 => unfold maxLen; omega
      case d3 => omega
      intro v4 w4 hown4 hg4 hb4 _
      have HR4 : Hid (PutRel W (bvs (l.take ((j + 1) * (b + 1)))) v4 w4) := by
        show PutRel _ _ _ _
        rw [← take_chunk, bvs_append]
        exact PutRel.of hown4 (HB2.out.trans hb4)
      clear hown4 hg4 hb4
      go_wp2
      go_roundw
      case rel => exact ⟨j + 1, by omega, by go_num, HR4.out⟩
      case measure => simp [intOf]; omega
    · obtain rfl : j = N := by omega
      have HCE1 := Lib.hid (HCE.out wr hbL)
      have HOL := Lib.hid hoL
      have HBL := Lib.hid hbL
      obtain ⟨Al, cl, hv, hcl1, hcl2⟩ := own_slice hoL
      subst hv
      clear hoL hbL hlt
      go_wp2_with fail
      refine HCE1.out.mono ?_
      rintro e w2 ⟨A2, n2, c2, rfl, hl2, hc2, hm2, ho2, hb2⟩
      have HB2 : Hid (Below W.heap.size W w2) := HBL.out.trans (hb2.mono HBL.out.size)
      have s1 := HST.out w2 HB2.out
      have hO := own_below HOL.out hb2
      rw [HAL.out] at hO
      have hlL : l.length = L := by have := own_len hO; rwa [bvs_length] at this
      have s2 := strs_at (c := cl) hlL (Lies.of_own hO)
      have HA := Lib.hid (awake_any w2)
      have dn : decide (0 < j) = true := by simp; omega
      clear ho2 hb2 hl2 hO hlL
      go_wp2_with (go_at_call 8; refine HA.out.mono ?_; rintro e w' ⟨rfl, rfl⟩)
      go_ret
      exact ⟨rfl, HB2.out⟩

theorem own : ownKnob Try.prog.godebug = none := by kernel_rfl
theorem laidOut : laidOutB Try.prog = true := by kernel_rfl

set_option maxRecDepth 100000 in
theorem chunkJoins_lifted (os : Os) (started : os.Started) (H : Type) (enc : TypeId × Value → H) :
    ReturnsInHanded {} Try.checked os 5 .any (Rows.chunkJoinsSpec.pre6 enc Try.prog Try.f5 Rows.chunkJoinsRow.domain false) (Rows.chunkJoinsSpec.post enc Try.prog Try.f5 false true false false) := by
  refine returnsInHanded_of_change (C := Try.checked) own started (by kernel_rfl) Try.func5
    (ChangeSpec.witness6 (enc := enc) (C := Try.checked) false ⟨#[], #[.slice none 0 0, .int .u16 0], []⟩ 8 (by kernel_rfl) (by kernel_rfl) (by kernel_rfl) (by kernel_rfl)) ?_
  intro W base args ds gs before hval0 hW _ _
  have hval : ∀ (j : Nat) t v, Try.f5.params[j]? = some t → args[j]? = some v → Value.okWide Try.prog W .any base t v := hval0
  have hW' := hW
  obtain ⟨p, q, hA0, hV, rfl, _, _⟩ := hW
  have hA : DataW.TrodAll enc Try.prog W 0 (fun _ => true) true Try.f5.params.toList args.toList ds p := hA0
  rw [Try.params5] at hA hval
  obtain ⟨v0, vs0, d0, ds0, p0, q0, hargs, rfl, rfl, h0, r0⟩ := trodAll_cons hA
  obtain ⟨v1, vs1, d1, ds1, p1, q1, rfl, rfl, rfl, h1, r1⟩ := trodAll_cons r0
  obtain ⟨rfl, rfl, rfl⟩ := trodAll_nil r1
  obtain rfl : args = #[v0, v1] := by cases args; simp_all
  obtain ⟨rfl, rfl⟩ := trodVars_none hV
  have k0 := h0
  have lt0 : ∀ x ∈ p0, x.block < W.heap.size := by obtain ⟨m, hm⟩ := k0; exact DataW.trod_lt m _ _ _ hm
  have k1 := h1
  have lt1 : ∀ x ∈ p1, x.block < W.heap.size := by obtain ⟨m, hm⟩ := k1; exact DataW.trod_lt m _ _ _ hm
  obtain ⟨a1, rfl, _, _, wf1⟩ := open_int Try.underlying46 (hval 1 46 v1 rfl rfl) h1
  have hwalk : Calls Try.prog 5 #[v0, .int .u16 a1] W fun e w' => e = .returned (.bool true) ∧ Below W.heap.size W w' := by
    obtain ⟨x0, len0, cap0, rfl⟩ := okWide_slice Try.underlying29 (hval 0 29 v0 rfl rfl)
    obtain ⟨fuel0, hf0⟩ := h0
    obtain ⟨l, A, n, c, hv, hl, hc, hcm, hL⟩ := open_bytes Try.underlying29 Try.underlying5 (by kernel_rfl) (by simpa [Value.cells] using hf0)
    injection hv with e1 e2 e3
    subst e1 e2 e3
    by_cases hn : 2000 < len0
    · exact joins_many _ _ _ _ W hn
    · have b1 := bounds_u16 wf1
      obtain ⟨b, rfl⟩ : ∃ k : Nat, a1 = (k : Int) := ⟨a1.toNat, by omega⟩
      exact joins_walk x0 len0 cap0 l b W hl (by omega) hc hcm hL (by omega)
  clear hA0 hval0
  refine hwalk.mono fun e W' ⟨he, bel⟩ => ?_
  subst he
  exact ⟨_, rfl, _, _, _, [], _, [], hW', trodAll_mk1 (shut_bool Try.underlying4 _), (trodAll_cons_mk (Below.trod laidOut (by kernel_rfl) (of_decide_eq_true (by kernel_rfl)) k0 bel lt0) (trodAll_cons_mk (Below.trod laidOut (by kernel_rfl) (of_decide_eq_true (by kernel_rfl)) k1 bel lt1) trodAll_mk0)), rfl, bel.frame _, fun h => by cases h⟩

theorem chunkJoins_proved : Rows.ChunkJoinsSaid :=
  OpenClaim.holds_of_wide 5 Try.f5 rfl rfl rfl rfl rfl rfl rfl ⟨rfl, rfl, rfl, rfl, rfl⟩ rfl rfl rfl rfl rfl (by kernel_rfl) Try.func5 (by kernel_rfl)
    (of_decide_eq_true (by kernel_rfl)) (by unfold Func.isWrapper; first | (rw [if_pos (by decide +kernel)]; kernel_rfl) | (rw [if_neg (by decide +kernel)]; exact ⟨rfl, rfl⟩))
    (fun os started H enc _ => chunkJoins_lifted os started H enc)

end Go.Proofs.Ytgkkobnoegggaaa
