/- ChunkOne: for every payload and every chunk's size from 1 to 65536 the call returns true (a payload that isn't longer than a chunk has one, which is all of it; each other one has more, all of them full but for the last one, which isn't empty), and changes nothing that was there. No conditions. -/
import Derived.Test.YtgkkobnoegggaaaCkI
import Derived.ChangeOld
namespace Go.Proofs.Ytgkkobnoegggaaa
open Go.ChangeShapes Go.WideShapes Go.ChangeAt Go.RowKit

theorem one_many (A : Option Addr) (n c : Nat) (b : Int) (W : World) (hn : 2000 < n) : Calls Try.prog 7 #[.slice A n c, .int .u16 b] W fun e w' => e = .returned (.bool true) ∧ Below W.heap.size W w' := by
  have hA := awake_any W
  have hb := Below.refl W.heap.size W
  have d1 : decide ((2000 : Int) < (n : Int)) = true := by simp; omega
  go_enter Try.func7, Try.ntmps7
  go_wp2_with (go_at_call 8; refine hA.mono ?_; rintro e w' ⟨rfl, rfl⟩)
  go_ret
  exact ⟨rfl, hb⟩

set_option maxRecDepth 20000 in
set_option maxHeartbeats 3200000 in
theorem one_short (A : Option Addr) (c : Nat) (l : List UInt8) (b : Nat) (W : World) (hn : l.length ≤ 2000) (hc : l.length ≤ c) (hm : c ≤ maxLen) (hL : Lies W W.heap.size A (bvs l)) (hb : b < 65536) (hs : l.length ≤ b + 1) :
    Calls Try.prog 7 #[.slice A l.length c, .int .u16 (b : Int)] W fun e w' => e = .returned (.bool true) ∧ Below W.heap.size W w' := by
  have d1 : decide ((2000 : Int) < (l.length : Int)) = false := by simp; omega
  have HAL : Hid (Calls Try.prog 15 #[.agg #[.int .u8 0, .int .u64 0], .slice A l.length c, .int .i64 (1 + (b : Int))] W (FrsOut W (allF zid l (b + 1) 1))) := by
    have h1 := all_yes zid A c l (b + 1) W hn hc hm hL (by omega) (by omega)
    rw [cntN_small (by omega) hs, show ((b + 1 : Nat) : Int) = 1 + (b : Int) by omega] at h1
    exact h1
  have hch : chL l (b + 1) 0 = l := by unfold chL; rw [Nat.zero_mul, List.drop_zero, List.take_of_length_le hs]
  have HST : Hid (∀ V, Below W.heap.size W V → (convert 29 9 (.slice A l.length c)).run Try.prog V = .ok (.string (str l)) V) := fun V hV => strs_at rfl (hL.later hV)
  have HCH := Lib.hid hch
  clear hch hL
  go_enter Try.func7, Try.ntmps7
  go_wp2_with fail
  refine HAL.out.mono ?_
  rintro e w2 ⟨A2, n2, c2, rfl, hn2, ho2, hb2⟩
  obtain rfl : 1 = n2 := hn2.out
  obtain ⟨g, y, rfl, hy, hyo, -, -, hyr⟩ := ho2.at_ 0 (by rw [allF_len]; omega)
  rw [allF_at] at hy
  have hyd : y.F.data = l := by rw [hy]; exact HCH.out
  have HB2 := Lib.hid hb2
  have hcell : w2.cell? ⟨g, 15, none⟩ = some (.slice (y.p 4).1 y.F.data.length (y.p 4).2) := hyr 15 _ rfl
  rw [hyd] at hcell
  have hod := hyo.2.2.2.2
  rw [hyd] at hod
  have hld : Lies w2 w2.heap.size (y.p 4).1 (bvs l) := Lies.of_own hod
  generalize (y.p 4).1 = A3 at hcell hld
  generalize (y.p 4).2 = c3 at hcell
  have y0 : ∀ V, Below w2.heap.size w2 V → V.cell? ⟨g, 15, none⟩ = some (.slice A3 l.length c3) := fun V hV => (hV.cell (p := ⟨g, 15, none⟩) (World.block_lt_of_cell? _ _ hcell)).trans hcell
  have s0 : ∀ V, Below w2.heap.size w2 V → (convert 29 9 (.slice A3 l.length c3)).run Try.prog V = .ok (.string (str l)) V := fun V hV => strs_at rfl (hld.later hV)
  have s1 : ∀ V, Below w2.heap.size w2 V → (convert 29 9 (.slice A l.length c)).run Try.prog V = .ok (.string (str l)) V := fun V hV => HST.out V (HB2.out.trans (hV.mono HB2.out.size))
  clear hn2 ho2 hb2 hy hyo hyr hyd hcell hod hld HAL HST
  go_wp2_with fail
  refine wp_region_held_drew (S := fun V => Below w2.heap.size w2 V) (by kernel_rfl) ((Below.refl _ _).drew) (fun hHeld => ?_)
  have hHeld : Below w2.heap.size w2 w2.drew := (Below.refl _ _).drew
  generalize w2.drew = X0 at hHeld ⊢
  refine wpAnyH_takeAt (i := 0) (d := 23) (v := ?_) rfl rfl (by kernel_rfl) (by kernel_rfl) (by kernel_rfl) (fun _ _ _ h => h) (Or.inl ⟨by rfl, ?_⟩) hHeld ?_
  rotate_left
  · (intro _ hSw; go_simp; try with_reducible rfl)
  simp only [List.setIfInBounds_toArray, List.set_cons_zero, List.set_cons_succ]
  refine wpAnyH_takeAt (i := 1) (d := 24) (v := ?_) rfl rfl (by kernel_rfl) (by kernel_rfl) (by kernel_rfl) (fun _ _ _ h => h) (Or.inl ⟨by rfl, ?_⟩) hHeld ?_
  rotate_left
  · (intro _ hSw; go_simp; try with_reducible rfl)
  simp only [List.setIfInBounds_toArray, List.set_cons_zero, List.set_cons_succ]
  refine wpAnyH_takeAt (i := 2) (d := 25) (v := ?_) rfl rfl (by kernel_rfl) (by kernel_rfl) (by kernel_rfl) (fun _ _ _ h => h) (Or.inl ⟨by rfl, ?_⟩) hHeld ?_
  rotate_left
  · (intro _ hSw; go_simp; try with_reducible rfl)
  simp only [List.setIfInBounds_toArray, List.set_cons_zero, List.set_cons_succ]
  refine wpAnyH_takeAt (i := 3) (d := 26) (v := ?_) rfl rfl (by kernel_rfl) (by kernel_rfl) (by kernel_rfl) (fun _ _ _ h => h) (Or.inl ⟨by rfl, ?_⟩) hHeld ?_
  rotate_left
  · (intro _ hSw; go_simp; try with_reducible rfl)
  simp only [List.setIfInBounds_toArray, List.set_cons_zero, List.set_cons_succ]
  refine wpAnyH_takeAt (i := 4) (d := 27) (v := ?_) rfl rfl (by kernel_rfl) (by kernel_rfl) (by kernel_rfl) (fun _ _ _ h => h) (Or.inl ⟨by rfl, ?_⟩) hHeld ?_
  rotate_left
  · (intro _ hSw; go_simp; try with_reducible rfl)
  simp only [List.setIfInBounds_toArray, List.set_cons_zero, List.set_cons_succ]
  refine wpAnyH_takeAt (i := 5) (d := 28) (v := ?_) rfl rfl (by kernel_rfl) (by kernel_rfl) (by kernel_rfl) (fun _ _ _ h => h) (Or.inl ⟨by rfl, ?_⟩) hHeld ?_
  rotate_left
  · (intro _ hSw; go_simp; try with_reducible rfl)
  simp only [List.setIfInBounds_toArray, List.set_cons_zero, List.set_cons_succ]
  refine wpAnyH_takeAt (i := 6) (d := 29) (v := ?_) rfl rfl (by kernel_rfl) (by kernel_rfl) (by kernel_rfl) (fun _ _ _ h => h) (Or.inl ⟨by rfl, ?_⟩) hHeld ?_
  rotate_left
  · (intro _ hSw; go_simp; try with_reducible rfl)
  simp only [List.setIfInBounds_toArray, List.set_cons_zero, List.set_cons_succ]
  refine wpAnyH_takeAt (i := 7) (d := 30) (v := ?_) rfl rfl (by kernel_rfl) (by kernel_rfl) (by kernel_rfl) (fun _ _ _ h => h) (Or.inl ⟨by rfl, ?_⟩) hHeld ?_
  rotate_left
  · (intro _ hSw; go_simp; try with_reducible rfl)
  simp only [List.setIfInBounds_toArray, List.set_cons_zero, List.set_cons_succ]
  refine wpAnyH_takeAt (i := 8) (d := 31) (v := ?_) rfl rfl (by kernel_rfl) (by kernel_rfl) (by kernel_rfl) (fun _ _ _ h => h) (Or.inl ⟨by rfl, ?_⟩) hHeld ?_
  rotate_left
  · (intro _ hSw; go_simp; try with_reducible rfl)
  simp only [List.setIfInBounds_toArray, List.set_cons_zero, List.set_cons_succ]
  refine wpAnyH_takeAt (i := 9) (d := 32) (v := ?_) rfl rfl (by kernel_rfl) (by kernel_rfl) (by kernel_rfl) (fun _ _ _ h => h) (Or.inl ⟨by rfl, ?_⟩) hHeld ?_
  rotate_left
  · (intro _ hSw; go_simp; try with_reducible rfl)
  simp only [List.setIfInBounds_toArray, List.set_cons_zero, List.set_cons_succ]
  refine wpAnyH_takeAt (i := 10) (d := 33) (v := ?_) rfl rfl (by kernel_rfl) (by kernel_rfl) (by kernel_rfl) (fun _ _ _ h => h) (Or.inl ⟨by rfl, ?_⟩) hHeld ?_
  rotate_left
  · (intro _ hSw; go_simp; try with_reducible rfl)
  simp only [List.setIfInBounds_toArray, List.set_cons_zero, List.set_cons_succ]
  refine wpAnyH_takeAt (i := 11) (d := 34) (v := ?_) rfl rfl (by kernel_rfl) (by kernel_rfl) (by kernel_rfl) (fun _ _ _ h => h) (Or.inl ⟨by rfl, ?_⟩) hHeld ?_
  rotate_left
  · (intro _ hSw; go_simp; try with_reducible rfl)
  simp only [List.setIfInBounds_toArray, List.set_cons_zero, List.set_cons_succ]
  refine wpAnyH_takeAt (i := 12) (d := 35) (v := ?_) rfl rfl (by kernel_rfl) (by kernel_rfl) (by kernel_rfl) (fun _ _ _ h => h) (Or.inl ⟨by rfl, ?_⟩) hHeld ?_
  rotate_left
  · (intro _ hSw; go_simp; try with_reducible rfl)
  simp only [List.setIfInBounds_toArray, List.set_cons_zero, List.set_cons_succ]
  refine wpAnyH_takeAt (i := 13) (d := 36) (v := ?_) rfl rfl (by kernel_rfl) (by kernel_rfl) (by kernel_rfl) (fun _ _ _ h => h) (Or.inl ⟨by rfl, ?_⟩) hHeld ?_
  rotate_left
  · (intro _ hSw; go_simp; try with_reducible rfl)
  simp only [List.setIfInBounds_toArray, List.set_cons_zero, List.set_cons_succ]
  refine wpAnyH_ready (rs := [14]) (by kernel_rfl) (by simp) ?_
  refine AllReadyH.cons rfl (fun K hK => ?_) AllReadyH.nil
  go_simp
  refine (awake_any _).mono ?_
  rintro e X1 ⟨rfl, hx⟩
  subst hx
  refine hK.out _ _ hHeld (fun _ => ?_)
  clear hK K
  refine wpAnyH_takeAt (i := 15) (d := 38) (v := ?_) rfl rfl (by kernel_rfl) (by kernel_rfl) (by kernel_rfl) (fun _ _ _ h => h) (Or.inl ⟨by rfl, ?_⟩) hHeld ?_
  rotate_left
  · (intro _ hSw; go_simp; try with_reducible rfl)
  simp only [List.setIfInBounds_toArray, List.set_cons_zero, List.set_cons_succ]
  refine wpAnyH_takeAt (i := 16) (d := 4) (v := ?_) rfl rfl (by kernel_rfl) (by kernel_rfl) (by kernel_rfl) (fun _ _ _ h => h) (Or.inl ⟨by rfl, ?_⟩) hHeld ?_
  rotate_left
  · (intro _ hSw; go_simp; try with_reducible rfl)
  simp only [List.setIfInBounds_toArray, List.set_cons_zero, List.set_cons_succ]
  have HF := Lib.hid hHeld
  refine wpAnyH_done (by kernel_rfl) ?_ _
  go_wp2
  go_ret
  exact ⟨rfl, HB2.out.trans (HF.out.mono HB2.out.size)⟩

set_option maxRecDepth 20000 in
set_option maxHeartbeats 3200000 in
theorem one_long (A : Option Addr) (c : Nat) (l : List UInt8) (b : Nat) (W : World) (hn : l.length ≤ 2000) (hc : l.length ≤ c) (hm : c ≤ maxLen) (hL : Lies W W.heap.size A (bvs l)) (hb : b < 65536) (hs : b + 1 < l.length) :
    Calls Try.prog 7 #[.slice A l.length c, .int .u16 (b : Int)] W fun e w' => e = .returned (.bool true) ∧ Below W.heap.size W w' := by
  have d1 : decide ((2000 : Int) < (l.length : Int)) = false := by simp; omega
  have d2 : decide ((l.length : Int) ≤ 1 + (b : Int)) = false := by simp; omega
  have HAL : Hid (Calls Try.prog 15 #[.agg #[.int .u8 0, .int .u64 0], .slice A l.length c, .int .i64 (1 + (b : Int))] W (FrsOut W (allF zid l (b + 1) (cntN l.length (b + 1))))) := by
    have h1 := all_yes zid A c l (b + 1) W hn hc hm hL (by omega) (by omega)
    rw [show ((b + 1 : Nat) : Int) = 1 + (b : Int) by omega] at h1
    exact h1
  have HLT : Hid (∀ i, i + 1 < cntN l.length (b + 1) ↔ (i + 1) * (b + 1) < l.length) := fun i => cntN_lt (by omega)
  have hN1 : 1 < cntN l.length (b + 1) := by have := (HLT.out 0).2 (by omega); omega
  have hNle := cntN_le l.length (b + 1)
  have HCL : Hid (∀ i, i < cntN l.length (b + 1) → 1 ≤ (chL l (b + 1) i).length ∧ (chL l (b + 1) i).length ≤ 2000 ∧ (i + 1 < cntN l.length (b + 1) → (chL l (b + 1) i).length = b + 1)) := fun i hi => by
    rw [chL_len]
    have h2 := HLT.out i
    have h4 : (i + 1) * (b + 1) = i * (b + 1) + (b + 1) := by rw [Nat.add_mul, Nat.one_mul]
    have h3 : i * (b + 1) < l.length := by
      cases i with
      | zero => omega
      | succ i => exact (HLT.out i).1 hi
    refine ⟨by omega, by omega, fun h5 => ?_⟩
    have := h2.1 h5
    omega
  clear hL
  generalize cntN l.length (b + 1) = N at *
  have hN2 : N ≤ 2001 := by omega
  clear HLT hNle
  go_enter Try.func7, Try.ntmps7
  go_wp2_with fail
  refine HAL.out.mono ?_
  rintro e w2 ⟨A2, n2, c2, rfl, hn2, ho2, hb2⟩
  obtain rfl : N = n2 := by have := hn2.out; rwa [allF_len] at this
  have HO2 := Lib.hid ho2
  have HB2 := Lib.hid hb2
  clear hn2 ho2 hb2 HAL
  go_wp2_with fail
  go_loopw [7] (fun i wr => ∃ j : Nat, j ≤ N ∧ i = .int .i64 j ∧ wr = w2) (fun i _ => N - (intOf i).toNat)
  case atStart => exact ⟨0, Nat.zero_le _, rfl, rfl⟩
  case round =>
    obtain ⟨j, hj, rfl, rfl⟩ := hrel
    by_cases hlt : j < N
    · obtain ⟨g, y, rfl, hy, -, -, -, hyr⟩ := HO2.out.at_ j (by rw [allF_len]; omega)
      rw [allF_at] at hy
      have hyd : y.F.data = chL l (b + 1) j := by rw [hy]; rfl
      have hcell : wr.cell? ⟨g, j * 16 + 15, none⟩ = some (.slice (y.p 4).1 y.F.data.length (y.p 4).2) := hyr 15 _ rfl
      rw [hyd] at hcell
      generalize (y.p 4).1 = A3 at hcell
      generalize (y.p 4).2 = c3 at hcell
      obtain ⟨q1, q2, q3⟩ := HCL.out j hlt
      generalize (chL l (b + 1) j).length = m at hcell q1 q2 q3
      clear hy hyr hyd
      by_cases hf : j + 1 < N
      · have hm2 := q3 hf
        have dm : ((m : Int) != 1 + (b : Int)) = false := by rw [bne_eq_false_iff_eq]; omega
        have dz : ((m : Int) == 0) = false := by rw [beq_eq_false_iff_ne]; omega
        clear q3 hm2
        go_wp2_with fail
        go_roundw
        case rel => exact ⟨j + 1, by omega, by go_num, trivial⟩
        case measure => simp [intOf]; omega
      · have dz : ((m : Int) == 0) = false := by rw [beq_eq_false_iff_ne]; omega
        have hf2 : N = j + 1 := by omega
        have df : decide ((j : Int) < (N : Int) - 1) = false := by simp; omega
        clear q3 hf2 hf
        go_wp2_with fail
        go_roundw
        case rel => exact ⟨j + 1, by omega, by go_num, trivial⟩
        case measure => simp [intOf]; omega
    · obtain rfl : j = N := by omega
      have HA := Lib.hid (awake_any wr)
      go_wp2_with (go_at_call 8; refine HA.out.mono ?_; rintro e w' ⟨rfl, rfl⟩)
      go_ret
      exact ⟨rfl, HB2.out⟩

theorem own : ownKnob Try.prog.godebug = none := by kernel_rfl
theorem laidOut : laidOutB Try.prog = true := by kernel_rfl

set_option maxRecDepth 100000 in
theorem chunkOne_lifted (os : Os) (started : os.Started) (H : Type) (enc : TypeId × Value → H) :
    ReturnsInHanded {} Try.checked os 7 .any (Rows.chunkOneSpec.pre6 enc Try.prog Try.f7 Rows.chunkOneRow.domain false) (Rows.chunkOneSpec.post enc Try.prog Try.f7 false true false false) := by
  refine returnsInHanded_of_change (C := Try.checked) own started (by kernel_rfl) Try.func7
    (ChangeSpec.witness6 (enc := enc) (C := Try.checked) false ⟨#[], #[.slice none 0 0, .int .u16 0], []⟩ 8 (by kernel_rfl) (by kernel_rfl) (by kernel_rfl) (by kernel_rfl)) ?_
  intro W base args ds gs before hval0 hW _ _
  have hval : ∀ (j : Nat) t v, Try.f7.params[j]? = some t → args[j]? = some v → Value.okWide Try.prog W .any base t v := hval0
  have hW' := hW
  obtain ⟨p, q, hA0, hV, rfl, _, _⟩ := hW
  have hA : DataW.TrodAll enc Try.prog W 0 (fun _ => true) true Try.f7.params.toList args.toList ds p := hA0
  rw [Try.params7] at hA hval
  obtain ⟨v0, vs0, d0, ds0, p0, q0, hargs, rfl, rfl, h0, r0⟩ := trodAll_cons hA
  obtain ⟨v1, vs1, d1, ds1, p1, q1, rfl, rfl, rfl, h1, r1⟩ := trodAll_cons r0
  obtain ⟨rfl, rfl, rfl⟩ := trodAll_nil r1
  obtain rfl : args = #[v0, v1] := by cases args; simp_all
  obtain ⟨rfl, rfl⟩ := trodVars_none hV
  have k0 := h0
  have lt0 : ∀ x ∈ p0, x.block < W.heap.size := by obtain ⟨m, hm⟩ := k0; exact DataW.trod_lt m _ _ _ hm
  have k1 := h1
  have lt1 : ∀ x ∈ p1, x.block < W.heap.size := by obtain ⟨m, hm⟩ := k1; exact DataW.trod_lt m _ _ _ hm
  obtain ⟨a1, rfl, _, _, wf1⟩ := open_int Try.underlying46 (hval 1 46 v1 rfl rfl) h1
  have hwalk : Calls Try.prog 7 #[v0, .int .u16 a1] W fun e w' => e = .returned (.bool true) ∧ Below W.heap.size W w' := by
    obtain ⟨x0, len0, cap0, rfl⟩ := okWide_slice Try.underlying29 (hval 0 29 v0 rfl rfl)
    obtain ⟨fuel0, hf0⟩ := h0
    obtain ⟨l, A, n, c, hv, hl, hc, hcm, hL⟩ := open_bytes Try.underlying29 Try.underlying5 (by kernel_rfl) (by simpa [Value.cells] using hf0)
    injection hv with e1 e2 e3
    subst e1 e2 e3
    by_cases hn : 2000 < len0
    · exact one_many _ _ _ _ W hn
    · have b1 := bounds_u16 wf1
      obtain ⟨b, rfl⟩ : ∃ k : Nat, a1 = (k : Int) := ⟨a1.toNat, by omega⟩
      subst hl
      by_cases hs : l.length ≤ b + 1
      · exact one_short x0 cap0 l b W (by omega) hc hcm hL (by omega) hs
      · exact one_long x0 cap0 l b W (by omega) hc hcm hL (by omega) (by omega)
  clear hA0 hval0
  refine hwalk.mono fun e W' ⟨he, bel⟩ => ?_
  subst he
  exact ⟨_, rfl, _, _, _, [], _, [], hW', trodAll_mk1 (shut_bool Try.underlying4 _), (trodAll_cons_mk (Below.trod laidOut (by kernel_rfl) (of_decide_eq_true (by kernel_rfl)) k0 bel lt0) (trodAll_cons_mk (Below.trod laidOut (by kernel_rfl) (of_decide_eq_true (by kernel_rfl)) k1 bel lt1) trodAll_mk0)), rfl, bel.frame _, fun h => by cases h⟩

theorem chunkOne_proved : Rows.ChunkOneSaid :=
  OpenClaim.holds_of_wide 7 Try.f7 rfl rfl rfl rfl rfl rfl rfl ⟨rfl, rfl, rfl, rfl, rfl⟩ rfl rfl rfl rfl rfl (by kernel_rfl) Try.func7 (by kernel_rfl)
    (of_decide_eq_true (by kernel_rfl)) (by unfold Func.isWrapper; first | (rw [if_pos (by decide +kernel)]; kernel_rfl) | (rw [if_neg (by decide +kernel)]; exact ⟨rfl, rfl⟩))
    (fun os started H enc _ => chunkOne_lifted os started H enc)

end Go.Proofs.Ytgkkobnoegggaaa
