/- Stage 12: ChunkCuts behind the last chunk. -/
import Derived.Test.YtgkkobnoegggaaaCkN
namespace Go.Proofs.Ytgkkobnoegggaaa
open Go.ChangeShapes Go.WideShapes Go.ChangeAt Go.RowKit

set_option maxRecDepth 40000 in
set_option maxHeartbeats 12800000 in
theorem cuts_high (di : Id) (A : Option Addr) (c : Nat) (l : List UInt8) (k N : Nat) (a : Int) (W : World) (hn : l.length ≤ 2000) (hc : l.length ≤ c) (hm : c ≤ maxLen) (hL : Lies W W.heap.size A (bvs l)) (hk : 1 ≤ k) (hk2 : k ≤ 65536) (HN : Hid (N = cntN l.length k)) (hN1 : 1 ≤ N) (hN2 : N ≤ 2001) (hge : decide (0 ≤ a) = true) (hout : decide (a < (N : Int)) = false) :
    Calls Try.prog 4 #[.agg (idCells di), .slice A l.length c, .int .i64 (k : Int), .int .i64 a] W fun e w' => e = .returned (.bool true) ∧ Below W.heap.size W w' := by
  obtain ⟨i0, hi, hz0, hz1, hz2⟩ := info_parts Try.info5
  have d1 : decide ((2000 : Int) < (l.length : Int)) = false := by simp; omega
  have HSP : Hid (∀ V, Below W.heap.size W V → (convert 29 9 (.slice A l.length c)).run Try.prog V = .ok (.string (str l)) V) := fun V hV => strs_at rfl (hL.later hV)
  have HLP : Hid (∀ V, Below W.heap.size W V → Lies V V.heap.size A (bvs l)) := fun V hV => hL.later hV
  have HLW := Lib.hid hL
  clear hL
  unfold idCells
  go_enter Try.func4, Try.ntmps4
  go_upto_region 3 with fail
  generalize hW0 : World.alloc W _ = w0
  obtain ⟨hbx0, hs0, hb0⟩ := box_id W di hW0
  have HS0 := Lib.hid hs0
  have HB0 := Lib.hid hb0
  have HBX0 := Lib.hid hbx0
  clear hW0 hs0 hb0 hbx0
  have HL0 : Hid (Lies (w0.alloc (.cells #[] 5)) W.heap.size A (bvs l)) := HLW.out.below (HB0.out.trans (((Below.refl _ _).alloc (Nat.le_refl _) _).mono HB0.out.size))
  go_wp2_with (first | (at_builtin; refine wpList_append_lst rfl (.tmp 22) (.tmp 23) 29 rfl w0.heap.size 5 i0 (.int .u8 0) 1 Try.underlying29 hi hz0 hz1 hz2 rfl _ 0 [] rfl (World.ownsRow_lit w0 #[] 0 (Nat.le_refl _) (Nat.zero_le _) rfl) _ A l.length c (bvs l) rfl (bvs_length l) HL0.out (bvs_one l) ?d2 ?d3 ?d4 ?_) | fail)
  case d2 => unfold maxLen; omega
  case d3 => omega
  case d4 => simp
  intro v1 w1 hown1 hg1 hb1 _
  have hown1' : w1.ownsRow w0.heap.size 5 1 v1 l.length (bvs l) := by simpa using hown1
  obtain ⟨Ao, co, rfl, hco1, hco2⟩ := own_slice hown1'
  have HB01 : Hid (Below w0.heap.size w0 w1) := ((Below.refl _ _).alloc (Nat.le_refl _) _).trans hb1
  have HB1 : Hid (Below W.heap.size W w1) := HB0.out.trans (HB01.out.mono HB0.out.size)
  have HO1 := Lib.hid hown1'
  have HBX1 : Hid (w1.heap[W.heap.size]? = some (.cells (idCells di) 28 (0, 0))) := (HB01.out.block _ (Array.getElem?_eq_some_iff.1 HBX0.out).1).trans HBX0.out
  clear hown1 hg1 hb1 hown1' HBX0 HL0
  have HRC := Lib.hid (refCuts_yes A c l k w1 hn hc hm (HLP.out w1 HB1.out) hk hk2)
  rw [← HN.out] at HRC
  go_wp2_with fail
  refine HRC.out.mono ?_
  rintro e w3 ⟨Ac, nc, cc, rfl, hnc, hR3⟩
  obtain rfl : N = nc := by have := hnc.out; rwa [chs_len] at this
  obtain ⟨gc, cc', ec, -⟩ : ∃ gc cc', Value.slice Ac N cc = .slice (some ⟨gc, 0, none⟩) N cc' ∧ True := by
    obtain ⟨vs, h2, -, -⟩ := id hR3
    rw [chs_len] at h2
    obtain ⟨gc, cc', e, -, -⟩ := h2.form (by omega)
    exact ⟨gc, cc', e, trivial⟩
  injection ec with e1 _ e3
  subst e1 e3
  have hb13 : Below w1.heap.size w1 w3 := by obtain ⟨_, _, _, h⟩ := id hR3; exact h
  have HR3 := Lib.hid hR3
  have HB3 : Hid (Below W.heap.size W w3) := HB1.out.trans (hb13.mono HB1.out.size)
  have HO3 : Hid (w3.ownsRow w0.heap.size 5 1 (.slice Ao l.length co) l.length (bvs l)) := own_below HO1.out hb13
  have HBX3 : Hid (w3.heap[W.heap.size]? = some (.cells (idCells di) 28 (0, 0))) := (hb13.block _ (Array.getElem?_eq_some_iff.1 HBX1.out).1).trans HBX1.out
  clear hR3 hnc hb13 HO1 HBX1 HRC
  have hnT : ¬ There (l.length : Int) (k : Int) a := by
    rintro ⟨h1, h2⟩
    rw [cntZ_yes (by omega) hk hk2, ← HN.out] at h2
    have := hout
    simp at this
    omega
  have HCU := Lib.hid (cut_no (k : Int) a rfl hco1 hco2 (Lies.of_own HO3.out) hnT)
  clear hnT
  go_wp2_with fail
  refine HCU.out.mono ?_
  rintro e w4 ⟨Ab, nb, cb, rfl, hnb, hcb1, hcb2, hob, hb34⟩
  obtain rfl : 0 = nb := hnb.out
  have HB34 := Lib.hid hb34
  clear hnb hob hb34
  go_wp2_with fail
  refine wp_region_held_drew (S := fun V => Below w4.heap.size w4 V) (by kernel_rfl) ((Below.refl _ _).drew) (fun hHeld => ?_)
  have hHeld : Below w4.heap.size w4 w4.drew := (Below.refl _ _).drew
  generalize w4.drew = X0 at hHeld ⊢
  refine wpAnyH_takeAt (i := 0) (d := 43) (v := ?_) rfl rfl (by kernel_rfl) (by kernel_rfl) (by kernel_rfl) (fun _ _ _ h => h) (Or.inl ⟨by rfl, ?_⟩) hHeld ?_
  rotate_left
  · (intro _ hSw; go_simp; try with_reducible rfl)
  simp only [List.setIfInBounds_toArray, List.set_cons_zero, List.set_cons_succ]
  refine wpAnyH_takeAt (i := 1) (d := 44) (v := ?_) rfl rfl (by kernel_rfl) (by kernel_rfl) (by kernel_rfl) (fun _ _ _ h => h) (Or.inl ⟨by rfl, ?_⟩) hHeld ?_
  rotate_left
  · (intro _ hSw; go_simp; try with_reducible rfl)
  simp only [List.setIfInBounds_toArray, List.set_cons_zero, List.set_cons_succ]
  refine wpAnyH_takeAt (i := 2) (d := 45) (v := ?_) rfl rfl (by kernel_rfl) (by kernel_rfl) (by kernel_rfl) (fun _ _ _ h => h) (Or.inl ⟨by rfl, ?_⟩) hHeld ?_
  rotate_left
  · (intro _ hSw; go_simp; try with_reducible rfl)
  simp only [List.setIfInBounds_toArray, List.set_cons_zero, List.set_cons_succ]
  refine wpAnyH_takeAt (i := 3) (d := 46) (v := ?_) rfl rfl (by kernel_rfl) (by kernel_rfl) (by kernel_rfl) (fun _ _ _ h => h) (Or.inl ⟨by rfl, ?_⟩) hHeld ?_
  rotate_left
  · (intro _ hSw; go_simp; try with_reducible rfl)
  simp only [List.setIfInBounds_toArray, List.set_cons_zero, List.set_cons_succ]
  refine wpAnyH_takeAt (i := 4) (d := 47) (v := ?_) rfl rfl (by kernel_rfl) (by kernel_rfl) (by kernel_rfl) (fun _ _ _ h => h) (Or.inl ⟨by rfl, ?_⟩) hHeld ?_
  rotate_left
  · (intro _ hSw; go_simp; try with_reducible rfl)
  simp only [List.setIfInBounds_toArray, List.set_cons_zero, List.set_cons_succ]
  refine wpAnyH_takeAt (i := 5) (d := 48) (v := ?_) rfl rfl (by kernel_rfl) (by kernel_rfl) (by kernel_rfl) (fun _ _ _ h => h) (Or.inl ⟨by rfl, ?_⟩) hHeld ?_
  rotate_left
  · (intro _ hSw; go_simp; try with_reducible rfl)
  simp only [List.setIfInBounds_toArray, List.set_cons_zero, List.set_cons_succ]
  refine wpAnyH_takeAt (i := 6) (d := 49) (v := undef) rfl rfl (by kernel_rfl) (by kernel_rfl) (by kernel_rfl) (fun _ _ _ h => h) (Or.inr ⟨by rfl, rfl⟩) hHeld ?_
  simp only [List.setIfInBounds_toArray, List.set_cons_zero, List.set_cons_succ]
  refine wpAnyH_takeAt (i := 7) (d := 50) (v := undef) rfl rfl (by kernel_rfl) (by kernel_rfl) (by kernel_rfl) (fun _ _ _ h => h) (Or.inr ⟨by rfl, rfl⟩) hHeld ?_
  simp only [List.setIfInBounds_toArray, List.set_cons_zero, List.set_cons_succ]
  refine wpAnyH_takeAt (i := 8) (d := 51) (v := undef) rfl rfl (by kernel_rfl) (by kernel_rfl) (by kernel_rfl) (fun _ _ _ h => h) (Or.inr ⟨by rfl, rfl⟩) hHeld ?_
  simp only [List.setIfInBounds_toArray, List.set_cons_zero, List.set_cons_succ]
  refine wpAnyH_takeAt (i := 9) (d := 52) (v := undef) rfl rfl (by kernel_rfl) (by kernel_rfl) (by kernel_rfl) (fun _ _ _ h => h) (Or.inr ⟨by rfl, rfl⟩) hHeld ?_
  simp only [List.setIfInBounds_toArray, List.set_cons_zero, List.set_cons_succ]
  refine wpAnyH_takeAt (i := 10) (d := 53) (v := undef) rfl rfl (by kernel_rfl) (by kernel_rfl) (by kernel_rfl) (fun _ _ _ h => h) (Or.inr ⟨by rfl, rfl⟩) hHeld ?_
  simp only [List.setIfInBounds_toArray, List.set_cons_zero, List.set_cons_succ]
  refine wpAnyH_takeAt (i := 11) (d := 54) (v := undef) rfl rfl (by kernel_rfl) (by kernel_rfl) (by kernel_rfl) (fun _ _ _ h => h) (Or.inr ⟨by rfl, rfl⟩) hHeld ?_
  simp only [List.setIfInBounds_toArray, List.set_cons_zero, List.set_cons_succ]
  refine wpAnyH_takeAt (i := 12) (d := 55) (v := undef) rfl rfl (by kernel_rfl) (by kernel_rfl) (by kernel_rfl) (fun _ _ _ h => h) (Or.inr ⟨by rfl, rfl⟩) hHeld ?_
  simp only [List.setIfInBounds_toArray, List.set_cons_zero, List.set_cons_succ]
  refine wpAnyH_takeAt (i := 13) (d := 56) (v := undef) rfl rfl (by kernel_rfl) (by kernel_rfl) (by kernel_rfl) (fun _ _ _ h => h) (Or.inr ⟨by rfl, rfl⟩) hHeld ?_
  simp only [List.setIfInBounds_toArray, List.set_cons_zero, List.set_cons_succ]
  refine wpAnyH_takeAt (i := 14) (d := 57) (v := ?_) rfl rfl (by kernel_rfl) (by kernel_rfl) (by kernel_rfl) (fun _ _ _ h => h) (Or.inl ⟨by rfl, ?_⟩) hHeld ?_
  rotate_left
  · (intro _ hSw; go_simp; try with_reducible rfl)
  simp only [List.setIfInBounds_toArray, List.set_cons_zero, List.set_cons_succ]
  refine wpAnyH_takeAt (i := 15) (d := 58) (v := ?_) rfl rfl (by kernel_rfl) (by kernel_rfl) (by kernel_rfl) (fun _ _ _ h => h) (Or.inl ⟨by rfl, ?_⟩) hHeld ?_
  rotate_left
  · (intro _ hSw; go_simp; try with_reducible rfl)
  simp only [List.setIfInBounds_toArray, List.set_cons_zero, List.set_cons_succ]
  refine wpAnyH_takeAt (i := 16) (d := 59) (v := ?_) rfl rfl (by kernel_rfl) (by kernel_rfl) (by kernel_rfl) (fun _ _ _ h => h) (Or.inl ⟨by rfl, ?_⟩) hHeld ?_
  rotate_left
  · (intro _ hSw; go_simp; try with_reducible rfl)
  simp only [List.setIfInBounds_toArray, List.set_cons_zero, List.set_cons_succ]
  refine wpAnyH_takeAt (i := 17) (d := 60) (v := ?_) rfl rfl (by kernel_rfl) (by kernel_rfl) (by kernel_rfl) (fun _ _ _ h => h) (Or.inl ⟨by rfl, ?_⟩) hHeld ?_
  rotate_left
  · (intro _ hSw; go_simp; try with_reducible rfl)
  simp only [List.setIfInBounds_toArray, List.set_cons_zero, List.set_cons_succ]
  refine wpAnyH_takeAt (i := 18) (d := 61) (v := ?_) rfl rfl (by kernel_rfl) (by kernel_rfl) (by kernel_rfl) (fun _ _ _ h => h) (Or.inl ⟨by rfl, ?_⟩) hHeld ?_
  rotate_left
  · (intro _ hSw; go_simp; try with_reducible rfl)
  simp only [List.setIfInBounds_toArray, List.set_cons_zero, List.set_cons_succ]
  refine wpAnyH_takeAt (i := 19) (d := 62) (v := ?_) rfl rfl (by kernel_rfl) (by kernel_rfl) (by kernel_rfl) (fun _ _ _ h => h) (Or.inl ⟨by rfl, ?_⟩) hHeld ?_
  rotate_left
  · (intro _ hSw; go_simp; try with_reducible rfl)
  simp only [List.setIfInBounds_toArray, List.set_cons_zero, List.set_cons_succ]
  refine wpAnyH_takeAt (i := 20) (d := 63) (v := ?_) rfl rfl (by kernel_rfl) (by kernel_rfl) (by kernel_rfl) (fun _ _ _ h => h) (Or.inl ⟨by rfl, ?_⟩) hHeld ?_
  rotate_left
  · (intro _ hSw; go_simp; try with_reducible rfl)
  simp only [List.setIfInBounds_toArray, List.set_cons_zero, List.set_cons_succ]
  refine wpAnyH_takeAt (i := 21) (d := 64) (v := ?_) rfl rfl (by kernel_rfl) (by kernel_rfl) (by kernel_rfl) (fun _ _ _ h => h) (Or.inl ⟨by rfl, ?_⟩) hHeld ?_
  rotate_left
  · (intro _ hSw; go_simp; try with_reducible rfl)
  simp only [List.setIfInBounds_toArray, List.set_cons_zero, List.set_cons_succ]
  refine wpAnyH_takeAt (i := 22) (d := 65) (v := ?_) rfl rfl (by kernel_rfl) (by kernel_rfl) (by kernel_rfl) (fun _ _ _ h => h) (Or.inl ⟨by rfl, ?_⟩) hHeld ?_
  rotate_left
  · (intro _ hSw; go_simp; try with_reducible rfl)
  simp only [List.setIfInBounds_toArray, List.set_cons_zero, List.set_cons_succ]
  refine wpAnyH_takeAt (i := 23) (d := 66) (v := ?_) rfl rfl (by kernel_rfl) (by kernel_rfl) (by kernel_rfl) (fun _ _ _ h => h) (Or.inl ⟨by rfl, ?_⟩) hHeld ?_
  rotate_left
  · (intro _ hSw; go_simp; try with_reducible rfl)
  simp only [List.setIfInBounds_toArray, List.set_cons_zero, List.set_cons_succ]
  refine wpAnyH_takeAt (i := 24) (d := 67) (v := ?_) rfl rfl (by kernel_rfl) (by kernel_rfl) (by kernel_rfl) (fun _ _ _ h => h) (Or.inl ⟨by rfl, ?_⟩) hHeld ?_
  rotate_left
  · (intro _ hSw; go_simp; try with_reducible rfl)
  simp only [List.setIfInBounds_toArray, List.set_cons_zero, List.set_cons_succ]
  have HB4X := Lib.hid hHeld
  refine wpAnyH_done (by kernel_rfl) ?_ _
  have HB35X : Hid (Below w3.heap.size w3 X0) := HB34.out.trans (HB4X.out.mono HB34.out.size)
  clear HB34 HB4X hHeld
  go_wp2_with fail
  go_loopw [14] (fun s wr => s = .int .i64 0 ∧ wr = X0) (fun _ _ => 0)
  case atStart => exact ⟨rfl, rfl⟩
  case round =>
    obtain ⟨rfl, rfl⟩ := hrel
    have HB35 := HB35X
    clear HB35X
    generalize wr = w5 at *
    -- All, and its frames
    have HO5 : Hid (w5.ownsRow w0.heap.size 5 1 (.slice Ao l.length co) l.length (bvs l)) := own_below HO3.out HB35.out
    have HAL := Lib.hid (all_yes di Ao co l k w5 hn hco1 hco2 (Lies.of_own HO5.out) hk hk2)
    rw [← HN.out] at HAL
    have HBX5 : Hid (w5.heap[W.heap.size]? = some (.cells (idCells di) 28 (0, 0))) := (HB35.out.block _ (Array.getElem?_eq_some_iff.1 HBX3.out).1).trans HBX3.out
    have c0 := cell_of_row w5 W.heap.size 0 _ _ _ HBX5.out
    have c1 := cell_of_row w5 W.heap.size 1 _ _ _ HBX5.out
    rw [show (idCells di)[0]? = some (.int .u8 (di.f : Int)) from rfl] at c0
    rw [show (idCells di)[1]? = some (.int .u64 (di.s : Int)) from rfl] at c1
    go_wp2_with fail
    refine HAL.out.mono ?_
    rintro e w6 ⟨Al, nl, cl, rfl, hnl, hF6, hb6⟩
    obtain rfl : N = nl := by have := hnl.out; rwa [allF_len] at this
    obtain ⟨gl, cl', el, -, -⟩ : ∃ gl cl', Value.slice Al N cl = .slice (some ⟨gl, 0, none⟩) N cl' ∧ True ∧ True := by
      obtain ⟨ys, -, h2, -⟩ := id hF6
      rw [allF_len] at h2
      obtain ⟨gl, cl', e, -, -⟩ := h2.form (by omega)
      exact ⟨gl, cl', e, trivial, trivial⟩
    injection el with e1 _ e3
    subst e1 e3
    have HB56 : Hid (Below w3.heap.size w3 w6) := HB35.out.trans (hb6.mono HB35.out.size)
    have HC6 : Hid (CutsS W.heap.size gc gl di l k N w6) := CutsS.of ((HB56.out.block _ (Array.getElem?_eq_some_iff.1 HBX3.out).1).trans HBX3.out) HR3.out HB56.out hF6
    have HB6 : Hid (Below W.heap.size W w6) := HB3.out.trans (HB56.out.mono HB3.out.size)
    have s5 := strs_at (c := co) rfl (Lies.of_own (own_below HO3.out HB56.out))
    have s6 := HSP.out w6 HB6.out
    clear hnl hF6 hb6 c0 c1 HBX5 HAL HO5
    go_wp2_with fail
    clear s5 s6
    go_loopw [16] (fun s wr => ∃ i : Nat, i ≤ N ∧ s = .int .i64 i ∧ Below w6.heap.size w6 wr) (fun s _ => N - (intOf s).toNat)
    case atStart => exact ⟨0, Nat.zero_le _, rfl, Below.refl _ _⟩
    case round =>
      obtain ⟨i, hi9, rfl, hbw⟩ := hrel
      have HBW := Lib.hid hbw
      clear hbw
      by_cases hlt : i < N
      · have HCR := Lib.hid (HC6.out.on HBW.out)
        obtain ⟨Ai, ci, hcell, hli⟩ := HCR.out.cut i hlt
        obtain ⟨y, hyF, hyr, hyl⟩ := HCR.out.frs i hlt
        have y0 : ∀ V, Below wr.heap.size wr V → V.cell? ⟨gc, i, none⟩ = some (.slice Ai (chL l k i).length ci) := fun V hV => (hV.cell (p := ⟨gc, i, none⟩) (World.block_lt_of_cell? _ _ hcell)).trans hcell
        have y1 : ∀ V, Below wr.heap.size wr V → V.cell? ⟨W.heap.size, 0, none⟩ = some (.int .u8 (di.f : Int)) := fun V hV => (HCR.out.on hV).c0
        have y2 : ∀ V, Below wr.heap.size wr V → V.cell? ⟨W.heap.size, 1, none⟩ = some (.int .u64 (di.s : Int)) := fun V hV => (HCR.out.on hV).c1
        have HY : Hid (∀ V, Below wr.heap.size wr V → V.rangeAt gl (i * 16) (encPf y)) := fun V hV q v hv => (hV.cell (p := ⟨gl, i * 16 + q, none⟩) (World.block_lt_of_cell? _ _ (hyr q v hv))).trans (hyr q v hv)
        have HSA : Hid (∀ V, Below wr.heap.size wr V → Calls Try.prog 16 #[.agg y.cs, .agg (chP di l k N i Ai ci).cs] V fun e w' => e = .returned (.bool true) ∧ Below V.heap.size V w') := fun V hV => refSame_any y.F y.cs _ V (by rw [hyF]; exact frAt_ok hn hN2 hlt) (hyl.on hV) (by rw [hyF]; exact chP_frl (hli.later hV))
        have HRA : Hid (∀ V, Below wr.heap.size wr V → Calls Try.prog 17 #[.agg y.cs, .int .i64 (k : Int), .int .i64 (l.length : Int)] V fun e w' => e = .returned (.bool true) ∧ Below V.heap.size V w') := fun V hV => by
          have h1 := right_any y.F y.cs k l.length V (hyl.on hV) (by rw [hyF]; exact frAt_wf hn hN2 hlt)
          rw [hyF, frAt_right hn hk hk2 HN.out hlt] at h1
          exact h1
        have HRB : Hid (∀ V, Below wr.heap.size wr V → Calls Try.prog 17 #[.agg y.cs, .int .i64 (k : Int), .int .i64 (IntKind.i64.wrap ((l.length : Int) - 1))] V fun e w' => e = .returned (.bool false) ∧ Below V.heap.size V w') := fun V hV => by
          rw [show IntKind.i64.wrap ((l.length : Int) - 1) = (l.length : Int) - 1 by rw [IntKind.wrap_i64]; omega]
          have h1 := right_any y.F y.cs k ((l.length : Int) - 1) V (hyl.on hV) (by rw [hyF]; exact frAt_wf hn hN2 hlt)
          rw [hyF, frAt_wrong] at h1
          exact h1
        have ew1 : IntKind.u32.wrap (i : Int) = (i : Int) := by rw [IntKind.wrap_u32']; omega
        have ew2 : IntKind.u32.wrap (N : Int) = (N : Int) := by rw [IntKind.wrap_u32']; omega
        have ew3 : IntKind.u32.wrap (l.length : Int) = (l.length : Int) := by rw [IntKind.wrap_u32']; omega
        clear hcell hli hyF hyr hyl HCR
        by_cases h0 : 0 < l.length
        · have d9 : decide (0 < l.length) = true := by simpa using h0
          go_wp2_with fail
          refine wp_region_held_drew (S := fun V => Below wr.heap.size wr V) (by kernel_rfl) ((Below.refl _ _).drew) (fun hHeld => ?_)
          have hHeld : Below wr.heap.size wr wr.drew := (Below.refl _ _).drew
          generalize wr.drew = X0 at hHeld ⊢
          refine wpAnyH_takeAt (i := 0) (d := 102) (v := ?_) rfl rfl (by kernel_rfl) (by kernel_rfl) (by kernel_rfl) (fun _ _ _ h => h) (Or.inl ⟨by rfl, ?_⟩) hHeld ?_
          rotate_left
          · (intro _ hSw; go_simp; try with_reducible rfl)
          simp only [List.setIfInBounds_toArray, List.set_cons_zero, List.set_cons_succ]
          refine wpAnyH_takeAt (i := 1) (d := 103) (v := ?_) rfl rfl (by kernel_rfl) (by kernel_rfl) (by kernel_rfl) (fun _ _ _ h => h) (Or.inl ⟨by rfl, ?_⟩) hHeld ?_
          rotate_left
          · (intro _ hSw; go_simp; try with_reducible rfl)
          simp only [List.setIfInBounds_toArray, List.set_cons_zero, List.set_cons_succ]
          refine wpAnyH_takeAt (i := 2) (d := 104) (v := ?_) rfl rfl (by kernel_rfl) (by kernel_rfl) (by kernel_rfl) (fun _ _ _ h => h) (Or.inl ⟨by rfl, ?_⟩) hHeld ?_
          rotate_left
          · (intro _ hSw; go_simp; try with_reducible rfl)
          simp only [List.setIfInBounds_toArray, List.set_cons_zero, List.set_cons_succ]
          refine wpAnyH_takeAt (i := 3) (d := 105) (v := ?_) rfl rfl (by kernel_rfl) (by kernel_rfl) (by kernel_rfl) (fun _ _ _ h => h) (Or.inl ⟨by rfl, ?_⟩) hHeld ?_
          rotate_left
          · (intro _ hSw; go_simp; try with_reducible rfl)
          simp only [List.setIfInBounds_toArray, List.set_cons_zero, List.set_cons_succ]
          refine wpAnyH_takeAt (i := 4) (d := 106) (v := ?_) rfl rfl (by kernel_rfl) (by kernel_rfl) (by kernel_rfl) (fun _ _ _ h => h) (Or.inl ⟨by rfl, ?_⟩) hHeld ?_
          rotate_left
          · (intro _ hSw; go_simp; try with_reducible rfl)
          simp only [List.setIfInBounds_toArray, List.set_cons_zero, List.set_cons_succ]
          refine wpAnyH_takeAt (i := 5) (d := 107) (v := ?_) rfl rfl (by kernel_rfl) (by kernel_rfl) (by kernel_rfl) (fun _ _ _ h => h) (Or.inl ⟨by rfl, ?_⟩) hHeld ?_
          rotate_left
          · (intro _ hSw; go_simp; try with_reducible rfl)
          simp only [List.setIfInBounds_toArray, List.set_cons_zero, List.set_cons_succ]
          refine wpAnyH_takeAt (i := 6) (d := 108) (v := ?_) rfl rfl (by kernel_rfl) (by kernel_rfl) (by kernel_rfl) (fun _ _ _ h => h) (Or.inl ⟨by rfl, ?_⟩) hHeld ?_
          rotate_left
          · (intro _ hSw; go_simp; try with_reducible rfl)
          simp only [List.setIfInBounds_toArray, List.set_cons_zero, List.set_cons_succ]
          refine wpAnyH_takeAt (i := 7) (d := 109) (v := ?_) rfl rfl (by kernel_rfl) (by kernel_rfl) (by kernel_rfl) (fun _ _ _ h => h) (Or.inl ⟨by rfl, ?_⟩) hHeld ?_
          rotate_left
          · (intro _ hSw; go_simp; try with_reducible rfl)
          simp only [List.setIfInBounds_toArray, List.set_cons_zero, List.set_cons_succ]
          refine wpAnyH_takeAt (i := 8) (d := 110) (v := ?_) rfl rfl (by kernel_rfl) (by kernel_rfl) (by kernel_rfl) (fun _ _ _ h => h) (Or.inl ⟨by rfl, ?_⟩) hHeld ?_
          rotate_left
          · (intro _ hSw; go_simp; try with_reducible rfl)
          simp only [List.setIfInBounds_toArray, List.set_cons_zero, List.set_cons_succ]
          refine wpAnyH_takeAt (i := 9) (d := 111) (v := ?_) rfl rfl (by kernel_rfl) (by kernel_rfl) (by kernel_rfl) (fun _ _ _ h => h) (Or.inl ⟨by rfl, ?_⟩) hHeld ?_
          rotate_left
          · (intro _ hSw; go_simp; try with_reducible rfl)
          simp only [List.setIfInBounds_toArray, List.set_cons_zero, List.set_cons_succ]
          refine wpAnyH_takeAt (i := 10) (d := 112) (v := ?_) rfl rfl (by kernel_rfl) (by kernel_rfl) (by kernel_rfl) (fun _ _ _ h => h) (Or.inl ⟨by rfl, ?_⟩) hHeld ?_
          rotate_left
          · (intro _ hSw; go_simp; try with_reducible rfl)
          simp only [List.setIfInBounds_toArray, List.set_cons_zero, List.set_cons_succ]
          refine wpAnyH_takeAt (i := 11) (d := 113) (v := ?_) rfl rfl (by kernel_rfl) (by kernel_rfl) (by kernel_rfl) (fun _ _ _ h => h) (Or.inl ⟨by rfl, ?_⟩) hHeld ?_
          rotate_left
          · (intro _ hSw; go_simp; try with_reducible rfl)
          simp only [List.setIfInBounds_toArray, List.set_cons_zero, List.set_cons_succ]
          refine wpAnyH_takeAt (i := 12) (d := 114) (v := ?_) rfl rfl (by kernel_rfl) (by kernel_rfl) (by kernel_rfl) (fun _ _ _ h => h) (Or.inl ⟨by rfl, ?_⟩) hHeld ?_
          rotate_left
          · (intro _ hSw; go_simp; try with_reducible rfl)
          simp only [List.setIfInBounds_toArray, List.set_cons_zero, List.set_cons_succ]
          refine wpAnyH_takeAt (i := 13) (d := 115) (v := ?_) rfl rfl (by kernel_rfl) (by kernel_rfl) (by kernel_rfl) (fun _ _ _ h => h) (Or.inl ⟨by rfl, ?_⟩) hHeld ?_
          rotate_left
          · (intro _ hSw; go_simp; try with_reducible rfl)
          simp only [List.setIfInBounds_toArray, List.set_cons_zero, List.set_cons_succ]
          refine wpAnyH_ready (rs := [14]) (by kernel_rfl) (by simp) ?_
          refine AllReadyH.cons rfl (fun K hK => ?_) AllReadyH.nil
          go_simp
          have hHeldA : Below wr.heap.size wr (X0.alloc (.cells zeroF 42)) := hHeld.trans (((Below.refl _ _).alloc (Nat.le_refl _) _).mono hHeld.size)
          refine hK.out _ _ hHeldA (fun _ => ?_)
          clear hK K
          refine wpAnyH_ready (rs := [15]) (by kernel_rfl) (by simp) ?_
          refine AllReadyH.cons rfl (fun K hK => ?_) AllReadyH.nil
          refine wp_store_Fs (x := .tmp 17) (y := .tmp 115) (cs := (chP di l k N i Ai ci).cs) rfl rfl rfl rfl (heap_alloc_new X0 (.cells zeroF 42)) rfl rfl (Pf.one _) ?_
          have hHeldB : Below wr.heap.size wr (X0.alloc (.cells (chP di l k N i Ai ci).cs 42)) := hHeld.trans (((Below.refl _ _).alloc (Nat.le_refl _) _).mono hHeld.size)
          have HROW : Hid ((X0.alloc (.cells (chP di l k N i Ai ci).cs 42)).heap[X0.heap.size]? = some (.cells (chP di l k N i Ai ci).cs 42 (0, 0))) := heap_alloc_new _ _
          rw [setRow_new]
          refine hK.out _ _ hHeldB (fun _ => ?_)
          clear hK K hHeldA hHeld
          have HB7 := Lib.hid hHeldB
          clear hHeldB
          refine wpAnyH_done (by kernel_rfl) ?_ _
          generalize hw7 : X0.alloc (.cells (chP di l k N i Ai ci).cs 42) = w7 at HROW HB7 ⊢
          generalize X0.heap.size = gw at HROW ⊢
          clear hw7
          simp only [Act.put]
          have HYR : Hid (∀ V, Below w7.heap.size w7 V → V.rangeAt gl (i * 16) (encPf y)) := fun V hV => HY.out _ (HB7.out.trans (hV.mono HB7.out.size))
          have HRW7 : Hid (∀ V, Below w7.heap.size w7 V → V.heap[gw]? = some (.cells (chP di l k N i Ai ci).cs 42 (0, 0))) := fun V hV => (hV.block _ (Array.getElem?_eq_some_iff.1 HROW.out).1).trans HROW.out
          have HSAME : Hid (∀ V, Below w7.heap.size w7 V → Calls Try.prog 16 #[.agg y.cs, .agg (chP di l k N i Ai ci).cs] V fun e w' => e = .returned (.bool true) ∧ Below V.heap.size V w') := fun V hV => HSA.out V (HB7.out.trans (hV.mono HB7.out.size))
          have HRI : Hid (∀ V, Below w7.heap.size w7 V → Calls Try.prog 17 #[.agg y.cs, .int .i64 (k : Int), .int .i64 (l.length : Int)] V fun e w' => e = .returned (.bool true) ∧ Below V.heap.size V w') := fun V hV => HRA.out V (HB7.out.trans (hV.mono HB7.out.size))
          have HRW : Hid (∀ V, Below w7.heap.size w7 V → Calls Try.prog 17 #[.agg y.cs, .int .i64 (k : Int), .int .i64 (IntKind.i64.wrap ((l.length : Int) - 1))] V fun e w' => e = .returned (.bool false) ∧ Below V.heap.size V w') := fun V hV => HRB.out V (HB7.out.trans (hV.mono HB7.out.size))
          clear HROW
          go_wp2_with fail
          refine wp_region_held_drew (S := fun V => Below w7.heap.size w7 V) (by kernel_rfl) ((Below.refl _ _).drew) (fun hHeld => ?_)
          have hHeld : Below w7.heap.size w7 w7.drew := (Below.refl _ _).drew
          generalize w7.drew = X0 at hHeld ⊢
          refine wpAnyH_takeAt (i := 0) (d := 116) (v := ?_) rfl rfl (by kernel_rfl) (by kernel_rfl) (by kernel_rfl) (fun _ _ _ h => h) (Or.inl ⟨by rfl, ?_⟩) hHeld ?_
          rotate_left
          · (intro _ hSw; go_simp; try with_reducible rfl)
          simp only [List.setIfInBounds_toArray, List.set_cons_zero, List.set_cons_succ]
          refine wpAnyH_takeAt (i := 1) (d := 117) (v := ?_) rfl rfl (by kernel_rfl) (by kernel_rfl) (by kernel_rfl) (fun _ _ _ h => h) (Or.inl ⟨by rfl, ?_⟩) hHeld ?_
          rotate_left
          · (intro _ hSw; go_simp; try with_reducible rfl)
          simp only [List.setIfInBounds_toArray, List.set_cons_zero, List.set_cons_succ]
          refine wpAnyH_takeAt (i := 2) (d := 118) (v := ?_) rfl rfl (by kernel_rfl) (by kernel_rfl) (by kernel_rfl) (fun _ _ _ h => h) (Or.inl ⟨by rfl, ?_⟩) hHeld ?_
          rotate_left
          · (intro _ hSw; go_simp; try with_reducible rfl)
          simp only [List.setIfInBounds_toArray, List.set_cons_zero, List.set_cons_succ]
          refine wpAnyH_takeAt (i := 3) (d := 119) (v := .agg y.cs) rfl rfl (by kernel_rfl) (by kernel_rfl) (by kernel_rfl) (fun _ _ _ h => h) (yieldsIf_load_mid (S := fun V => Below w7.heap.size w7 V) (by rfl) 42 (.tmp 118) rfl gl (i * 16) rfl (encPf y) _ (fun V hV => HYR.out V hV) Try.underlying42 rfl (infoFr.trans (by rw [encPf_len]))) hHeld ?_
          simp only [List.setIfInBounds_toArray, List.set_cons_zero, List.set_cons_succ]
          refine wpAnyH_takeAt (i := 4) (d := 120) (v := .agg (chP di l k N i Ai ci).cs) rfl rfl (by kernel_rfl) (by kernel_rfl) (by kernel_rfl) (fun _ _ _ h => h) (yields_frame (S := fun V => Below w7.heap.size w7 V) (x := .tmp 17) (g := gw) rfl rfl rfl rfl (fun V hV => HRW7.out V hV)) hHeld ?_
          simp only [List.setIfInBounds_toArray, List.set_cons_zero, List.set_cons_succ]
          refine wpAnyH_ready (rs := [5]) (by kernel_rfl) (by simp) ?_
          refine AllReadyH.cons rfl (fun K hK => ?_) AllReadyH.nil
          go_simp
          refine (HSAME.out _ hHeld).mono ?_
          rintro e X1 ⟨rfl, hb1⟩
          have hHeld1 : Below w7.heap.size w7 X1 := hHeld.trans (hb1.mono hHeld.size)
          refine hK.out _ _ hHeld1 (fun _ => ?_)
          clear hK K hb1 hHeld
          have hHeld := hHeld1
          clear hHeld1
          refine wpAnyH_takeAt (i := 6) (d := 122) (v := ?_) rfl rfl (by kernel_rfl) (by kernel_rfl) (by kernel_rfl) (fun _ _ _ h => h) (Or.inl ⟨by rfl, ?_⟩) hHeld ?_
          rotate_left
          · (intro _ hSw; go_simp; try with_reducible rfl)
          simp only [List.setIfInBounds_toArray, List.set_cons_zero, List.set_cons_succ]
          refine wpAnyH_takeAt (i := 7) (d := 123) (v := ?_) rfl rfl (by kernel_rfl) (by kernel_rfl) (by kernel_rfl) (fun _ _ _ h => h) (Or.inl ⟨by rfl, ?_⟩) hHeld ?_
          rotate_left
          · (intro _ hSw; go_simp; try with_reducible rfl)
          simp only [List.setIfInBounds_toArray, List.set_cons_zero, List.set_cons_succ]
          refine wpAnyH_takeAt (i := 8) (d := 124) (v := ?_) rfl rfl (by kernel_rfl) (by kernel_rfl) (by kernel_rfl) (fun _ _ _ h => h) (Or.inl ⟨by rfl, ?_⟩) hHeld ?_
          rotate_left
          · (intro _ hSw; go_simp; try with_reducible rfl)
          simp only [List.setIfInBounds_toArray, List.set_cons_zero, List.set_cons_succ]
          refine wpAnyH_takeAt (i := 9) (d := 125) (v := ?_) rfl rfl (by kernel_rfl) (by kernel_rfl) (by kernel_rfl) (fun _ _ _ h => h) (Or.inl ⟨by rfl, ?_⟩) hHeld ?_
          rotate_left
          · (intro _ hSw; go_simp; try with_reducible rfl)
          simp only [List.setIfInBounds_toArray, List.set_cons_zero, List.set_cons_succ]
          refine wpAnyH_takeAt (i := 10) (d := 126) (v := ?_) rfl rfl (by kernel_rfl) (by kernel_rfl) (by kernel_rfl) (fun _ _ _ h => h) (Or.inl ⟨by rfl, ?_⟩) hHeld ?_
          rotate_left
          · (intro _ hSw; go_simp; try with_reducible rfl)
          simp only [List.setIfInBounds_toArray, List.set_cons_zero, List.set_cons_succ]
          refine wpAnyH_takeAt (i := 11) (d := 127) (v := .agg y.cs) rfl rfl (by kernel_rfl) (by kernel_rfl) (by kernel_rfl) (fun _ _ _ h => h) (yieldsIf_load_mid (S := fun V => Below w7.heap.size w7 V) (by rfl) 42 (.tmp 126) rfl gl (i * 16) rfl (encPf y) _ (fun V hV => HYR.out V hV) Try.underlying42 rfl (infoFr.trans (by rw [encPf_len]))) hHeld ?_
          simp only [List.setIfInBounds_toArray, List.set_cons_zero, List.set_cons_succ]
          refine wpAnyH_takeAt (i := 12) (d := 128) (v := ?_) rfl rfl (by kernel_rfl) (by kernel_rfl) (by kernel_rfl) (fun _ _ _ h => h) (Or.inl ⟨by rfl, ?_⟩) hHeld ?_
          rotate_left
          · (intro _ hSw; go_simp; try with_reducible rfl)
          simp only [List.setIfInBounds_toArray, List.set_cons_zero, List.set_cons_succ]
          refine wpAnyH_takeAt (i := 13) (d := 129) (v := ?_) rfl rfl (by kernel_rfl) (by kernel_rfl) (by kernel_rfl) (fun _ _ _ h => h) (Or.inl ⟨by rfl, ?_⟩) hHeld ?_
          rotate_left
          · (intro _ hSw; go_simp; try with_reducible rfl)
          simp only [List.setIfInBounds_toArray, List.set_cons_zero, List.set_cons_succ]
          refine wpAnyH_takeAt (i := 14) (d := 130) (v := ?_) rfl rfl (by kernel_rfl) (by kernel_rfl) (by kernel_rfl) (fun _ _ _ h => h) (Or.inl ⟨by rfl, ?_⟩) hHeld ?_
          rotate_left
          · (intro _ hSw; go_simp; try with_reducible rfl)
          simp only [List.setIfInBounds_toArray, List.set_cons_zero, List.set_cons_succ]
          refine wpAnyH_ready (rs := [15]) (by kernel_rfl) (by simp) ?_
          refine AllReadyH.cons rfl (fun K hK => ?_) AllReadyH.nil
          go_simp
          refine (HRI.out _ hHeld).mono ?_
          rintro e X2 ⟨rfl, hb2⟩
          have hHeld2 : Below w7.heap.size w7 X2 := hHeld.trans (hb2.mono hHeld.size)
          refine hK.out _ _ hHeld2 (fun _ => ?_)
          clear hK K hb2 hHeld
          have hHeld := hHeld2
          clear hHeld2
          refine wpAnyH_takeAt (i := 16) (d := 132) (v := ?_) rfl rfl (by kernel_rfl) (by kernel_rfl) (by kernel_rfl) (fun _ _ _ h => h) (Or.inl ⟨by rfl, ?_⟩) hHeld ?_
          rotate_left
          · (intro _ hSw; go_simp; try with_reducible rfl)
          simp only [List.setIfInBounds_toArray, List.set_cons_zero, List.set_cons_succ]
          refine wpAnyH_takeAt (i := 17) (d := 133) (v := ?_) rfl rfl (by kernel_rfl) (by kernel_rfl) (by kernel_rfl) (fun _ _ _ h => h) (Or.inl ⟨by rfl, ?_⟩) hHeld ?_
          rotate_left
          · (intro _ hSw; go_simp; try with_reducible rfl)
          simp only [List.setIfInBounds_toArray, List.set_cons_zero, List.set_cons_succ]
          refine wpAnyH_takeAt (i := 18) (d := 134) (v := ?_) rfl rfl (by kernel_rfl) (by kernel_rfl) (by kernel_rfl) (fun _ _ _ h => h) (Or.inl ⟨by rfl, ?_⟩) hHeld ?_
          rotate_left
          · (intro _ hSw; go_simp; try with_reducible rfl)
          simp only [List.setIfInBounds_toArray, List.set_cons_zero, List.set_cons_succ]
          refine wpAnyH_takeAt (i := 19) (d := 135) (v := ?_) rfl rfl (by kernel_rfl) (by kernel_rfl) (by kernel_rfl) (fun _ _ _ h => h) (Or.inl ⟨by rfl, ?_⟩) hHeld ?_
          rotate_left
          · (intro _ hSw; go_simp; try with_reducible rfl)
          simp only [List.setIfInBounds_toArray, List.set_cons_zero, List.set_cons_succ]
          refine wpAnyH_takeAt (i := 20) (d := 136) (v := ?_) rfl rfl (by kernel_rfl) (by kernel_rfl) (by kernel_rfl) (fun _ _ _ h => h) (Or.inl ⟨by rfl, ?_⟩) hHeld ?_
          rotate_left
          · (intro _ hSw; go_simp; try with_reducible rfl)
          simp only [List.setIfInBounds_toArray, List.set_cons_zero, List.set_cons_succ]
          refine wpAnyH_takeAt (i := 21) (d := 137) (v := ?_) rfl rfl (by kernel_rfl) (by kernel_rfl) (by kernel_rfl) (fun _ _ _ h => h) (Or.inl ⟨by rfl, ?_⟩) hHeld ?_
          rotate_left
          · (intro _ hSw; go_simp; try with_reducible rfl)
          simp only [List.setIfInBounds_toArray, List.set_cons_zero, List.set_cons_succ]
          refine wpAnyH_takeAt (i := 22) (d := 138) (v := ?_) rfl rfl (by kernel_rfl) (by kernel_rfl) (by kernel_rfl) (fun _ _ _ h => h) (Or.inl ⟨by rfl, ?_⟩) hHeld ?_
          rotate_left
          · (intro _ hSw; go_simp; try with_reducible rfl)
          simp only [List.setIfInBounds_toArray, List.set_cons_zero, List.set_cons_succ]
          refine wpAnyH_takeAt (i := 23) (d := 139) (v := ?_) rfl rfl (by kernel_rfl) (by kernel_rfl) (by kernel_rfl) (fun _ _ _ h => h) (Or.inl ⟨by rfl, ?_⟩) hHeld ?_
          rotate_left
          · (intro _ hSw; go_simp; try with_reducible rfl)
          simp only [List.setIfInBounds_toArray, List.set_cons_zero, List.set_cons_succ]
          refine wpAnyH_takeAt (i := 24) (d := 140) (v := ?_) rfl rfl (by kernel_rfl) (by kernel_rfl) (by kernel_rfl) (fun _ _ _ h => h) (Or.inl ⟨by rfl, ?_⟩) hHeld ?_
          rotate_left
          · (intro _ hSw; go_simp; try with_reducible rfl)
          simp only [List.setIfInBounds_toArray, List.set_cons_zero, List.set_cons_succ]
          refine wpAnyH_takeAt (i := 25) (d := 141) (v := ?_) rfl rfl (by kernel_rfl) (by kernel_rfl) (by kernel_rfl) (fun _ _ _ h => h) (Or.inl ⟨by rfl, ?_⟩) hHeld ?_
          rotate_left
          · (intro _ hSw; go_simp; try with_reducible rfl)
          simp only [List.setIfInBounds_toArray, List.set_cons_zero, List.set_cons_succ]
          refine wpAnyH_takeAt (i := 26) (d := 142) (v := .agg y.cs) rfl rfl (by kernel_rfl) (by kernel_rfl) (by kernel_rfl) (fun _ _ _ h => h) (yieldsIf_load_mid (S := fun V => Below w7.heap.size w7 V) (by rfl) 42 (.tmp 141) rfl gl (i * 16) rfl (encPf y) _ (fun V hV => HYR.out V hV) Try.underlying42 rfl (infoFr.trans (by rw [encPf_len]))) hHeld ?_
          simp only [List.setIfInBounds_toArray, List.set_cons_zero, List.set_cons_succ]
          refine wpAnyH_takeAt (i := 27) (d := 143) (v := ?_) rfl rfl (by kernel_rfl) (by kernel_rfl) (by kernel_rfl) (fun _ _ _ h => h) (Or.inl ⟨by rfl, ?_⟩) hHeld ?_
          rotate_left
          · (intro _ hSw; go_simp; try with_reducible rfl)
          simp only [List.setIfInBounds_toArray, List.set_cons_zero, List.set_cons_succ]
          refine wpAnyH_takeAt (i := 28) (d := 144) (v := ?_) rfl rfl (by kernel_rfl) (by kernel_rfl) (by kernel_rfl) (fun _ _ _ h => h) (Or.inl ⟨by rfl, ?_⟩) hHeld ?_
          rotate_left
          · (intro _ hSw; go_simp; try with_reducible rfl)
          simp only [List.setIfInBounds_toArray, List.set_cons_zero, List.set_cons_succ]
          refine wpAnyH_takeAt (i := 29) (d := 145) (v := ?_) rfl rfl (by kernel_rfl) (by kernel_rfl) (by kernel_rfl) (fun _ _ _ h => h) (Or.inl ⟨by rfl, ?_⟩) hHeld ?_
          rotate_left
          · (intro _ hSw; go_simp; try with_reducible rfl)
          simp only [List.setIfInBounds_toArray, List.set_cons_zero, List.set_cons_succ]
          refine wpAnyH_takeAt (i := 30) (d := 146) (v := ?_) rfl rfl (by kernel_rfl) (by kernel_rfl) (by kernel_rfl) (fun _ _ _ h => h) (Or.inl ⟨by rfl, ?_⟩) hHeld ?_
          rotate_left
          · (intro _ hSw; go_simp; try with_reducible rfl)
          simp only [List.setIfInBounds_toArray, List.set_cons_zero, List.set_cons_succ]
          refine wpAnyH_ready (rs := [31]) (by kernel_rfl) (by simp) ?_
          refine AllReadyH.cons rfl (fun K hK => ?_) AllReadyH.nil
          go_simp
          refine (HRW.out _ hHeld).mono ?_
          rintro e X3 ⟨rfl, hb3⟩
          have hHeld3 : Below w7.heap.size w7 X3 := hHeld.trans (hb3.mono hHeld.size)
          refine hK.out _ _ hHeld3 (fun _ => ?_)
          clear hK K hb3 hHeld
          have hHeld := hHeld3
          clear hHeld3
          refine wpAnyH_takeAt (i := 32) (d := 148) (v := ?_) rfl rfl (by kernel_rfl) (by kernel_rfl) (by kernel_rfl) (fun _ _ _ h => h) (Or.inl ⟨by rfl, ?_⟩) hHeld ?_
          rotate_left
          · (intro _ hSw; go_simp; try with_reducible rfl)
          simp only [List.setIfInBounds_toArray, List.set_cons_zero, List.set_cons_succ]
          refine wpAnyH_takeAt (i := 33) (d := 149) (v := ?_) rfl rfl (by kernel_rfl) (by kernel_rfl) (by kernel_rfl) (fun _ _ _ h => h) (Or.inl ⟨by rfl, ?_⟩) hHeld ?_
          rotate_left
          · (intro _ hSw; go_simp; try with_reducible rfl)
          simp only [List.setIfInBounds_toArray, List.set_cons_zero, List.set_cons_succ]
          have HF := Lib.hid hHeld
          refine wpAnyH_done (by kernel_rfl) ?_ _
          go_wp2_with fail
          go_roundw
          case rel => exact ⟨i + 1, by omega, by go_num, HBW.out.trans ((HB7.out.trans (HF.out.mono HB7.out.size)).mono HBW.out.size)⟩
          case measure => simp [intOf]; omega
        · have d9 : decide ((0 : Int) < (l.length : Int)) = false := decide_eq_false (by omega)
          have d8 : decide (0 < l.length) = false := decide_eq_false h0
          clear h0
          go_wp2_with fail
          refine wp_region_held_drew (S := fun V => Below wr.heap.size wr V) (by kernel_rfl) ((Below.refl _ _).drew) (fun hHeld => ?_)
          have hHeld : Below wr.heap.size wr wr.drew := (Below.refl _ _).drew
          generalize wr.drew = X0 at hHeld ⊢
          refine wpAnyH_takeAt (i := 0) (d := 102) (v := ?_) rfl rfl (by kernel_rfl) (by kernel_rfl) (by kernel_rfl) (fun _ _ _ h => h) (Or.inl ⟨by rfl, ?_⟩) hHeld ?_
          rotate_left
          · (intro _ hSw; go_simp; try with_reducible rfl)
          simp only [List.setIfInBounds_toArray, List.set_cons_zero, List.set_cons_succ]
          refine wpAnyH_takeAt (i := 1) (d := 103) (v := ?_) rfl rfl (by kernel_rfl) (by kernel_rfl) (by kernel_rfl) (fun _ _ _ h => h) (Or.inl ⟨by rfl, ?_⟩) hHeld ?_
          rotate_left
          · (intro _ hSw; go_simp; try with_reducible rfl)
          simp only [List.setIfInBounds_toArray, List.set_cons_zero, List.set_cons_succ]
          refine wpAnyH_takeAt (i := 2) (d := 104) (v := ?_) rfl rfl (by kernel_rfl) (by kernel_rfl) (by kernel_rfl) (fun _ _ _ h => h) (Or.inl ⟨by rfl, ?_⟩) hHeld ?_
          rotate_left
          · (intro _ hSw; go_simp; try with_reducible rfl)
          simp only [List.setIfInBounds_toArray, List.set_cons_zero, List.set_cons_succ]
          refine wpAnyH_takeAt (i := 3) (d := 105) (v := ?_) rfl rfl (by kernel_rfl) (by kernel_rfl) (by kernel_rfl) (fun _ _ _ h => h) (Or.inl ⟨by rfl, ?_⟩) hHeld ?_
          rotate_left
          · (intro _ hSw; go_simp; try with_reducible rfl)
          simp only [List.setIfInBounds_toArray, List.set_cons_zero, List.set_cons_succ]
          refine wpAnyH_takeAt (i := 4) (d := 106) (v := ?_) rfl rfl (by kernel_rfl) (by kernel_rfl) (by kernel_rfl) (fun _ _ _ h => h) (Or.inl ⟨by rfl, ?_⟩) hHeld ?_
          rotate_left
          · (intro _ hSw; go_simp; try with_reducible rfl)
          simp only [List.setIfInBounds_toArray, List.set_cons_zero, List.set_cons_succ]
          refine wpAnyH_takeAt (i := 5) (d := 107) (v := ?_) rfl rfl (by kernel_rfl) (by kernel_rfl) (by kernel_rfl) (fun _ _ _ h => h) (Or.inl ⟨by rfl, ?_⟩) hHeld ?_
          rotate_left
          · (intro _ hSw; go_simp; try with_reducible rfl)
          simp only [List.setIfInBounds_toArray, List.set_cons_zero, List.set_cons_succ]
          refine wpAnyH_takeAt (i := 6) (d := 108) (v := ?_) rfl rfl (by kernel_rfl) (by kernel_rfl) (by kernel_rfl) (fun _ _ _ h => h) (Or.inl ⟨by rfl, ?_⟩) hHeld ?_
          rotate_left
          · (intro _ hSw; go_simp; try with_reducible rfl)
          simp only [List.setIfInBounds_toArray, List.set_cons_zero, List.set_cons_succ]
          refine wpAnyH_takeAt (i := 7) (d := 109) (v := ?_) rfl rfl (by kernel_rfl) (by kernel_rfl) (by kernel_rfl) (fun _ _ _ h => h) (Or.inl ⟨by rfl, ?_⟩) hHeld ?_
          rotate_left
          · (intro _ hSw; go_simp; try with_reducible rfl)
          simp only [List.setIfInBounds_toArray, List.set_cons_zero, List.set_cons_succ]
          refine wpAnyH_takeAt (i := 8) (d := 110) (v := ?_) rfl rfl (by kernel_rfl) (by kernel_rfl) (by kernel_rfl) (fun _ _ _ h => h) (Or.inl ⟨by rfl, ?_⟩) hHeld ?_
          rotate_left
          · (intro _ hSw; go_simp; try with_reducible rfl)
          simp only [List.setIfInBounds_toArray, List.set_cons_zero, List.set_cons_succ]
          refine wpAnyH_takeAt (i := 9) (d := 111) (v := ?_) rfl rfl (by kernel_rfl) (by kernel_rfl) (by kernel_rfl) (fun _ _ _ h => h) (Or.inl ⟨by rfl, ?_⟩) hHeld ?_
          rotate_left
          · (intro _ hSw; go_simp; try with_reducible rfl)
          simp only [List.setIfInBounds_toArray, List.set_cons_zero, List.set_cons_succ]
          refine wpAnyH_takeAt (i := 10) (d := 112) (v := ?_) rfl rfl (by kernel_rfl) (by kernel_rfl) (by kernel_rfl) (fun _ _ _ h => h) (Or.inl ⟨by rfl, ?_⟩) hHeld ?_
          rotate_left
          · (intro _ hSw; go_simp; try with_reducible rfl)
          simp only [List.setIfInBounds_toArray, List.set_cons_zero, List.set_cons_succ]
          refine wpAnyH_takeAt (i := 11) (d := 113) (v := ?_) rfl rfl (by kernel_rfl) (by kernel_rfl) (by kernel_rfl) (fun _ _ _ h => h) (Or.inl ⟨by rfl, ?_⟩) hHeld ?_
          rotate_left
          · (intro _ hSw; go_simp; try with_reducible rfl)
          simp only [List.setIfInBounds_toArray, List.set_cons_zero, List.set_cons_succ]
          refine wpAnyH_takeAt (i := 12) (d := 114) (v := ?_) rfl rfl (by kernel_rfl) (by kernel_rfl) (by kernel_rfl) (fun _ _ _ h => h) (Or.inl ⟨by rfl, ?_⟩) hHeld ?_
          rotate_left
          · (intro _ hSw; go_simp; try with_reducible rfl)
          simp only [List.setIfInBounds_toArray, List.set_cons_zero, List.set_cons_succ]
          refine wpAnyH_takeAt (i := 13) (d := 115) (v := ?_) rfl rfl (by kernel_rfl) (by kernel_rfl) (by kernel_rfl) (fun _ _ _ h => h) (Or.inl ⟨by rfl, ?_⟩) hHeld ?_
          rotate_left
          · (intro _ hSw; go_simp; try with_reducible rfl)
          simp only [List.setIfInBounds_toArray, List.set_cons_zero, List.set_cons_succ]
          refine wpAnyH_ready (rs := [14]) (by kernel_rfl) (by simp) ?_
          refine AllReadyH.cons rfl (fun K hK => ?_) AllReadyH.nil
          go_simp
          have hHeldA : Below wr.heap.size wr (X0.alloc (.cells zeroF 42)) := hHeld.trans (((Below.refl _ _).alloc (Nat.le_refl _) _).mono hHeld.size)
          refine hK.out _ _ hHeldA (fun _ => ?_)
          clear hK K
          refine wpAnyH_ready (rs := [15]) (by kernel_rfl) (by simp) ?_
          refine AllReadyH.cons rfl (fun K hK => ?_) AllReadyH.nil
          refine wp_store_Fs (x := .tmp 17) (y := .tmp 115) (cs := (chP di l k N i Ai ci).cs) rfl rfl rfl rfl (heap_alloc_new X0 (.cells zeroF 42)) rfl rfl (Pf.one _) ?_
          have hHeldB : Below wr.heap.size wr (X0.alloc (.cells (chP di l k N i Ai ci).cs 42)) := hHeld.trans (((Below.refl _ _).alloc (Nat.le_refl _) _).mono hHeld.size)
          have HROW : Hid ((X0.alloc (.cells (chP di l k N i Ai ci).cs 42)).heap[X0.heap.size]? = some (.cells (chP di l k N i Ai ci).cs 42 (0, 0))) := heap_alloc_new _ _
          rw [setRow_new]
          refine hK.out _ _ hHeldB (fun _ => ?_)
          clear hK K hHeldA hHeld
          have HB7 := Lib.hid hHeldB
          clear hHeldB
          refine wpAnyH_done (by kernel_rfl) ?_ _
          generalize hw7 : X0.alloc (.cells (chP di l k N i Ai ci).cs 42) = w7 at HROW HB7 ⊢
          generalize X0.heap.size = gw at HROW ⊢
          clear hw7
          simp only [Act.put]
          have HYR : Hid (∀ V, Below w7.heap.size w7 V → V.rangeAt gl (i * 16) (encPf y)) := fun V hV => HY.out _ (HB7.out.trans (hV.mono HB7.out.size))
          have HRW7 : Hid (∀ V, Below w7.heap.size w7 V → V.heap[gw]? = some (.cells (chP di l k N i Ai ci).cs 42 (0, 0))) := fun V hV => (hV.block _ (Array.getElem?_eq_some_iff.1 HROW.out).1).trans HROW.out
          have HSAME : Hid (∀ V, Below w7.heap.size w7 V → Calls Try.prog 16 #[.agg y.cs, .agg (chP di l k N i Ai ci).cs] V fun e w' => e = .returned (.bool true) ∧ Below V.heap.size V w') := fun V hV => HSA.out V (HB7.out.trans (hV.mono HB7.out.size))
          have HRI : Hid (∀ V, Below w7.heap.size w7 V → Calls Try.prog 17 #[.agg y.cs, .int .i64 (k : Int), .int .i64 (l.length : Int)] V fun e w' => e = .returned (.bool true) ∧ Below V.heap.size V w') := fun V hV => HRA.out V (HB7.out.trans (hV.mono HB7.out.size))
          have HRW : Hid (∀ V, Below w7.heap.size w7 V → Calls Try.prog 17 #[.agg y.cs, .int .i64 (k : Int), .int .i64 (IntKind.i64.wrap ((l.length : Int) - 1))] V fun e w' => e = .returned (.bool false) ∧ Below V.heap.size V w') := fun V hV => HRB.out V (HB7.out.trans (hV.mono HB7.out.size))
          clear HROW
          go_wp2_with fail
          refine wp_region_held_drew (S := fun V => Below w7.heap.size w7 V) (by kernel_rfl) ((Below.refl _ _).drew) (fun hHeld => ?_)
          have hHeld : Below w7.heap.size w7 w7.drew := (Below.refl _ _).drew
          generalize w7.drew = X0 at hHeld ⊢
          refine wpAnyH_takeAt (i := 0) (d := 116) (v := ?_) rfl rfl (by kernel_rfl) (by kernel_rfl) (by kernel_rfl) (fun _ _ _ h => h) (Or.inl ⟨by rfl, ?_⟩) hHeld ?_
          rotate_left
          · (intro _ hSw; go_simp; try with_reducible rfl)
          simp only [List.setIfInBounds_toArray, List.set_cons_zero, List.set_cons_succ]
          refine wpAnyH_takeAt (i := 1) (d := 117) (v := ?_) rfl rfl (by kernel_rfl) (by kernel_rfl) (by kernel_rfl) (fun _ _ _ h => h) (Or.inl ⟨by rfl, ?_⟩) hHeld ?_
          rotate_left
          · (intro _ hSw; go_simp; try with_reducible rfl)
          simp only [List.setIfInBounds_toArray, List.set_cons_zero, List.set_cons_succ]
          refine wpAnyH_takeAt (i := 2) (d := 118) (v := ?_) rfl rfl (by kernel_rfl) (by kernel_rfl) (by kernel_rfl) (fun _ _ _ h => h) (Or.inl ⟨by rfl, ?_⟩) hHeld ?_
          rotate_left
          · (intro _ hSw; go_simp; try with_reducible rfl)
          simp only [List.setIfInBounds_toArray, List.set_cons_zero, List.set_cons_succ]
          refine wpAnyH_takeAt (i := 3) (d := 119) (v := .agg y.cs) rfl rfl (by kernel_rfl) (by kernel_rfl) (by kernel_rfl) (fun _ _ _ h => h) (yieldsIf_load_mid (S := fun V => Below w7.heap.size w7 V) (by rfl) 42 (.tmp 118) rfl gl (i * 16) rfl (encPf y) _ (fun V hV => HYR.out V hV) Try.underlying42 rfl (infoFr.trans (by rw [encPf_len]))) hHeld ?_
          simp only [List.setIfInBounds_toArray, List.set_cons_zero, List.set_cons_succ]
          refine wpAnyH_takeAt (i := 4) (d := 120) (v := .agg (chP di l k N i Ai ci).cs) rfl rfl (by kernel_rfl) (by kernel_rfl) (by kernel_rfl) (fun _ _ _ h => h) (yields_frame (S := fun V => Below w7.heap.size w7 V) (x := .tmp 17) (g := gw) rfl rfl rfl rfl (fun V hV => HRW7.out V hV)) hHeld ?_
          simp only [List.setIfInBounds_toArray, List.set_cons_zero, List.set_cons_succ]
          refine wpAnyH_ready (rs := [5]) (by kernel_rfl) (by simp) ?_
          refine AllReadyH.cons rfl (fun K hK => ?_) AllReadyH.nil
          go_simp
          refine (HSAME.out _ hHeld).mono ?_
          rintro e X1 ⟨rfl, hb1⟩
          have hHeld1 : Below w7.heap.size w7 X1 := hHeld.trans (hb1.mono hHeld.size)
          refine hK.out _ _ hHeld1 (fun _ => ?_)
          clear hK K hb1 hHeld
          have hHeld := hHeld1
          clear hHeld1
          refine wpAnyH_takeAt (i := 6) (d := 122) (v := ?_) rfl rfl (by kernel_rfl) (by kernel_rfl) (by kernel_rfl) (fun _ _ _ h => h) (Or.inl ⟨by rfl, ?_⟩) hHeld ?_
          rotate_left
          · (intro _ hSw; go_simp; try with_reducible rfl)
          simp only [List.setIfInBounds_toArray, List.set_cons_zero, List.set_cons_succ]
          refine wpAnyH_takeAt (i := 7) (d := 123) (v := ?_) rfl rfl (by kernel_rfl) (by kernel_rfl) (by kernel_rfl) (fun _ _ _ h => h) (Or.inl ⟨by rfl, ?_⟩) hHeld ?_
          rotate_left
          · (intro _ hSw; go_simp; try with_reducible rfl)
          simp only [List.setIfInBounds_toArray, List.set_cons_zero, List.set_cons_succ]
          refine wpAnyH_takeAt (i := 8) (d := 124) (v := ?_) rfl rfl (by kernel_rfl) (by kernel_rfl) (by kernel_rfl) (fun _ _ _ h => h) (Or.inl ⟨by rfl, ?_⟩) hHeld ?_
          rotate_left
          · (intro _ hSw; go_simp; try with_reducible rfl)
          simp only [List.setIfInBounds_toArray, List.set_cons_zero, List.set_cons_succ]
          refine wpAnyH_takeAt (i := 9) (d := 125) (v := ?_) rfl rfl (by kernel_rfl) (by kernel_rfl) (by kernel_rfl) (fun _ _ _ h => h) (Or.inl ⟨by rfl, ?_⟩) hHeld ?_
          rotate_left
          · (intro _ hSw; go_simp; try with_reducible rfl)
          simp only [List.setIfInBounds_toArray, List.set_cons_zero, List.set_cons_succ]
          refine wpAnyH_takeAt (i := 10) (d := 126) (v := ?_) rfl rfl (by kernel_rfl) (by kernel_rfl) (by kernel_rfl) (fun _ _ _ h => h) (Or.inl ⟨by rfl, ?_⟩) hHeld ?_
          rotate_left
          · (intro _ hSw; go_simp; try with_reducible rfl)
          simp only [List.setIfInBounds_toArray, List.set_cons_zero, List.set_cons_succ]
          refine wpAnyH_takeAt (i := 11) (d := 127) (v := .agg y.cs) rfl rfl (by kernel_rfl) (by kernel_rfl) (by kernel_rfl) (fun _ _ _ h => h) (yieldsIf_load_mid (S := fun V => Below w7.heap.size w7 V) (by rfl) 42 (.tmp 126) rfl gl (i * 16) rfl (encPf y) _ (fun V hV => HYR.out V hV) Try.underlying42 rfl (infoFr.trans (by rw [encPf_len]))) hHeld ?_
          simp only [List.setIfInBounds_toArray, List.set_cons_zero, List.set_cons_succ]
          refine wpAnyH_takeAt (i := 12) (d := 128) (v := ?_) rfl rfl (by kernel_rfl) (by kernel_rfl) (by kernel_rfl) (fun _ _ _ h => h) (Or.inl ⟨by rfl, ?_⟩) hHeld ?_
          rotate_left
          · (intro _ hSw; go_simp; try with_reducible rfl)
          simp only [List.setIfInBounds_toArray, List.set_cons_zero, List.set_cons_succ]
          refine wpAnyH_takeAt (i := 13) (d := 129) (v := ?_) rfl rfl (by kernel_rfl) (by kernel_rfl) (by kernel_rfl) (fun _ _ _ h => h) (Or.inl ⟨by rfl, ?_⟩) hHeld ?_
          rotate_left
          · (intro _ hSw; go_simp; try with_reducible rfl)
          simp only [List.setIfInBounds_toArray, List.set_cons_zero, List.set_cons_succ]
          refine wpAnyH_takeAt (i := 14) (d := 130) (v := ?_) rfl rfl (by kernel_rfl) (by kernel_rfl) (by kernel_rfl) (fun _ _ _ h => h) (Or.inl ⟨by rfl, ?_⟩) hHeld ?_
          rotate_left
          · (intro _ hSw; go_simp; try with_reducible rfl)
          simp only [List.setIfInBounds_toArray, List.set_cons_zero, List.set_cons_succ]
          refine wpAnyH_ready (rs := [15]) (by kernel_rfl) (by simp) ?_
          refine AllReadyH.cons rfl (fun K hK => ?_) AllReadyH.nil
          go_simp
          refine (HRI.out _ hHeld).mono ?_
          rintro e X2 ⟨rfl, hb2⟩
          have hHeld2 : Below w7.heap.size w7 X2 := hHeld.trans (hb2.mono hHeld.size)
          refine hK.out _ _ hHeld2 (fun _ => ?_)
          clear hK K hb2 hHeld
          have hHeld := hHeld2
          clear hHeld2
          refine wpAnyH_takeAt (i := 16) (d := 132) (v := ?_) rfl rfl (by kernel_rfl) (by kernel_rfl) (by kernel_rfl) (fun _ _ _ h => h) (Or.inl ⟨by rfl, ?_⟩) hHeld ?_
          rotate_left
          · (intro _ hSw; go_simp; try with_reducible rfl)
          simp only [List.setIfInBounds_toArray, List.set_cons_zero, List.set_cons_succ]
          refine wpAnyH_takeAt (i := 17) (d := 133) (v := ?_) rfl rfl (by kernel_rfl) (by kernel_rfl) (by kernel_rfl) (fun _ _ _ h => h) (Or.inl ⟨by rfl, ?_⟩) hHeld ?_
          rotate_left
          · (intro _ hSw; go_simp; try with_reducible rfl)
          simp only [List.setIfInBounds_toArray, List.set_cons_zero, List.set_cons_succ]
          refine wpAnyH_takeAt (i := 18) (d := 134) (v := ?_) rfl rfl (by kernel_rfl) (by kernel_rfl) (by kernel_rfl) (fun _ _ _ h => h) (Or.inl ⟨by rfl, ?_⟩) hHeld ?_
          rotate_left
          · (intro _ hSw; go_simp; try with_reducible rfl)
          simp only [List.setIfInBounds_toArray, List.set_cons_zero, List.set_cons_succ]
          refine wpAnyH_takeAt (i := 19) (d := 135) (v := ?_) rfl rfl (by kernel_rfl) (by kernel_rfl) (by kernel_rfl) (fun _ _ _ h => h) (Or.inl ⟨by rfl, ?_⟩) hHeld ?_
          rotate_left
          · (intro _ hSw; go_simp; try with_reducible rfl)
          simp only [List.setIfInBounds_toArray, List.set_cons_zero, List.set_cons_succ]
          refine wpAnyH_takeAt (i := 20) (d := 136) (v := ?_) rfl rfl (by kernel_rfl) (by kernel_rfl) (by kernel_rfl) (fun _ _ _ h => h) (Or.inl ⟨by rfl, ?_⟩) hHeld ?_
          rotate_left
          · (intro _ hSw; go_simp; try with_reducible rfl)
          simp only [List.setIfInBounds_toArray, List.set_cons_zero, List.set_cons_succ]
          refine wpAnyH_takeAt (i := 21) (d := 137) (v := ?_) rfl rfl (by kernel_rfl) (by kernel_rfl) (by kernel_rfl) (fun _ _ _ h => h) (Or.inl ⟨by rfl, ?_⟩) hHeld ?_
          rotate_left
          · (intro _ hSw; go_simp; try with_reducible rfl)
          simp only [List.setIfInBounds_toArray, List.set_cons_zero, List.set_cons_succ]
          refine wpAnyH_takeAt (i := 22) (d := 138) (v := ?_) rfl rfl (by kernel_rfl) (by kernel_rfl) (by kernel_rfl) (fun _ _ _ h => h) (Or.inl ⟨by rfl, ?_⟩) hHeld ?_
          rotate_left
          · (intro _ hSw; go_simp; try with_reducible rfl)
          simp only [List.setIfInBounds_toArray, List.set_cons_zero, List.set_cons_succ]
          refine wpAnyH_takeAt (i := 23) (d := 139) (v := undef) rfl rfl (by kernel_rfl) (by kernel_rfl) (by kernel_rfl) (fun _ _ _ h => h) (Or.inr ⟨by rfl, rfl⟩) hHeld ?_
          simp only [List.setIfInBounds_toArray, List.set_cons_zero, List.set_cons_succ]
          refine wpAnyH_takeAt (i := 24) (d := 140) (v := undef) rfl rfl (by kernel_rfl) (by kernel_rfl) (by kernel_rfl) (fun _ _ _ h => h) (Or.inr ⟨by rfl, rfl⟩) hHeld ?_
          simp only [List.setIfInBounds_toArray, List.set_cons_zero, List.set_cons_succ]
          refine wpAnyH_takeAt (i := 25) (d := 141) (v := undef) rfl rfl (by kernel_rfl) (by kernel_rfl) (by kernel_rfl) (fun _ _ _ h => h) (Or.inr ⟨by rfl, rfl⟩) hHeld ?_
          simp only [List.setIfInBounds_toArray, List.set_cons_zero, List.set_cons_succ]
          refine wpAnyH_takeAt (i := 26) (d := 142) (v := undef) rfl rfl (by kernel_rfl) (by kernel_rfl) (by kernel_rfl) (fun _ _ _ h => h) (Or.inr ⟨by rfl, rfl⟩) hHeld ?_
          simp only [List.setIfInBounds_toArray, List.set_cons_zero, List.set_cons_succ]
          refine wpAnyH_takeAt (i := 27) (d := 143) (v := undef) rfl rfl (by kernel_rfl) (by kernel_rfl) (by kernel_rfl) (fun _ _ _ h => h) (Or.inr ⟨by rfl, rfl⟩) hHeld ?_
          simp only [List.setIfInBounds_toArray, List.set_cons_zero, List.set_cons_succ]
          refine wpAnyH_takeAt (i := 28) (d := 144) (v := undef) rfl rfl (by kernel_rfl) (by kernel_rfl) (by kernel_rfl) (fun _ _ _ h => h) (Or.inr ⟨by rfl, rfl⟩) hHeld ?_
          simp only [List.setIfInBounds_toArray, List.set_cons_zero, List.set_cons_succ]
          refine wpAnyH_takeAt (i := 29) (d := 145) (v := undef) rfl rfl (by kernel_rfl) (by kernel_rfl) (by kernel_rfl) (fun _ _ _ h => h) (Or.inr ⟨by rfl, rfl⟩) hHeld ?_
          simp only [List.setIfInBounds_toArray, List.set_cons_zero, List.set_cons_succ]
          refine wpAnyH_takeAt (i := 30) (d := 146) (v := undef) rfl rfl (by kernel_rfl) (by kernel_rfl) (by kernel_rfl) (fun _ _ _ h => h) (Or.inr ⟨by rfl, rfl⟩) hHeld ?_
          simp only [List.setIfInBounds_toArray, List.set_cons_zero, List.set_cons_succ]
          refine wpAnyH_takeAt (i := 31) (d := 147) (v := undef) rfl rfl (by kernel_rfl) (by kernel_rfl) (by kernel_rfl) (fun _ _ _ h => h) (Or.inr ⟨by rfl, rfl⟩) hHeld ?_
          simp only [List.setIfInBounds_toArray, List.set_cons_zero, List.set_cons_succ]
          refine wpAnyH_takeAt (i := 32) (d := 148) (v := ?_) rfl rfl (by kernel_rfl) (by kernel_rfl) (by kernel_rfl) (fun _ _ _ h => h) (Or.inl ⟨by rfl, ?_⟩) hHeld ?_
          rotate_left
          · (intro _ hSw; go_simp; try with_reducible rfl)
          simp only [List.setIfInBounds_toArray, List.set_cons_zero, List.set_cons_succ]
          refine wpAnyH_takeAt (i := 33) (d := 149) (v := ?_) rfl rfl (by kernel_rfl) (by kernel_rfl) (by kernel_rfl) (fun _ _ _ h => h) (Or.inl ⟨by rfl, ?_⟩) hHeld ?_
          rotate_left
          · (intro _ hSw; go_simp; try with_reducible rfl)
          simp only [List.setIfInBounds_toArray, List.set_cons_zero, List.set_cons_succ]
          have HF := Lib.hid hHeld
          refine wpAnyH_done (by kernel_rfl) ?_ _
          go_wp2_with fail
          go_roundw
          case rel => exact ⟨i + 1, by omega, by go_num, HBW.out.trans ((HB7.out.trans (HF.out.mono HB7.out.size)).mono HBW.out.size)⟩
          case measure => simp [intOf]; omega
      · obtain rfl : i = N := by omega
        have HA := Lib.hid (awake_any wr)
        go_wp2_with (go_at_call 8; refine HA.out.mono ?_; rintro e w' ⟨rfl, rfl⟩)
        go_ret
        exact ⟨rfl, HB6.out.trans (HBW.out.mono HB6.out.size)⟩

end Go.Proofs.Ytgkkobnoegggaaa
