/- Stage 12: ChunkCuts where there is no chunk, and at more than 2000 bytes. -/
import Derived.Test.YtgkkobnoegggaaaCkN
namespace Go.Proofs.Ytgkkobnoegggaaa
open Go.ChangeShapes Go.WideShapes Go.ChangeAt Go.RowKit

set_option maxRecDepth 40000 in
set_option maxHeartbeats 12800000 in
theorem cuts_none_low (di : Id) (A : Option Addr) (c : Nat) (l : List UInt8) (k a : Int) (W : World) (hn : l.length ≤ 2000) (hc : l.length ≤ c) (hm : c ≤ maxLen) (hL : Lies W W.heap.size A (bvs l)) (hk : k < 1 ∨ 65536 < k) (hout : decide (0 ≤ a) = false) :
    Calls Try.prog 4 #[.agg (idCells di), .slice A l.length c, .int .i64 k, .int .i64 a] W fun e w' => e = .returned (.bool true) ∧ Below W.heap.size W w' := by
  obtain ⟨i0, hi, hz0, hz1, hz2⟩ := info_parts Try.info5
  have d1 : decide ((2000 : Int) < (l.length : Int)) = false := by simp; omega
  have HSP : Hid (∀ V, Below W.heap.size W V → (convert 29 9 (.slice A l.length c)).run Try.prog V = .ok (.string (str l)) V) := fun V hV => strs_at rfl (hL.later hV)
  have HLP : Hid (∀ V, Below W.heap.size W V → Lies V V.heap.size A (bvs l)) := fun V hV => hL.later hV
  have HLW := Lib.hid hL
  clear hL
  unfold idCells
  go_enter Try.func4, Try.ntmps4
  go_upto_region 3 with fail
  generalize hW0 : World.alloc W _ = w0
  obtain ⟨hbx0, hs0, hb0⟩ := box_id W di hW0
  have HS0 := Lib.hid hs0
  have HB0 := Lib.hid hb0
  have HBX0 := Lib.hid hbx0
  clear hW0 hs0 hb0 hbx0
  have HL0 : Hid (Lies (w0.alloc (.cells #[] 5)) W.heap.size A (bvs l)) := HLW.out.below (HB0.out.trans (((Below.refl _ _).alloc (Nat.le_refl _) _).mono HB0.out.size))
  go_wp2_with (first | (at_builtin; refine wpList_append_lst rfl (.tmp 22) (.tmp 23) 29 rfl w0.heap.size 5 i0 (.int .u8 0) 1 Try.underlying29 hi hz0 hz1 hz2 rfl _ 0 [] rfl (World.ownsRow_lit w0 #[] 0 (Nat.le_refl _) (Nat.zero_le _) rfl) _ A l.length c (bvs l) rfl (bvs_length l) HL0.out (bvs_one l) ?d2 ?d3 ?d4 ?_) | fail)
  case d2 => unfold maxLen; omega
  case d3 => omega
  case d4 => simp
  intro v1 w1 hown1 hg1 hb1 _
  have hown1' : w1.ownsRow w0.heap.size 5 1 v1 l.length (bvs l) := by simpa using hown1
  obtain ⟨Ao, co, rfl, hco1, hco2⟩ := own_slice hown1'
  have HB01 : Hid (Below w0.heap.size w0 w1) := ((Below.refl _ _).alloc (Nat.le_refl _) _).trans hb1
  have HB1 : Hid (Below W.heap.size W w1) := HB0.out.trans (HB01.out.mono HB0.out.size)
  have HO1 := Lib.hid hown1'
  have HBX1 : Hid (w1.heap[W.heap.size]? = some (.cells (idCells di) 28 (0, 0))) := (HB01.out.block _ (Array.getElem?_eq_some_iff.1 HBX0.out).1).trans HBX0.out
  clear hown1 hg1 hb1 hown1' HBX0 HL0
  have HNF : Hid (¬ Fit (l.length : Int) k) := by show ¬ _; unfold Fit; omega
  have HRC := Lib.hid (refCuts_no A l.length c k w1 hn hk)
  clear hk
  go_wp2_with fail
  refine HRC.out.mono ?_
  rintro e w3 ⟨Ac, nc, cc, rfl, hnc, hR3⟩
  obtain rfl : 0 = nc := hnc.out
  have hb13 : Below w1.heap.size w1 w3 := by obtain ⟨_, _, _, h⟩ := hR3; exact h
  have HB3 : Hid (Below W.heap.size W w3) := HB1.out.trans (hb13.mono HB1.out.size)
  have HO3 : Hid (w3.ownsRow w0.heap.size 5 1 (.slice Ao l.length co) l.length (bvs l)) := own_below HO1.out hb13
  have HBX3 : Hid (w3.heap[W.heap.size]? = some (.cells (idCells di) 28 (0, 0))) := (hb13.block _ (Array.getElem?_eq_some_iff.1 HBX1.out).1).trans HBX1.out
  clear hR3 hnc hb13 HO1 HBX1 HRC
  have HCU := Lib.hid (cut_no k a rfl hco1 hco2 (Lies.of_own HO3.out) (fun h => HNF.out (there_fit h)))
  go_wp2_with fail
  refine HCU.out.mono ?_
  rintro e w4 ⟨Ab, nb, cb, rfl, hnb, hcb1, hcb2, hob, hb34⟩
  obtain rfl : 0 = nb := hnb.out
  have HB34 := Lib.hid hb34
  clear hnb hob hb34
  go_wp2_with fail
  refine wp_region_held_drew (S := fun V => Below w4.heap.size w4 V) (by kernel_rfl) ((Below.refl _ _).drew) (fun hHeld => ?_)
  have hHeld : Below w4.heap.size w4 w4.drew := (Below.refl _ _).drew
  generalize w4.drew = X0 at hHeld ⊢
  refine wpAnyH_takeAt (i := 0) (d := 43) (v := ?_) rfl rfl (by kernel_rfl) (by kernel_rfl) (by kernel_rfl) (fun _ _ _ h => h) (Or.inl ⟨by rfl, ?_⟩) hHeld ?_
  rotate_left
  · (intro _ hSw; go_simp; try with_reducible rfl)
  simp only [List.setIfInBounds_toArray, List.set_cons_zero, List.set_cons_succ]
  refine wpAnyH_takeAt (i := 1) (d := 44) (v := ?_) rfl rfl (by kernel_rfl) (by kernel_rfl) (by kernel_rfl) (fun _ _ _ h => h) (Or.inl ⟨by rfl, ?_⟩) hHeld ?_
  rotate_left
  · (intro _ hSw; go_simp; try with_reducible rfl)
  simp only [List.setIfInBounds_toArray, List.set_cons_zero, List.set_cons_succ]
  refine wpAnyH_takeAt (i := 2) (d := 45) (v := ?_) rfl rfl (by kernel_rfl) (by kernel_rfl) (by kernel_rfl) (fun _ _ _ h => h) (Or.inl ⟨by rfl, ?_⟩) hHeld ?_
  rotate_left
  · (intro _ hSw; go_simp; try with_reducible rfl)
  simp only [List.setIfInBounds_toArray, List.set_cons_zero, List.set_cons_succ]
  refine wpAnyH_takeAt (i := 3) (d := 46) (v := ?_) rfl rfl (by kernel_rfl) (by kernel_rfl) (by kernel_rfl) (fun _ _ _ h => h) (Or.inl ⟨by rfl, ?_⟩) hHeld ?_
  rotate_left
  · (intro _ hSw; go_simp; try with_reducible rfl)
  simp only [List.setIfInBounds_toArray, List.set_cons_zero, List.set_cons_succ]
  refine wpAnyH_takeAt (i := 4) (d := 47) (v := ?_) rfl rfl (by kernel_rfl) (by kernel_rfl) (by kernel_rfl) (fun _ _ _ h => h) (Or.inl ⟨by rfl, ?_⟩) hHeld ?_
  rotate_left
  · (intro _ hSw; go_simp; try with_reducible rfl)
  simp only [List.setIfInBounds_toArray, List.set_cons_zero, List.set_cons_succ]
  refine wpAnyH_takeAt (i := 5) (d := 48) (v := ?_) rfl rfl (by kernel_rfl) (by kernel_rfl) (by kernel_rfl) (fun _ _ _ h => h) (Or.inl ⟨by rfl, ?_⟩) hHeld ?_
  rotate_left
  · (intro _ hSw; go_simp; try with_reducible rfl)
  simp only [List.setIfInBounds_toArray, List.set_cons_zero, List.set_cons_succ]
  refine wpAnyH_takeAt (i := 6) (d := 49) (v := undef) rfl rfl (by kernel_rfl) (by kernel_rfl) (by kernel_rfl) (fun _ _ _ h => h) (Or.inr ⟨by rfl, rfl⟩) hHeld ?_
  simp only [List.setIfInBounds_toArray, List.set_cons_zero, List.set_cons_succ]
  refine wpAnyH_takeAt (i := 7) (d := 50) (v := undef) rfl rfl (by kernel_rfl) (by kernel_rfl) (by kernel_rfl) (fun _ _ _ h => h) (Or.inr ⟨by rfl, rfl⟩) hHeld ?_
  simp only [List.setIfInBounds_toArray, List.set_cons_zero, List.set_cons_succ]
  refine wpAnyH_takeAt (i := 8) (d := 51) (v := undef) rfl rfl (by kernel_rfl) (by kernel_rfl) (by kernel_rfl) (fun _ _ _ h => h) (Or.inr ⟨by rfl, rfl⟩) hHeld ?_
  simp only [List.setIfInBounds_toArray, List.set_cons_zero, List.set_cons_succ]
  refine wpAnyH_takeAt (i := 9) (d := 52) (v := undef) rfl rfl (by kernel_rfl) (by kernel_rfl) (by kernel_rfl) (fun _ _ _ h => h) (Or.inr ⟨by rfl, rfl⟩) hHeld ?_
  simp only [List.setIfInBounds_toArray, List.set_cons_zero, List.set_cons_succ]
  refine wpAnyH_takeAt (i := 10) (d := 53) (v := undef) rfl rfl (by kernel_rfl) (by kernel_rfl) (by kernel_rfl) (fun _ _ _ h => h) (Or.inr ⟨by rfl, rfl⟩) hHeld ?_
  simp only [List.setIfInBounds_toArray, List.set_cons_zero, List.set_cons_succ]
  refine wpAnyH_takeAt (i := 11) (d := 54) (v := undef) rfl rfl (by kernel_rfl) (by kernel_rfl) (by kernel_rfl) (fun _ _ _ h => h) (Or.inr ⟨by rfl, rfl⟩) hHeld ?_
  simp only [List.setIfInBounds_toArray, List.set_cons_zero, List.set_cons_succ]
  refine wpAnyH_takeAt (i := 12) (d := 55) (v := undef) rfl rfl (by kernel_rfl) (by kernel_rfl) (by kernel_rfl) (fun _ _ _ h => h) (Or.inr ⟨by rfl, rfl⟩) hHeld ?_
  simp only [List.setIfInBounds_toArray, List.set_cons_zero, List.set_cons_succ]
  refine wpAnyH_takeAt (i := 13) (d := 56) (v := undef) rfl rfl (by kernel_rfl) (by kernel_rfl) (by kernel_rfl) (fun _ _ _ h => h) (Or.inr ⟨by rfl, rfl⟩) hHeld ?_
  simp only [List.setIfInBounds_toArray, List.set_cons_zero, List.set_cons_succ]
  refine wpAnyH_takeAt (i := 14) (d := 57) (v := ?_) rfl rfl (by kernel_rfl) (by kernel_rfl) (by kernel_rfl) (fun _ _ _ h => h) (Or.inl ⟨by rfl, ?_⟩) hHeld ?_
  rotate_left
  · (intro _ hSw; go_simp; try with_reducible rfl)
  simp only [List.setIfInBounds_toArray, List.set_cons_zero, List.set_cons_succ]
  refine wpAnyH_takeAt (i := 15) (d := 58) (v := ?_) rfl rfl (by kernel_rfl) (by kernel_rfl) (by kernel_rfl) (fun _ _ _ h => h) (Or.inl ⟨by rfl, ?_⟩) hHeld ?_
  rotate_left
  · (intro _ hSw; go_simp; try with_reducible rfl)
  simp only [List.setIfInBounds_toArray, List.set_cons_zero, List.set_cons_succ]
  refine wpAnyH_takeAt (i := 16) (d := 59) (v := ?_) rfl rfl (by kernel_rfl) (by kernel_rfl) (by kernel_rfl) (fun _ _ _ h => h) (Or.inl ⟨by rfl, ?_⟩) hHeld ?_
  rotate_left
  · (intro _ hSw; go_simp; try with_reducible rfl)
  simp only [List.setIfInBounds_toArray, List.set_cons_zero, List.set_cons_succ]
  refine wpAnyH_takeAt (i := 17) (d := 60) (v := ?_) rfl rfl (by kernel_rfl) (by kernel_rfl) (by kernel_rfl) (fun _ _ _ h => h) (Or.inl ⟨by rfl, ?_⟩) hHeld ?_
  rotate_left
  · (intro _ hSw; go_simp; try with_reducible rfl)
  simp only [List.setIfInBounds_toArray, List.set_cons_zero, List.set_cons_succ]
  refine wpAnyH_takeAt (i := 18) (d := 61) (v := ?_) rfl rfl (by kernel_rfl) (by kernel_rfl) (by kernel_rfl) (fun _ _ _ h => h) (Or.inl ⟨by rfl, ?_⟩) hHeld ?_
  rotate_left
  · (intro _ hSw; go_simp; try with_reducible rfl)
  simp only [List.setIfInBounds_toArray, List.set_cons_zero, List.set_cons_succ]
  refine wpAnyH_takeAt (i := 19) (d := 62) (v := ?_) rfl rfl (by kernel_rfl) (by kernel_rfl) (by kernel_rfl) (fun _ _ _ h => h) (Or.inl ⟨by rfl, ?_⟩) hHeld ?_
  rotate_left
  · (intro _ hSw; go_simp; try with_reducible rfl)
  simp only [List.setIfInBounds_toArray, List.set_cons_zero, List.set_cons_succ]
  refine wpAnyH_takeAt (i := 20) (d := 63) (v := ?_) rfl rfl (by kernel_rfl) (by kernel_rfl) (by kernel_rfl) (fun _ _ _ h => h) (Or.inl ⟨by rfl, ?_⟩) hHeld ?_
  rotate_left
  · (intro _ hSw; go_simp; try with_reducible rfl)
  simp only [List.setIfInBounds_toArray, List.set_cons_zero, List.set_cons_succ]
  refine wpAnyH_takeAt (i := 21) (d := 64) (v := ?_) rfl rfl (by kernel_rfl) (by kernel_rfl) (by kernel_rfl) (fun _ _ _ h => h) (Or.inl ⟨by rfl, ?_⟩) hHeld ?_
  rotate_left
  · (intro _ hSw; go_simp; try with_reducible rfl)
  simp only [List.setIfInBounds_toArray, List.set_cons_zero, List.set_cons_succ]
  refine wpAnyH_takeAt (i := 22) (d := 65) (v := ?_) rfl rfl (by kernel_rfl) (by kernel_rfl) (by kernel_rfl) (fun _ _ _ h => h) (Or.inl ⟨by rfl, ?_⟩) hHeld ?_
  rotate_left
  · (intro _ hSw; go_simp; try with_reducible rfl)
  simp only [List.setIfInBounds_toArray, List.set_cons_zero, List.set_cons_succ]
  refine wpAnyH_takeAt (i := 23) (d := 66) (v := ?_) rfl rfl (by kernel_rfl) (by kernel_rfl) (by kernel_rfl) (fun _ _ _ h => h) (Or.inl ⟨by rfl, ?_⟩) hHeld ?_
  rotate_left
  · (intro _ hSw; go_simp; try with_reducible rfl)
  simp only [List.setIfInBounds_toArray, List.set_cons_zero, List.set_cons_succ]
  refine wpAnyH_takeAt (i := 24) (d := 67) (v := ?_) rfl rfl (by kernel_rfl) (by kernel_rfl) (by kernel_rfl) (fun _ _ _ h => h) (Or.inl ⟨by rfl, ?_⟩) hHeld ?_
  rotate_left
  · (intro _ hSw; go_simp; try with_reducible rfl)
  simp only [List.setIfInBounds_toArray, List.set_cons_zero, List.set_cons_succ]
  have HB4X := Lib.hid hHeld
  refine wpAnyH_done (by kernel_rfl) ?_ _
  have HB35X : Hid (Below w3.heap.size w3 X0) := HB34.out.trans (HB4X.out.mono HB34.out.size)
  clear HB34 HB4X hHeld
  go_wp2_with fail
  go_loopw [14] (fun s wr => s = .int .i64 0 ∧ wr = X0) (fun _ _ => 0)
  case atStart => exact ⟨rfl, rfl⟩
  case round =>
    obtain ⟨rfl, rfl⟩ := hrel
    have HB35 := HB35X
    clear HB35X
    generalize wr = w5 at *
    have HO5 : Hid (w5.ownsRow w0.heap.size 5 1 (.slice Ao l.length co) l.length (bvs l)) := own_below HO3.out HB35.out
    have HAL := Lib.hid (all_no di Ao co l k w5 (by omega) HNF.out)
    have HBX5 : Hid (w5.heap[W.heap.size]? = some (.cells (idCells di) 28 (0, 0))) := (HB35.out.block _ (Array.getElem?_eq_some_iff.1 HBX3.out).1).trans HBX3.out
    have c0 := cell_of_row w5 W.heap.size 0 _ _ _ HBX5.out
    have c1 := cell_of_row w5 W.heap.size 1 _ _ _ HBX5.out
    rw [show (idCells di)[0]? = some (.int .u8 (di.f : Int)) from rfl] at c0
    rw [show (idCells di)[1]? = some (.int .u64 (di.s : Int)) from rfl] at c1
    go_wp2_with fail
    refine HAL.out.mono ?_
    rintro e w6 ⟨Al, nl, cl, rfl, hnl, hF6, hb6⟩
    obtain rfl : 0 = nl := hnl.out
    have HB56 : Hid (Below w3.heap.size w3 w6) := HB35.out.trans (hb6.mono HB35.out.size)
    have HB6 : Hid (Below W.heap.size W w6) := HB3.out.trans (HB56.out.mono HB3.out.size)
    have s5 := strs_at (c := co) rfl (Lies.of_own (own_below HO3.out HB56.out))
    have s6 := HSP.out w6 HB6.out
    clear hnl hF6 hb6 c0 c1 HBX5 HAL HO5
    go_wp2_with fail
    clear s5 s6
    go_loopw [16] (fun s wr => s = .int .i64 0 ∧ wr = w6) (fun _ _ => 0)
    case atStart => exact ⟨rfl, rfl⟩
    case round =>
      obtain ⟨rfl, rfl⟩ := hrel
      have HA := Lib.hid (awake_any wr)
      go_wp2_with (go_at_call 8; refine HA.out.mono ?_; rintro e w' ⟨rfl, rfl⟩)
      go_ret
      exact ⟨rfl, HB6.out⟩

set_option maxRecDepth 40000 in
set_option maxHeartbeats 12800000 in
theorem cuts_none_high (di : Id) (A : Option Addr) (c : Nat) (l : List UInt8) (k a : Int) (W : World) (hn : l.length ≤ 2000) (hc : l.length ≤ c) (hm : c ≤ maxLen) (hL : Lies W W.heap.size A (bvs l)) (hk : k < 1 ∨ 65536 < k) (hge : decide (0 ≤ a) = true) (hout : decide (a < 0) = false) :
    Calls Try.prog 4 #[.agg (idCells di), .slice A l.length c, .int .i64 k, .int .i64 a] W fun e w' => e = .returned (.bool true) ∧ Below W.heap.size W w' := by
  obtain ⟨i0, hi, hz0, hz1, hz2⟩ := info_parts Try.info5
  have d1 : decide ((2000 : Int) < (l.length : Int)) = false := by simp; omega
  have HSP : Hid (∀ V, Below W.heap.size W V → (convert 29 9 (.slice A l.length c)).run Try.prog V = .ok (.string (str l)) V) := fun V hV => strs_at rfl (hL.later hV)
  have HLP : Hid (∀ V, Below W.heap.size W V → Lies V V.heap.size A (bvs l)) := fun V hV => hL.later hV
  have HLW := Lib.hid hL
  clear hL
  unfold idCells
  go_enter Try.func4, Try.ntmps4
  go_upto_region 3 with fail
  generalize hW0 : World.alloc W _ = w0
  obtain ⟨hbx0, hs0, hb0⟩ := box_id W di hW0
  have HS0 := Lib.hid hs0
  have HB0 := Lib.hid hb0
  have HBX0 := Lib.hid hbx0
  clear hW0 hs0 hb0 hbx0
  have HL0 : Hid (Lies (w0.alloc (.cells #[] 5)) W.heap.size A (bvs l)) := HLW.out.below (HB0.out.trans (((Below.refl _ _).alloc (Nat.le_refl _) _).mono HB0.out.size))
  go_wp2_with (first | (at_builtin; refine wpList_append_lst rfl (.tmp 22) (.tmp 23) 29 rfl w0.heap.size 5 i0 (.int .u8 0) 1 Try.underlying29 hi hz0 hz1 hz2 rfl _ 0 [] rfl (World.ownsRow_lit w0 #[] 0 (Nat.le_refl _) (Nat.zero_le _) rfl) _ A l.length c (bvs l) rfl (bvs_length l) HL0.out (bvs_one l) ?d2 ?d3 ?d4 ?_) | fail)
  case d2 => unfold maxLen; omega
  case d3 => omega
  case d4 => simp
  intro v1 w1 hown1 hg1 hb1 _
  have hown1' : w1.ownsRow w0.heap.size 5 1 v1 l.length (bvs l) := by simpa using hown1
  obtain ⟨Ao, co, rfl, hco1, hco2⟩ := own_slice hown1'
  have HB01 : Hid (Below w0.heap.size w0 w1) := ((Below.refl _ _).alloc (Nat.le_refl _) _).trans hb1
  have HB1 : Hid (Below W.heap.size W w1) := HB0.out.trans (HB01.out.mono HB0.out.size)
  have HO1 := Lib.hid hown1'
  have HBX1 : Hid (w1.heap[W.heap.size]? = some (.cells (idCells di) 28 (0, 0))) := (HB01.out.block _ (Array.getElem?_eq_some_iff.1 HBX0.out).1).trans HBX0.out
  clear hown1 hg1 hb1 hown1' HBX0 HL0
  have HNF : Hid (¬ Fit (l.length : Int) k) := by show ¬ _; unfold Fit; omega
  have HRC := Lib.hid (refCuts_no A l.length c k w1 hn hk)
  clear hk
  go_wp2_with fail
  refine HRC.out.mono ?_
  rintro e w3 ⟨Ac, nc, cc, rfl, hnc, hR3⟩
  obtain rfl : 0 = nc := hnc.out
  have hb13 : Below w1.heap.size w1 w3 := by obtain ⟨_, _, _, h⟩ := hR3; exact h
  have HB3 : Hid (Below W.heap.size W w3) := HB1.out.trans (hb13.mono HB1.out.size)
  have HO3 : Hid (w3.ownsRow w0.heap.size 5 1 (.slice Ao l.length co) l.length (bvs l)) := own_below HO1.out hb13
  have HBX3 : Hid (w3.heap[W.heap.size]? = some (.cells (idCells di) 28 (0, 0))) := (hb13.block _ (Array.getElem?_eq_some_iff.1 HBX1.out).1).trans HBX1.out
  clear hR3 hnc hb13 HO1 HBX1 HRC
  have HCU := Lib.hid (cut_no k a rfl hco1 hco2 (Lies.of_own HO3.out) (fun h => HNF.out (there_fit h)))
  go_wp2_with fail
  refine HCU.out.mono ?_
  rintro e w4 ⟨Ab, nb, cb, rfl, hnb, hcb1, hcb2, hob, hb34⟩
  obtain rfl : 0 = nb := hnb.out
  have HB34 := Lib.hid hb34
  clear hnb hob hb34
  go_wp2_with fail
  refine wp_region_held_drew (S := fun V => Below w4.heap.size w4 V) (by kernel_rfl) ((Below.refl _ _).drew) (fun hHeld => ?_)
  have hHeld : Below w4.heap.size w4 w4.drew := (Below.refl _ _).drew
  generalize w4.drew = X0 at hHeld ⊢
  refine wpAnyH_takeAt (i := 0) (d := 43) (v := ?_) rfl rfl (by kernel_rfl) (by kernel_rfl) (by kernel_rfl) (fun _ _ _ h => h) (Or.inl ⟨by rfl, ?_⟩) hHeld ?_
  rotate_left
  · (intro _ hSw; go_simp; try with_reducible rfl)
  simp only [List.setIfInBounds_toArray, List.set_cons_zero, List.set_cons_succ]
  refine wpAnyH_takeAt (i := 1) (d := 44) (v := ?_) rfl rfl (by kernel_rfl) (by kernel_rfl) (by kernel_rfl) (fun _ _ _ h => h) (Or.inl ⟨by rfl, ?_⟩) hHeld ?_
  rotate_left
  · (intro _ hSw; go_simp; try with_reducible rfl)
  simp only [List.setIfInBounds_toArray, List.set_cons_zero, List.set_cons_succ]
  refine wpAnyH_takeAt (i := 2) (d := 45) (v := ?_) rfl rfl (by kernel_rfl) (by kernel_rfl) (by kernel_rfl) (fun _ _ _ h => h) (Or.inl ⟨by rfl, ?_⟩) hHeld ?_
  rotate_left
  · (intro _ hSw; go_simp; try with_reducible rfl)
  simp only [List.setIfInBounds_toArray, List.set_cons_zero, List.set_cons_succ]
  refine wpAnyH_takeAt (i := 3) (d := 46) (v := ?_) rfl rfl (by kernel_rfl) (by kernel_rfl) (by kernel_rfl) (fun _ _ _ h => h) (Or.inl ⟨by rfl, ?_⟩) hHeld ?_
  rotate_left
  · (intro _ hSw; go_simp; try with_reducible rfl)
  simp only [List.setIfInBounds_toArray, List.set_cons_zero, List.set_cons_succ]
  refine wpAnyH_takeAt (i := 4) (d := 47) (v := ?_) rfl rfl (by kernel_rfl) (by kernel_rfl) (by kernel_rfl) (fun _ _ _ h => h) (Or.inl ⟨by rfl, ?_⟩) hHeld ?_
  rotate_left
  · (intro _ hSw; go_simp; try with_reducible rfl)
  simp only [List.setIfInBounds_toArray, List.set_cons_zero, List.set_cons_succ]
  refine wpAnyH_takeAt (i := 5) (d := 48) (v := ?_) rfl rfl (by kernel_rfl) (by kernel_rfl) (by kernel_rfl) (fun _ _ _ h => h) (Or.inl ⟨by rfl, ?_⟩) hHeld ?_
  rotate_left
  · (intro _ hSw; go_simp; try with_reducible rfl)
  simp only [List.setIfInBounds_toArray, List.set_cons_zero, List.set_cons_succ]
  refine wpAnyH_takeAt (i := 6) (d := 49) (v := undef) rfl rfl (by kernel_rfl) (by kernel_rfl) (by kernel_rfl) (fun _ _ _ h => h) (Or.inr ⟨by rfl, rfl⟩) hHeld ?_
  simp only [List.setIfInBounds_toArray, List.set_cons_zero, List.set_cons_succ]
  refine wpAnyH_takeAt (i := 7) (d := 50) (v := undef) rfl rfl (by kernel_rfl) (by kernel_rfl) (by kernel_rfl) (fun _ _ _ h => h) (Or.inr ⟨by rfl, rfl⟩) hHeld ?_
  simp only [List.setIfInBounds_toArray, List.set_cons_zero, List.set_cons_succ]
  refine wpAnyH_takeAt (i := 8) (d := 51) (v := undef) rfl rfl (by kernel_rfl) (by kernel_rfl) (by kernel_rfl) (fun _ _ _ h => h) (Or.inr ⟨by rfl, rfl⟩) hHeld ?_
  simp only [List.setIfInBounds_toArray, List.set_cons_zero, List.set_cons_succ]
  refine wpAnyH_takeAt (i := 9) (d := 52) (v := undef) rfl rfl (by kernel_rfl) (by kernel_rfl) (by kernel_rfl) (fun _ _ _ h => h) (Or.inr ⟨by rfl, rfl⟩) hHeld ?_
  simp only [List.setIfInBounds_toArray, List.set_cons_zero, List.set_cons_succ]
  refine wpAnyH_takeAt (i := 10) (d := 53) (v := undef) rfl rfl (by kernel_rfl) (by kernel_rfl) (by kernel_rfl) (fun _ _ _ h => h) (Or.inr ⟨by rfl, rfl⟩) hHeld ?_
  simp only [List.setIfInBounds_toArray, List.set_cons_zero, List.set_cons_succ]
  refine wpAnyH_takeAt (i := 11) (d := 54) (v := undef) rfl rfl (by kernel_rfl) (by kernel_rfl) (by kernel_rfl) (fun _ _ _ h => h) (Or.inr ⟨by rfl, rfl⟩) hHeld ?_
  simp only [List.setIfInBounds_toArray, List.set_cons_zero, List.set_cons_succ]
  refine wpAnyH_takeAt (i := 12) (d := 55) (v := undef) rfl rfl (by kernel_rfl) (by kernel_rfl) (by kernel_rfl) (fun _ _ _ h => h) (Or.inr ⟨by rfl, rfl⟩) hHeld ?_
  simp only [List.setIfInBounds_toArray, List.set_cons_zero, List.set_cons_succ]
  refine wpAnyH_takeAt (i := 13) (d := 56) (v := undef) rfl rfl (by kernel_rfl) (by kernel_rfl) (by kernel_rfl) (fun _ _ _ h => h) (Or.inr ⟨by rfl, rfl⟩) hHeld ?_
  simp only [List.setIfInBounds_toArray, List.set_cons_zero, List.set_cons_succ]
  refine wpAnyH_takeAt (i := 14) (d := 57) (v := ?_) rfl rfl (by kernel_rfl) (by kernel_rfl) (by kernel_rfl) (fun _ _ _ h => h) (Or.inl ⟨by rfl, ?_⟩) hHeld ?_
  rotate_left
  · (intro _ hSw; go_simp; try with_reducible rfl)
  simp only [List.setIfInBounds_toArray, List.set_cons_zero, List.set_cons_succ]
  refine wpAnyH_takeAt (i := 15) (d := 58) (v := ?_) rfl rfl (by kernel_rfl) (by kernel_rfl) (by kernel_rfl) (fun _ _ _ h => h) (Or.inl ⟨by rfl, ?_⟩) hHeld ?_
  rotate_left
  · (intro _ hSw; go_simp; try with_reducible rfl)
  simp only [List.setIfInBounds_toArray, List.set_cons_zero, List.set_cons_succ]
  refine wpAnyH_takeAt (i := 16) (d := 59) (v := ?_) rfl rfl (by kernel_rfl) (by kernel_rfl) (by kernel_rfl) (fun _ _ _ h => h) (Or.inl ⟨by rfl, ?_⟩) hHeld ?_
  rotate_left
  · (intro _ hSw; go_simp; try with_reducible rfl)
  simp only [List.setIfInBounds_toArray, List.set_cons_zero, List.set_cons_succ]
  refine wpAnyH_takeAt (i := 17) (d := 60) (v := ?_) rfl rfl (by kernel_rfl) (by kernel_rfl) (by kernel_rfl) (fun _ _ _ h => h) (Or.inl ⟨by rfl, ?_⟩) hHeld ?_
  rotate_left
  · (intro _ hSw; go_simp; try with_reducible rfl)
  simp only [List.setIfInBounds_toArray, List.set_cons_zero, List.set_cons_succ]
  refine wpAnyH_takeAt (i := 18) (d := 61) (v := ?_) rfl rfl (by kernel_rfl) (by kernel_rfl) (by kernel_rfl) (fun _ _ _ h => h) (Or.inl ⟨by rfl, ?_⟩) hHeld ?_
  rotate_left
  · (intro _ hSw; go_simp; try with_reducible rfl)
  simp only [List.setIfInBounds_toArray, List.set_cons_zero, List.set_cons_succ]
  refine wpAnyH_takeAt (i := 19) (d := 62) (v := ?_) rfl rfl (by kernel_rfl) (by kernel_rfl) (by kernel_rfl) (fun _ _ _ h => h) (Or.inl ⟨by rfl, ?_⟩) hHeld ?_
  rotate_left
  · (intro _ hSw; go_simp; try with_reducible rfl)
  simp only [List.setIfInBounds_toArray, List.set_cons_zero, List.set_cons_succ]
  refine wpAnyH_takeAt (i := 20) (d := 63) (v := ?_) rfl rfl (by kernel_rfl) (by kernel_rfl) (by kernel_rfl) (fun _ _ _ h => h) (Or.inl ⟨by rfl, ?_⟩) hHeld ?_
  rotate_left
  · (intro _ hSw; go_simp; try with_reducible rfl)
  simp only [List.setIfInBounds_toArray, List.set_cons_zero, List.set_cons_succ]
  refine wpAnyH_takeAt (i := 21) (d := 64) (v := ?_) rfl rfl (by kernel_rfl) (by kernel_rfl) (by kernel_rfl) (fun _ _ _ h => h) (Or.inl ⟨by rfl, ?_⟩) hHeld ?_
  rotate_left
  · (intro _ hSw; go_simp; try with_reducible rfl)
  simp only [List.setIfInBounds_toArray, List.set_cons_zero, List.set_cons_succ]
  refine wpAnyH_takeAt (i := 22) (d := 65) (v := ?_) rfl rfl (by kernel_rfl) (by kernel_rfl) (by kernel_rfl) (fun _ _ _ h => h) (Or.inl ⟨by rfl, ?_⟩) hHeld ?_
  rotate_left
  · (intro _ hSw; go_simp; try with_reducible rfl)
  simp only [List.setIfInBounds_toArray, List.set_cons_zero, List.set_cons_succ]
  refine wpAnyH_takeAt (i := 23) (d := 66) (v := ?_) rfl rfl (by kernel_rfl) (by kernel_rfl) (by kernel_rfl) (fun _ _ _ h => h) (Or.inl ⟨by rfl, ?_⟩) hHeld ?_
  rotate_left
  · (intro _ hSw; go_simp; try with_reducible rfl)
  simp only [List.setIfInBounds_toArray, List.set_cons_zero, List.set_cons_succ]
  refine wpAnyH_takeAt (i := 24) (d := 67) (v := ?_) rfl rfl (by kernel_rfl) (by kernel_rfl) (by kernel_rfl) (fun _ _ _ h => h) (Or.inl ⟨by rfl, ?_⟩) hHeld ?_
  rotate_left
  · (intro _ hSw; go_simp; try with_reducible rfl)
  simp only [List.setIfInBounds_toArray, List.set_cons_zero, List.set_cons_succ]
  have HB4X := Lib.hid hHeld
  refine wpAnyH_done (by kernel_rfl) ?_ _
  have HB35X : Hid (Below w3.heap.size w3 X0) := HB34.out.trans (HB4X.out.mono HB34.out.size)
  clear HB34 HB4X hHeld
  go_wp2_with fail
  go_loopw [14] (fun s wr => s = .int .i64 0 ∧ wr = X0) (fun _ _ => 0)
  case atStart => exact ⟨rfl, rfl⟩
  case round =>
    obtain ⟨rfl, rfl⟩ := hrel
    have HB35 := HB35X
    clear HB35X
    generalize wr = w5 at *
    have HO5 : Hid (w5.ownsRow w0.heap.size 5 1 (.slice Ao l.length co) l.length (bvs l)) := own_below HO3.out HB35.out
    have HAL := Lib.hid (all_no di Ao co l k w5 (by omega) HNF.out)
    have HBX5 : Hid (w5.heap[W.heap.size]? = some (.cells (idCells di) 28 (0, 0))) := (HB35.out.block _ (Array.getElem?_eq_some_iff.1 HBX3.out).1).trans HBX3.out
    have c0 := cell_of_row w5 W.heap.size 0 _ _ _ HBX5.out
    have c1 := cell_of_row w5 W.heap.size 1 _ _ _ HBX5.out
    rw [show (idCells di)[0]? = some (.int .u8 (di.f : Int)) from rfl] at c0
    rw [show (idCells di)[1]? = some (.int .u64 (di.s : Int)) from rfl] at c1
    go_wp2_with fail
    refine HAL.out.mono ?_
    rintro e w6 ⟨Al, nl, cl, rfl, hnl, hF6, hb6⟩
    obtain rfl : 0 = nl := hnl.out
    have HB56 : Hid (Below w3.heap.size w3 w6) := HB35.out.trans (hb6.mono HB35.out.size)
    have HB6 : Hid (Below W.heap.size W w6) := HB3.out.trans (HB56.out.mono HB3.out.size)
    have s5 := strs_at (c := co) rfl (Lies.of_own (own_below HO3.out HB56.out))
    have s6 := HSP.out w6 HB6.out
    clear hnl hF6 hb6 c0 c1 HBX5 HAL HO5
    go_wp2_with fail
    clear s5 s6
    go_loopw [16] (fun s wr => s = .int .i64 0 ∧ wr = w6) (fun _ _ => 0)
    case atStart => exact ⟨rfl, rfl⟩
    case round =>
      obtain ⟨rfl, rfl⟩ := hrel
      have HA := Lib.hid (awake_any wr)
      go_wp2_with (go_at_call 8; refine HA.out.mono ?_; rintro e w' ⟨rfl, rfl⟩)
      go_ret
      exact ⟨rfl, HB6.out⟩

theorem cuts_many (di : Id) (A : Option Addr) (n c : Nat) (k a : Int) (W : World) (hn : 2000 < n) :
    Calls Try.prog 4 #[.agg (idCells di), .slice A n c, .int .i64 k, .int .i64 a] W fun e w' => e = .returned (.bool true) ∧ Below W.heap.size W w' := by
  have d1 : decide ((2000 : Int) < (n : Int)) = true := by simp; omega
  have HB : Hid (Below W.heap.size W (W.alloc (.cells (idCells di) 28))) := (Below.refl _ _).alloc (Nat.le_refl _) _
  have HA : Hid (∀ V, Calls Try.prog 8 #[] V fun e w' => e = .returned (.bool true) ∧ V = w') := fun V => (awake_any V).mono fun e w' (h : e = .returned (.bool true) ∧ w' = V) => (⟨h.1, h.2.symm⟩ : e = .returned (.bool true) ∧ V = w')
  unfold idCells
  go_enter Try.func4, Try.ntmps4
  go_wp2_with (go_at_call 8; refine (HA.out _).mono ?_; rintro e w' ⟨rfl, rfl⟩)
  go_ret
  exact ⟨rfl, HB.out⟩

end Go.Proofs.Ytgkkobnoegggaaa
