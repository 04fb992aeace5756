/- VecTurns: for every list of vectors and every place the call returns true (in whatever order, and however often, vectors are told, their least and greatest numbers are the same; by parts, too), and changes nothing that was there. No conditions. -/
import Derived.Test.YtjhdaddemeegmaaVcT
import Derived.ChangeOld
namespace Go.Proofs.Ytjhdaddemeegmaa
open Go.ChangeShapes Go.WideShapes Go.ChangeAt Go.RowKit

theorem turned_max (ls : List (List Nat)) (k : Nat) : foldV max (ls.drop k ++ ls) = foldV max ls :=
  max_same (fun l hl => by rcases List.mem_append.1 hl with h | h; exact List.mem_of_mem_drop h; exact h) (fun l hl => List.mem_append.2 (.inr hl))
theorem turned_min (ls : List (List Nat)) (k : Nat) (hne : ls ≠ []) : foldV min (ls.drop k ++ ls) = foldV min ls :=
  min_same (by simp [hne]) hne (fun l hl => by rcases List.mem_append.1 hl with h | h; exact List.mem_of_mem_drop h; exact h) (fun l hl => List.mem_append.2 (.inr hl))
theorem part_max (ls : List (List Nat)) (k : Nat) : foldV max (foldV max (ls.take k) :: ls.drop k) = foldV max ls := by
  rw [max_parts, List.take_append_drop]

/-- What a call that makes a vector answers, seen from a world ahead. -/
def Made (w : World) (l : List Nat) (e : Ending) (w' : World) : Prop := ∃ A n c, e = .returned (.slice A n c) ∧ Hid (l.length = n) ∧ n ≤ c ∧ c ≤ maxLen ∧ Lies w' w'.heap.size A (uvs l) ∧ Below w.heap.size w w'

theorem OwnedV.made {w W w' : World} {l : List Nat} {e : Ending} (hW : Below w.heap.size w W) (h : OwnedV W W.heap.size l e w') : Made w l e w' := by
  obtain ⟨A, n, c, he, hn, h1, h2, hL, hb⟩ := h.use
  exact ⟨A, n, c, he, hn, h1, h2, hL, hW.trans (hb.mono hW.size)⟩

set_option maxHeartbeats 3200000 in
theorem vecTurns_walk (A2 : Option Addr) (m c2 y k : Nat) (vs : List Value) (ls : List (List Nat)) (w : World) (hy : y < 256) (hm : m ≤ 30) (hm0 : 0 < m) (hk : k < m) (hyk : k = y % m)
    (hl2 : vs.length = m) (hc3 : m ≤ c2) (hc4 : c2 ≤ maxLen) (h2 : Lies w w.heap.size A2 vs) (hr : VecRows w w.heap.size vs ls) (hls : (ls.any fun x => decide (100 < x.length)) = false) :
    Calls Try.prog 6 #[.slice A2 m c2, .int .u8 (y : Int)] w fun e w' => e = .returned (.bool true) ∧ Below w.heap.size w w' := by
  have mixed := mixedOrders
  have hd2 : ((m : Int) == 0) = false := by simp; omega
  have e1 : (y : Int) % (m : Int) = (k : Int) := by rw [hyk]; omega
  have e2 : (y : Int).tmod (m : Int) = (k : Int) := by rw [← e1]; exact Int.tmod_eq_emod_of_nonneg (by omega)
  have hg := great_few A2 m c2 vs ls w hm hl2 h2 hr
  rw [hls] at hg
  have hsh := great_says hls
  have hlong : longN ls ≤ 100 := (long_le _ _).2 hsh
  have hne : ls ≠ [] := by intro h0; have := hr.1; rw [h0] at this; simp at this; rw [this] at hl2; simp at hl2; omega
  have hlmax : ∀ L : List (List Nat), (∀ l ∈ L, l ∈ ls) → longN L ≤ 100 := fun L hL => (long_le _ _).2 fun l hl => hsh l (hL l hl)
  have hkm : k ≤ m := by omega
  have hkc : ¬ c2 = k := by omega
  have hkc2 : ¬ k = c2 := by omega
  have hcm : c2 ≤ 9223372036854775807 := by unfold maxLen at hc4; omega
  obtain ⟨b, off, rfl, hbb, _⟩ := h2 (by intro h0; rw [h0] at hl2; simp at hl2; omega)
  have HLD : Hid (∀ W : World, Below w.heap.size w W → Lies W w.heap.size (some ⟨b, off + k, none⟩) (vs.drop k)) := fun W hW => lies_drop (h2.below hW) k
  have HLT : Hid (∀ W : World, Below w.heap.size w W → Lies W w.heap.size (some ⟨b, off, none⟩) (vs.take k)) := fun W hW => lies_take (h2.below hW) k
  have HLL : Hid (∀ W : World, Below w.heap.size w W → Lies W w.heap.size (some ⟨b, off, none⟩) vs) := fun W hW => h2.below hW
  have HDL : Hid ((vs.drop k).length = m - k) := by show _ = _; rw [List.length_drop, hl2]
  have HTL : Hid ((vs.take k).length = k) := by show _ = _; rw [List.length_take, hl2]; omega
  have HDO : Hid (∀ u ∈ vs.drop k, u.oneCell' = true) := rows_one (hr.drop k)
  have HTO : Hid (∀ u ∈ vs.take k, u.oneCell' = true) := rows_one (hr.take k)
  have HVO : Hid (∀ u ∈ vs, u.oneCell' = true) := rows_one hr
  have HL2 := Lib.hid hl2
  have HR := Lib.hid hr
  have HLM := Lib.hid hlmax
  have HSM := Lib.hid (foldV_length max ls)
  have HSm := Lib.hid (foldV_length min ls)
  have J2 : Hid (∀ W : World, Below w.heap.size w W → Calls Try.prog 20 #[.slice (some ⟨b, off, none⟩) m c2] W (OwnedV W W.heap.size (foldV min ls))) := fun W hW => min_any _ m c2 vs ls W (by omega) hc3 hc4 (by omega) hl2 (h2.later hW) (hr.later hW)
  have J4 : Hid (∀ W : World, Below w.heap.size w W → Calls Try.prog 22 #[.slice (some ⟨b, off, none⟩) m c2] W (OwnedV W W.heap.size (foldV max ls))) := fun W hW => max_any _ m c2 vs ls W (by omega) hc3 hc4 (by omega) hl2 (h2.later hW) (hr.later hW)
  have HNE := Lib.hid hne
  clear hls hsh hr hl2 h2 hc4 hlmax hyk hne
  go_enter Try.func6, Try.ntmps6
  go_wp2_with fail
  refine hg.mono ?_
  rintro e w0 ⟨rfl, rfl⟩
  clear hg
  have hd1 := HLD.out w (Below.refl _ _)
  go_wp2_with (at_builtin; refine wpList_rowsNew rfl (.tmp 22) (.tmp 25) rfl rfl (some ⟨b, off + k, none⟩) (m - k) (c2 - k) w.heap.size (vs.drop k) rfl HDL.out hd1 (Nat.le_refl _) HDO.out (by omega) ?_)
  intro v1 w1 hown1 hb1
  have hl1 := HLL.out w1 hb1
  clear hd1
  go_wp2_with (at_builtin; refine wpList_rows rfl (.tmp 26) (.tmp 27) rfl w.heap.size (m - k) (vs.drop k) v1 rfl hown1 (some ⟨b, off, none⟩) m c2 w.heap.size vs rfl HL2.out hl1 HVO.out (by omega) hb1.size ?_)
  intro v6 w3 hown6 hb13
  have hb3 : Below w.heap.size w w3 := hb1.trans hb13
  obtain ⟨A6, c6, rfl, hc61, hc62⟩ := own_slice hown6
  have hL6 := Lies.of_own hown6
  have hR6 : VecRows w3 w3.heap.size (vs.drop k ++ vs) (ls.drop k ++ ls) := ((HR.out.later hb3).drop k).append (HR.out.later hb3)
  have H6 := Lib.hid hL6
  have HR6 := Lib.hid hR6
  have hn6 : m - k + m ≤ 1000 := by omega
  obtain ⟨n6, hn6e⟩ : ∃ n6, n6 = m - k + m := ⟨_, rfl⟩
  have HN6 := Lib.hid (hn6e ▸ (own_len hown6) : (vs.drop k ++ vs).length = n6)
  rw [← hn6e] at hn6 hc61 ⊢
  clear hown1 hown6 hl1 hL6 hR6 hb1 hb13
  have ht3 := HLT.out w3 hb3
  have hsz3 := hb3.size
  clear hn6e
  go_wp2_with (at_builtin; refine wpList_rowsNew rfl (.tmp 29) (.tmp 32) rfl rfl (some ⟨b, off, none⟩) k c2 w.heap.size (vs.take k) rfl HTL.out ht3 hsz3 HTO.out (by omega) ?_)
  intro v7 w4 hown7 hb34
  have hb04 : Below w.heap.size w w4 := hb3.trans (hb34.mono hb3.size)
  obtain ⟨A7, c7, rfl, hc71, hc72⟩ := own_slice hown7
  have HMF : Hid (∀ W : World, Below w4.heap.size w4 W → Calls Try.prog 22 #[.slice A7 k c7] W (Made w4 (foldV max (ls.take k)))) := fun W hW =>
    (max_any A7 k c7 (vs.take k) (ls.take k) W (by omega) hc71 hc72 (Nat.le_trans (HLM.out _ fun l hl => List.mem_of_mem_take hl) (by omega)) HTL.out ((Lies.of_own hown7).later hW) (((HR.out.later hb04).take k).later hW)).mono fun _ _ ho => ho.made hW
  unfold Made at HMF
  have hbd : Below w4.heap.size w4 w4.drew := (Below.refl _ _).drew
  clear hown7 ht3 hsz3
  go_wp2_with fail
  refine wp_region_held_drew (S := fun W => Below w4.heap.size w4 W) (by kernel_rfl) hbd (fun hHeld => ?_)
  refine wpAnyH_takeAt (i := 0) (d := 34) (v := ?_) rfl rfl (by kernel_rfl) (by kernel_rfl) (by kernel_rfl) (fun _ _ _ h => h) (Or.inl ⟨by rfl, ?_⟩) hHeld ?_
  rotate_left
  · (intro _ hSw; go_simp; try with_reducible rfl)
  simp only [List.setIfInBounds_toArray, List.set_cons_zero, List.set_cons_succ]
  refine wpAnyH_takeAt (i := 3) (d := 37) (v := ?_) rfl rfl (by kernel_rfl) (by kernel_rfl) (by kernel_rfl) (fun _ _ _ h => h) (Or.inl ⟨by rfl, ?_⟩) hHeld ?_
  rotate_left
  · (intro _ hSw; go_simp; try with_reducible rfl)
  simp only [List.setIfInBounds_toArray, List.set_cons_zero, List.set_cons_succ]
  refine wpAnyH_takeAt (i := 4) (d := 38) (v := ?_) rfl rfl (by kernel_rfl) (by kernel_rfl) (by kernel_rfl) (fun _ _ _ h => h) (Or.inl ⟨by rfl, ?_⟩) hHeld ?_
  rotate_left
  · (intro _ hSw; go_simp; try with_reducible rfl)
  simp only [List.setIfInBounds_toArray, List.set_cons_zero, List.set_cons_succ]
  refine wpAnyH_takeAt (i := 5) (d := 39) (v := ?_) rfl rfl (by kernel_rfl) (by kernel_rfl) (by kernel_rfl) (fun _ _ _ h => h) (Or.inl ⟨by rfl, ?_⟩) hHeld ?_
  rotate_left
  · (intro _ hSw; go_simp; try with_reducible rfl)
  simp only [List.setIfInBounds_toArray, List.set_cons_zero, List.set_cons_succ]
  refine wpAnyH_ready (rs := [1]) (by kernel_rfl) (by simp) ?_
  refine AllReadyH.cons rfl (fun K hK => ?_) AllReadyH.nil
  go_simp
  refine (HMF.out _ hbd).mono ?_
  rintro e w5 ⟨AM, nM, cM, rfl, hnM, hcM, hcM2, hLM, hb45⟩
  dsimp only
  refine hK.out _ _ hb45 (fun hHeld => ?_)
  clear hK K
  refine wpAnyH_ready (rs := [2]) (by kernel_rfl) (by simp) ?_
  refine AllReadyH.cons rfl (fun K hK => ?_) AllReadyH.nil
  go_simp
  have hb46 := vec_alloc (.cells #[.slice AM nM cM] 22) hb45
  refine hK.out _ _ hb46 (fun hHeld => ?_)
  clear hK K
  refine wpAnyH_ready (rs := [6]) (by kernel_rfl) (by simp) ?_
  refine AllReadyH.cons rfl (fun K hK => ?_) AllReadyH.nil
  obtain ⟨v8, w7, hrun, hown8, hb78⟩ := run_rows (w := w5.alloc (.cells #[.slice AM nM cM] 22)) w5.heap.size 1 [.slice AM nM cM] (.slice (some ⟨w5.heap.size, 0, none⟩) 1 1) (World.ownsRow_lit w5 #[.slice AM nM cM] 1 (Nat.le_refl _) (by unfold maxLen; omega) rfl) (some ⟨b, off + k, none⟩) (m - k) (c2 - k) w.heap.size (vs.drop k) HDL.out (HLD.out _ (hb04.trans (hb46.mono hb04.size))) HDO.out (by omega) (by simp)
  refine wp_append_step (s := .tmp 36) (x := .tmp 39) (t := 30) rfl rfl rfl rfl hrun ?_
  go_simp
  have hb47 : Below w4.heap.size w4 w7 := hb45.trans (((((Below.refl _ _).alloc (Nat.le_refl _) _).trans hb78).mono hb45.size))
  refine hK.out _ _ hb47 (fun hHeld => ?_)
  clear hK K
  refine wpAnyH_takeAt (i := 7) (d := 8) (v := ?_) rfl rfl (by kernel_rfl) (by kernel_rfl) (by kernel_rfl) (fun _ _ _ h => h) (Or.inl ⟨by rfl, ?_⟩) hHeld ?_
  rotate_left
  · (intro _ hSw; go_simp; try with_reducible rfl)
  simp only [List.setIfInBounds_toArray, List.set_cons_zero, List.set_cons_succ]
  refine wpAnyH_done (by kernel_rfl) ?_ _
  clear hrun
  obtain ⟨A8, c8, rfl, hc81, hc82⟩ := own_slice hown8
  have hb57 : Below w5.heap.size w5 w7 := ((Below.refl _ _).alloc (Nat.le_refl _) _).trans hb78
  have hb07 : Below w.heap.size w w7 := hb04.trans (hb47.mono hb04.size)
  have hR8 : VecRows w7 w7.heap.size ([.slice AM nM cM] ++ vs.drop k) (foldV max (ls.take k) :: ls.drop k) := VecRows.cons ((show Vec w5 w5.heap.size (.slice AM nM cM) (foldV max (ls.take k)) from ⟨AM, nM, cM, rfl, hnM.out, hcM, hcM2, hLM⟩).later hb57) ((HR.out.later hb07).drop k)
  have hl8 : longN (foldV max (ls.take k) :: ls.drop k) ≤ 1000 := (long_le _ _).2 fun l hl => by
    rcases List.mem_cons.1 hl with rfl | hl
    · rw [foldV_length]; exact Nat.le_trans (HLM.out _ fun l hl => List.mem_of_mem_take hl) (by omega)
    · have := (long_le _ _).1 (HLM.out (ls.drop k) fun l hl => List.mem_of_mem_drop hl) l hl; omega
  have hb37 : Below w3.heap.size w3 w7 := hb34.trans (hb47.mono hb34.size)
  -- the calls, in every later world
  have J1 : Hid (∀ W : World, Below w7.heap.size w7 W → Calls Try.prog 20 #[.slice A6 n6 c6] W (OwnedV W W.heap.size (foldV min ls))) := fun W hW => by
    have hb3W := hb37.trans (hW.mono hb37.size)
    rw [← turned_min ls k HNE.out]
    exact min_any A6 n6 c6 _ _ W hn6 hc61 hc62 (Nat.le_trans (HLM.out _ fun l hl => by rcases List.mem_append.1 hl with h | h; exact List.mem_of_mem_drop h; exact h) (by omega)) HN6.out (H6.out.later hb3W) (HR6.out.later hb3W)
  have J3 : Hid (∀ W : World, Below w7.heap.size w7 W → Calls Try.prog 22 #[.slice A6 n6 c6] W (OwnedV W W.heap.size (foldV max ls))) := fun W hW => by
    have hb3W := hb37.trans (hW.mono hb37.size)
    rw [← turned_max ls k]
    exact max_any A6 n6 c6 _ _ W hn6 hc61 hc62 (Nat.le_trans (HLM.out _ fun l hl => by rcases List.mem_append.1 hl with h | h; exact List.mem_of_mem_drop h; exact h) (by omega)) HN6.out (H6.out.later hb3W) (HR6.out.later hb3W)
  have J5 : Hid (∀ W : World, Below w7.heap.size w7 W → Calls Try.prog 22 #[.slice A8 (1 + (m - k)) c8] W (OwnedV W W.heap.size (foldV max ls))) := fun W hW => by
    rw [← part_max ls k]
    exact max_any A8 (1 + (m - k)) c8 _ _ W (by omega) hc81 hc82 hl8 (own_len hown8) ((Lies.of_own hown8).later hW) (hR8.later hW)
  have EQ : Hid (∀ (W : World) (l : List Nat) (Ax : Option Addr) (nx cx : Nat) (Ay : Option Addr) (ny cy : Nat), l.length ≤ 1000 → l.length = nx → Lies W W.heap.size Ax (uvs l) → l.length = ny → Lies W W.heap.size Ay (uvs l) → Calls Try.prog 11 #[.slice Ax nx cx, .slice Ay ny cy] W fun e w' => e = .returned (.bool true) ∧ Below W.heap.size W w') := fun W l Ax nx cx Ay ny cy h0 h1 h2 h3 h4 => refEqual_same Ax nx cx l Ay ny cy W (by omega) h1 h2 h3 h4
  obtain ⟨n8, hn8⟩ : ∃ n8, n8 = 1 + (m - k) := ⟨_, rfl⟩
  rw [← hn8] at J5 ⊢
  have hbw : Hid (Below w7.heap.size w7 w7) := Below.refl _ _
  clear hown8 hb78 hb57 hR8 hl8 hb37 H6 HR6 hLM hnM hcM hcM2 hb45 hb46 hb47 hb34 hb04 HMF HLD HLT HLL HDL HTL HDO HTO HVO HL2 HR HN6 hn8 hbd
  have hw77 := hbw.out
  go_wp2_with fail
  refine (J1.out w7 hw77).mono ?_
  intro e wa1 ho
  obtain ⟨X1, x1, xc1, rfl, hx1, _, _, hLx1, hba1⟩ := ho.use
  have hA1 : Below w7.heap.size w7 wa1 := hw77.trans (hba1.mono hw77.size)
  clear ho
  go_wp2_with fail
  refine (J2.out wa1 (hb07.trans (hA1.mono hb07.size))).mono ?_
  intro e wb1 ho
  obtain ⟨Y1, y1, yc1, rfl, hy1, _, _, hLy1, hbb1⟩ := ho.use
  have hB1 : Below w7.heap.size w7 wb1 := hA1.trans (hbb1.mono hA1.size)
  have heq := EQ.out wb1 (foldV min ls) X1 x1 xc1 Y1 y1 yc1 (by rw [HSm.out]; omega) hx1.out (hLx1.later hbb1) hy1.out hLy1
  clear ho hLx1 hLy1 hba1
  go_wp2_with fail
  refine heq.mono ?_
  rintro e wc1 ⟨rfl, hbc1⟩
  have hC1 : Below w7.heap.size w7 wc1 := hB1.trans (hbc1.mono hB1.size)
  clear heq hA1 hB1 hbb1 hbc1
  go_wp2_with fail
  refine (J3.out wc1 hC1).mono ?_
  intro e wa2 ho
  obtain ⟨X2, x2, xc2, rfl, hx2, _, _, hLx2, hba2⟩ := ho.use
  have hA2 : Below w7.heap.size w7 wa2 := hC1.trans (hba2.mono hC1.size)
  clear ho
  go_wp2_with fail
  refine (J4.out wa2 (hb07.trans (hA2.mono hb07.size))).mono ?_
  intro e wb2 ho
  obtain ⟨Y2, y2, yc2, rfl, hy2, _, _, hLy2, hbb2⟩ := ho.use
  have hB2 : Below w7.heap.size w7 wb2 := hA2.trans (hbb2.mono hA2.size)
  have heq := EQ.out wb2 (foldV max ls) X2 x2 xc2 Y2 y2 yc2 (by rw [HSM.out]; omega) hx2.out (hLx2.later hbb2) hy2.out hLy2
  clear ho hLx2 hLy2 hba2
  go_wp2_with fail
  refine heq.mono ?_
  rintro e wc2 ⟨rfl, hbc2⟩
  have hC2 : Below w7.heap.size w7 wc2 := hB2.trans (hbc2.mono hB2.size)
  clear heq hA2 hB2 hbb2 hbc2
  go_wp2_with fail
  refine (J5.out wc2 hC2).mono ?_
  intro e wa3 ho
  obtain ⟨X3, x3, xc3, rfl, hx3, _, _, hLx3, hba3⟩ := ho.use
  have hA3 : Below w7.heap.size w7 wa3 := hC2.trans (hba3.mono hC2.size)
  clear ho
  go_wp2_with fail
  refine (J4.out wa3 (hb07.trans (hA3.mono hb07.size))).mono ?_
  intro e wb3 ho
  obtain ⟨Y3, y3, yc3, rfl, hy3, _, _, hLy3, hbb3⟩ := ho.use
  have hB3 : Below w7.heap.size w7 wb3 := hA3.trans (hbb3.mono hA3.size)
  have heq := EQ.out wb3 (foldV max ls) X3 x3 xc3 Y3 y3 yc3 (by rw [HSM.out]; omega) hx3.out (hLx3.later hbb3) hy3.out hLy3
  clear ho hLx3 hLy3 hba3
  go_wp2_with fail
  refine heq.mono ?_
  rintro e wc3 ⟨rfl, hbc3⟩
  have hC3 : Below w7.heap.size w7 wc3 := hB3.trans (hbc3.mono hB3.size)
  clear heq hA3 hB3 hbb3 hbc3
  have hb0c := hb07.trans (hC3.mono hb07.size)
  go_wp2_with fail
  refine (awake_any _).mono ?_
  rintro e w9 ⟨rfl, hb9⟩
  go_wp2
  go_ret
  exact ⟨rfl, hb0c.trans (hb9.mono hb0c.size)⟩

set_option maxHeartbeats 400000 in
theorem vecTurns_any (A2 : Option Addr) (m c2 y : Nat) (vs : List Value) (ls : List (List Nat)) (w : World) (hy : y < 256)
    (hl2 : vs.length = m) (hc3 : m ≤ c2) (hc4 : c2 ≤ maxLen) (h2 : Lies w w.heap.size A2 vs) (hr : VecRows w w.heap.size vs ls) :
    Calls Try.prog 6 #[.slice A2 m c2, .int .u8 (y : Int)] w fun e w' => e = .returned (.bool true) ∧ Below w.heap.size w w' := by
  by_cases hm : m ≤ 30
  · have hg := great_few A2 m c2 vs ls w hm hl2 h2 hr
    cases hls : (ls.any fun x => decide (100 < x.length)) with
    | true =>
      rw [hls] at hg
      clear hl2 h2 hr hc4 hls
      go_enter Try.func6, Try.ntmps6
      go_wp2_with (first
        | (go_at_call 17; refine hg.mono ?_; rintro e w' ⟨rfl, rfl⟩)
        | (go_at_call 9; refine (awake_any _).mono ?_; rintro e w' ⟨rfl, hb⟩))
      go_ret
      exact ⟨rfl, hb⟩
    | false =>
      by_cases hm0 : 0 < m
      · exact vecTurns_walk A2 m c2 y (y % m) vs ls w hy hm hm0 (Nat.mod_lt _ hm0) rfl hl2 hc3 hc4 h2 hr hls
      · rw [hls] at hg
        obtain rfl : m = 0 := by omega
        clear hl2 h2 hr hc4 hls
        go_enter Try.func6, Try.ntmps6
        go_wp2_with (first
          | (go_at_call 17; refine hg.mono ?_; rintro e w' ⟨rfl, rfl⟩)
          | (go_at_call 9; refine (awake_any _).mono ?_; rintro e w' ⟨rfl, hb⟩))
        go_ret
        exact ⟨rfl, hb⟩
  · have hg := great_many A2 m c2 w (by omega)
    clear hl2 h2 hr hc4
    go_enter Try.func6, Try.ntmps6
    go_wp2_with (first
      | (go_at_call 17; refine hg.mono ?_; rintro e w' ⟨rfl, rfl⟩)
      | (go_at_call 9; refine (awake_any _).mono ?_; rintro e w' ⟨rfl, hb⟩))
    go_ret
    exact ⟨rfl, hb⟩

theorem own : ownKnob Try.prog.godebug = none := by kernel_rfl
theorem laidOut : laidOutB Try.prog = true := by kernel_rfl

set_option maxRecDepth 100000 in
theorem vecTurns_lifted (os : Os) (started : os.Started) (H : Type) (enc : TypeId × Value → H) :
    ReturnsInHanded {} Try.checked os 6 .any (Rows.vecTurnsSpec.pre6 enc Try.prog Try.f6 Rows.vecTurnsRow.domain false) (Rows.vecTurnsSpec.post enc Try.prog Try.f6 false true false false) := by
  refine returnsInHanded_of_change (C := Try.checked) own started (by kernel_rfl) Try.func6
    (ChangeSpec.witness6 (enc := enc) (C := Try.checked) false ⟨#[], #[.slice none 0 0, .int .u8 0], []⟩ 8 (by kernel_rfl) (by kernel_rfl) (by kernel_rfl) (by kernel_rfl)) ?_
  intro W base args ds gs before hval0 hW _ _
  have hval : ∀ (j : Nat) t v, Try.f6.params[j]? = some t → args[j]? = some v → Value.okWide Try.prog W .any base t v := hval0
  have hW' := hW
  obtain ⟨p, q, hA0, hV, rfl, _, _⟩ := hW
  have hA : DataW.TrodAll enc Try.prog W 0 (fun _ => true) true Try.f6.params.toList args.toList ds p := hA0
  rw [Try.params6] at hA hval
  obtain ⟨v0, vs0, d0, ds0, p0, q0, hargs, rfl, rfl, h0, r0⟩ := trodAll_cons hA
  obtain ⟨v1, vs1, d1, ds1, p1, q1, rfl, rfl, rfl, h1, r1⟩ := trodAll_cons r0
  obtain ⟨rfl, rfl, rfl⟩ := trodAll_nil r1
  obtain rfl : args = #[v0, v1] := by cases args; simp_all
  obtain ⟨rfl, rfl⟩ := trodVars_none hV
  have k0 := h0
  have lt0 : ∀ x ∈ p0, x.block < W.heap.size := by obtain ⟨m, hm⟩ := k0; exact DataW.trod_lt m _ _ _ hm
  have k1 := h1
  have lt1 : ∀ x ∈ p1, x.block < W.heap.size := by obtain ⟨m, hm⟩ := k1; exact DataW.trod_lt m _ _ _ hm
  have hwalk : Calls Try.prog 6 #[v0, v1] W fun e w' => e = .returned (.bool true) ∧ Below W.heap.size W w' := by
    obtain ⟨a0, len0, cap0, rfl⟩ := okWide_slice Try.underlying30 (hval 0 30 v0 rfl rfl)
    obtain ⟨x1, rfl, _, _, wf1⟩ := open_int Try.underlying5 (hval 1 5 v1 rfl rfl) h1
    obtain ⟨fuel, hf⟩ := h0
    obtain ⟨ls, vs, A2, m, c2, hv2, hl2, hc3, hc4, hL2, hR⟩ := open_numRows Try.underlying30 (by kernel_rfl) Try.underlying22 Try.underlying23 (by kernel_rfl) (by simpa [Value.cells] using hf)
    rw [hv2]
    have b1 := bounds_u8 wf1
    obtain ⟨y, rfl⟩ : ∃ y : Nat, x1 = (y : Int) := ⟨x1.toNat, by omega⟩
    exact vecTurns_any A2 m c2 y vs ls W (by omega) hl2 hc3 hc4 hL2 hR
  clear hA0 hval0
  refine hwalk.mono fun e W' ⟨he, bel⟩ => ?_
  subst he
  exact ⟨_, rfl, _, _, _, [], _, [], hW', trodAll_mk1 (shut_bool Try.underlying4 _), (trodAll_cons_mk (Below.trod laidOut (by kernel_rfl) (of_decide_eq_true (by kernel_rfl)) k0 bel lt0) (trodAll_cons_mk (Below.trod laidOut (by kernel_rfl) (of_decide_eq_true (by kernel_rfl)) k1 bel lt1) trodAll_mk0)), rfl, bel.frame _, fun h => by cases h⟩

theorem vecTurns_proved : Rows.VecTurnsSaid :=
  OpenClaim.holds_of_wide 6 Try.f6 rfl rfl rfl rfl rfl rfl rfl ⟨rfl, rfl, rfl, rfl, rfl⟩ rfl rfl rfl rfl rfl (by kernel_rfl) Try.func6 (by kernel_rfl)
    (of_decide_eq_true (by kernel_rfl)) (by unfold Func.isWrapper; first | (rw [if_pos (by decide +kernel)]; kernel_rfl) | (rw [if_neg (by decide +kernel)]; exact ⟨rfl, rfl⟩))
    (fun os started H enc _ => vecTurns_lifted os started H enc)

end Go.Proofs.Ytjhdaddemeegmaa
