/- A link: chunks. -/
import Derived.Test.YtbkkpimhoeagdaaLkD
import Derived.Deep.QuietTactic
import Derived.BigQuiet
namespace Go.Proofs.Ytbkkpimhoeagdaa
open Go.RowKit Go.Sort
set_option maxRecDepth 20000

section
variable {w : World} {base p pw pg : Nat} {T : Value} {l : List Pf} {s : Ls} {D : Nat → Prop}

theorem waitF_all (Fs : List Fr) (f : Nat) : waitF Fs f f (Fs.length : Int) = Fs := by
  unfold waitF
  rw [Nat.sub_self, List.drop_zero, Int.toNat_natCast]
  exact List.take_of_length_le (Nat.le_refl _)
theorem waitF_from (Fs : List Fr) (f fr : Nat) : waitF Fs f fr (Fs.length : Int) = Fs.drop (fr - f) := by
  unfold waitF
  rw [Int.toNat_natCast]
  exact List.take_of_length_le (by rw [List.length_drop]; omega)

/-- The last part of chunks: all is sent. -/
theorem chunks_tail {w1 : World} {s1 : Ls} (hT : LinkB w1 base p pw pg T l s1 D) (ho : OnlyE w w1 (LD p pw pg T)) (ht : s1.tick = s.chunkS.tick) (ha : s1 = { s with tick := s1.tick }) :
    LkIn w base p pw pg T l D s.chunkS (w1.setCell ⟨p, 4, none⟩ (.int .u64 (s.last : Int))) ∧ LinkB (w1.setCell ⟨p, 4, none⟩ (.int .u64 (s.last : Int))) base p pw pg T l s.chunkS D := by
  have e : s.chunkS = { s1 with sent := s.last } := by
    rw [ha, ht]
    rfl
  have h1 : s1.last = s.last := by rw [ha]
  have hS := hT.set 4 (.int .u64 (s.last : Int)) s.chunkS (by rw [e]; rfl) (by rw [e]) (by rw [e]) (by rw [e]) (by rw [e]) (by rw [e]) (by rw [e]) (Nat.le_refl _) (by rw [← ht]; exact hT.tick1) (by rw [e]; exact hT.asked1) (by rw [e])
  exact ⟨⟨hS, ho.trans (hT.onlySet 4 _)⟩, hS⟩

set_option maxHeartbeats 1600000 in
theorem chunks_late (h : LinkB w base p pw pg T l s D) (h1 : firstN s.last s.fs.length ≤ s.sent) (h2 : (s.asked : Int) - (s.tick : Int) < (s.again : Int)) : Calls Try.prog 40 #[.pointer (some ⟨p, 0, none⟩)] w (LFrs w base p pw pg T l D s.chunkF s.chunkS) := by
  have hF := first_any h.win
  rw [h.len] at hF
  have H := Lib.hid h
  have c0 := h.c0
  have hd0 : ((some ⟨p, 0, none⟩ : Option Addr) == none) = false := rfl
  have hlow := h.win.low
  have hsl := h.sent1
  have ht1 := h.tick1
  have ha1 := h.asked1
  have hf1 : firstN s.last s.fs.length ≤ 1000001 := by unfold firstN; omega
  have HLE : Hid (s.fs.length ≤ 64) := by show _ ≤ _; have := h.win.fit; have := h.win.wid2; rw [h.len] at *; omega
  have d1 : decide (firstN s.last s.fs.length ≤ s.sent) = true := by simpa using h1
  have d2 : decide ((s.asked : Int) - (s.tick : Int) < (s.again : Int)) = true := by simpa using h2
  have e0 : s.late = true := by unfold Ls.late; rw [d1, d2]; rfl
  have HE : Hid (s.chunkF = s.fs.drop (s.sent + 1 - firstN s.last s.fs.length)) := by show _ = _; unfold Ls.chunkF; rw [if_pos e0]
  have HT : Hid (s.tick = s.chunkS.tick) := by show _ = _; unfold Ls.chunkS; rw [if_pos e0]
  clear h2
  clear h e0
  generalize hf : firstN s.last s.fs.length = f at hF d1 HE hf1 h1
  have HFN := Lib.hid hf
  clear hf
  go_enter Try.func40, Try.ntmps40
  go_wp2_with fail
  refine hF.mono ?_
  rintro e w1 ⟨rfl, hb1⟩
  have HL1 := Lib.hid (H.out.on hb1)
  have HB1 := Lib.hid hb1
  clear c0 hb1 hF
  have c0 := HL1.out.c0
  have c4 := HL1.out.c4
  have c5 := HL1.out.c5
  have c6 := HL1.out.c6
  have c7 := HL1.out.c7
  go_upto_region 2 with fail
  go_quiet (fail)
  clear c0 c4 c5 c6 c7
  have hbq : RowKit.Below w1.heap.size w1 (w1.drewN nq) := ⟨rfl, rfl, rfl, Nat.le_refl _, fun _ _ => rfl⟩
  have HL2 := Lib.hid (HL1.out.on hbq)
  have HB2 : Hid (RowKit.Below w.heap.size w (w1.drewN nq)) := HB1.out.trans (hbq.mono HB1.out.size)
  generalize w1.drewN nq = w2 at HL2 HB2 ⊢
  clear hbq HL1
  have c0 := HL2.out.c0
  have c4 := HL2.out.c4
  have c5 := HL2.out.c5
  have c6 := HL2.out.c6
  have f4 := HL2.out.fr 4
  have hp := HL2.out.plt
  go_upto_region 5 with fail
  have HLX := HL2
  have HX : Hid (OnlyE w w2 (LD p pw pg T)) := OnlyE.of_below HB2.out
  generalize hV : w2 = V at HLX HX ⊢
  clear hV c0 c4 c5 c6 f4 hp
  have c0 := HLX.out.c0
  have c4 := HLX.out.c4
  have f4 := HLX.out.fr 4
  have hLa := last_any HLX.out.win
  go_wp2_with fail
  refine hLa.mono ?_
  rintro e w3 ⟨rfl, rfl⟩
  clear hLa
  obtain ⟨hTo, hS⟩ := chunks_tail (s := s) HLX.out HX.out HT.out rfl
  have HTO := Lib.hid hTo
  have HS := Lib.hid hS
  clear hTo hS
  go_upto_region 6 with fail
  generalize hU : w3.setCell ⟨p, 4, none⟩ (.int .u64 (s.last : Int)) = U at HTO HS ⊢
  clear hU c0 c4 f4
  have c0 := HS.out.c0
  have HW9 : Hid (∀ W, RowKit.Below U.heap.size U W → Calls Try.prog 22 #[.pointer (some ⟨p, 0, none⟩)] W fun e w' => e = .returned (.int .i64 (s.fs.length : Int)) ∧ w' = W) := fun W hW => lwaits_any (s := s.chunkS) (HS.out.on hW)
  have HG9 : Hid (∀ W, RowKit.Below U.heap.size U W → Calls Try.prog 51 #[.pointer (some ⟨pw, 0, none⟩), .int .u64 ((s.sent : Int) + 1), .int .i64 (s.fs.length : Int)] W (Waited W s.chunkF)) := fun W hW => by
    have h1 := waiting_all (HS.out.on hW).win (s.sent + 1) (s.fs.length : Int) (by omega) (by have := HLE.out; omega)
    rw [HS.out.fs, HS.out.len] at h1
    rw [show firstN s.chunkS.last s.chunkS.fs.length = f from HFN.out] at h1
    rw [show s.chunkS.fs = s.fs from rfl, waitF_from, ← HE.out] at h1
    exact h1
  have hpU := HS.out.plt
  have y0 : ∀ V, RowKit.Below U.heap.size U V → V.cell? ⟨p, 0, none⟩ = some (.pointer (some ⟨pw, 0, none⟩)) := fun V hV => (hV.cell (p := ⟨p, 0, none⟩) hpU).trans c0
  have hHD : RowKit.Below U.heap.size U U.drew := (RowKit.Below.refl _ _).drew
  refine wp_region_held_drew (S := fun V => RowKit.Below U.heap.size U V) (by kernel_rfl) hHD (fun hHeld => ?_)
  clear hHD
  have hHeld : RowKit.Below U.heap.size U U.drew := (RowKit.Below.refl _ _).drew
  generalize U.drew = X0 at hHeld ⊢
  refine wpAnyH_takeAt (i := 0) (d := 51) (v := ?_) rfl rfl (by kernel_rfl) (by kernel_rfl) (by kernel_rfl) (fun _ _ _ h => h) (Or.inl ⟨by rfl, ?_⟩) hHeld ?_
  rotate_left
  · (intro _ hSw; go_simp; try with_reducible rfl)
  simp only [List.setIfInBounds_toArray, List.set_cons_zero, List.set_cons_succ]
  refine wpAnyH_takeAt (i := 1) (d := 52) (v := ?_) rfl rfl (by kernel_rfl) (by kernel_rfl) (by kernel_rfl) (fun _ _ _ h => h) (Or.inl ⟨by rfl, ?_⟩) hHeld ?_
  rotate_left
  · (intro _ hSw; go_simp; try with_reducible rfl)
  simp only [List.setIfInBounds_toArray, List.set_cons_zero, List.set_cons_succ]
  refine wpAnyH_takeAt (i := 2) (d := 53) (v := ?_) rfl rfl (by kernel_rfl) (by kernel_rfl) (by kernel_rfl) (fun _ _ _ h => h) (Or.inl ⟨by rfl, ?_⟩) hHeld ?_
  rotate_left
  · (intro _ hSw; go_simp; try with_reducible rfl)
  simp only [List.setIfInBounds_toArray, List.set_cons_zero, List.set_cons_succ]
  refine wpAnyH_takeAt (i := 3) (d := 54) (v := ?_) rfl rfl (by kernel_rfl) (by kernel_rfl) (by kernel_rfl) (fun _ _ _ h => h) (Or.inl ⟨by rfl, ?_⟩) hHeld ?_
  rotate_left
  · (intro _ hSw; have y1 := y0 _ hSw; go_simp; try with_reducible rfl)
  simp only [List.setIfInBounds_toArray, List.set_cons_zero, List.set_cons_succ]
  refine wpAnyH_takeAt (i := 4) (d := 55) (v := ?_) rfl rfl (by kernel_rfl) (by kernel_rfl) (by kernel_rfl) (fun _ _ _ h => h) (Or.inl ⟨by rfl, ?_⟩) hHeld ?_
  rotate_left
  · (intro _ hSw; go_simp; try with_reducible rfl)
  simp only [List.setIfInBounds_toArray, List.set_cons_zero, List.set_cons_succ]
  refine wpAnyH_takeAt (i := 5) (d := 56) (v := ?_) rfl rfl (by kernel_rfl) (by kernel_rfl) (by kernel_rfl) (fun _ _ _ h => h) (Or.inl ⟨by rfl, ?_⟩) hHeld ?_
  rotate_left
  · (intro _ hSw; go_simp; try with_reducible rfl)
  simp only [List.setIfInBounds_toArray, List.set_cons_zero, List.set_cons_succ]
  refine wpAnyH_ready (rs := [6]) (by kernel_rfl) (by simp) ?_
  refine AllReadyH.cons rfl (fun K hK => ?_) AllReadyH.nil
  go_simp
  refine (HW9.out _ hHeld).mono ?_
  rintro e V' ⟨rfl, he⟩
  subst he
  refine hK.out _ _ hHeld (fun _ => ?_)
  clear hK K
  refine wpAnyH_ready (rs := [7]) (by kernel_rfl) (by simp) ?_
  refine AllReadyH.cons rfl (fun K hK => ?_) AllReadyH.nil
  go_simp
  refine (HG9.out _ hHeld).mono ?_
  rintro e w8 ⟨A, n, c, rfl, hn, ho, hb⟩
  have hHeld2 : RowKit.Below U.heap.size U w8 := hHeld.trans (hb.mono hHeld.size)
  have HO := Lib.hid ho
  have HXS : Hid (U.heap.size ≤ _) := hHeld.size
  have HB := Lib.hid hHeld2
  refine hK.out _ _ hHeld2 (fun _ => ?_)
  clear hK K ho hb hHeld
  have hHeld := hHeld2
  refine wpAnyH_takeAt (i := 8) (d := 2) (v := ?_) rfl rfl (by kernel_rfl) (by kernel_rfl) (by kernel_rfl) (fun _ _ _ h => h) (Or.inl ⟨by rfl, ?_⟩) hHeld ?_
  rotate_left
  · (intro _ hSw; go_simp; try with_reducible rfl)
  simp only [List.setIfInBounds_toArray, List.set_cons_zero, List.set_cons_succ]
  refine wpAnyH_done (by kernel_rfl) ?_ _
  go_wp2
  go_ret
  have hs := HTO.out
  refine ⟨_, _, _, rfl, hn, ?_, hs.trans (LkIn.refl HS.out HB.out)⟩
  obtain ⟨ys, y1, y2, y3⟩ := HO.out
  have hle : w.heap.size ≤ _ := Nat.le_trans hs.2.size HXS.out
  exact ⟨ys, y1, own_base y2 hle, fun y hy => (y3 y hy).base hle⟩

set_option maxHeartbeats 1600000 in
theorem chunks_again (h : LinkB w base p pw pg T l s D) (h1 : firstN s.last s.fs.length ≤ s.sent) (h2 : ¬ (s.asked : Int) - (s.tick : Int) < (s.again : Int)) : Calls Try.prog 40 #[.pointer (some ⟨p, 0, none⟩)] w (LFrs w base p pw pg T l D s.chunkF s.chunkS) := by
  have hF := first_any h.win
  rw [h.len] at hF
  have H := Lib.hid h
  have c0 := h.c0
  have hd0 : ((some ⟨p, 0, none⟩ : Option Addr) == none) = false := rfl
  have hlow := h.win.low
  have hsl := h.sent1
  have ht1 := h.tick1
  have ha1 := h.asked1
  have hf1 : firstN s.last s.fs.length ≤ 1000001 := by unfold firstN; omega
  have HLE : Hid (s.fs.length ≤ 64) := by show _ ≤ _; have := h.win.fit; have := h.win.wid2; rw [h.len] at *; omega
  have d1 : decide (firstN s.last s.fs.length ≤ s.sent) = true := by simpa using h1
  have d2 : decide ((s.asked : Int) - (s.tick : Int) < (s.again : Int)) = false := by simpa using h2
  have e0 : s.late = false := by unfold Ls.late; rw [d1, d2]; rfl
  have HE : Hid (s.chunkF = s.fs) := by show _ = _; unfold Ls.chunkF; rw [e0]; rfl
  have HT : Hid (s.asked = s.chunkS.tick) := by show _ = _; unfold Ls.chunkS; rw [e0]; rfl
  clear h2
  clear h e0
  generalize hf : firstN s.last s.fs.length = f at hF d1 hf1 h1
  have HFN := Lib.hid hf
  clear hf
  go_enter Try.func40, Try.ntmps40
  go_wp2_with fail
  refine hF.mono ?_
  rintro e w1 ⟨rfl, hb1⟩
  have HL1 := Lib.hid (H.out.on hb1)
  have HB1 := Lib.hid hb1
  clear c0 hb1 hF
  have c0 := HL1.out.c0
  have c4 := HL1.out.c4
  have c5 := HL1.out.c5
  have c6 := HL1.out.c6
  have c7 := HL1.out.c7
  go_upto_region 2 with fail
  go_quiet (fail)
  clear c0 c4 c5 c6 c7
  have hbq : RowKit.Below w1.heap.size w1 (w1.drewN nq) := ⟨rfl, rfl, rfl, Nat.le_refl _, fun _ _ => rfl⟩
  have HL2 := Lib.hid (HL1.out.on hbq)
  have HB2 : Hid (RowKit.Below w.heap.size w (w1.drewN nq)) := HB1.out.trans (hbq.mono HB1.out.size)
  generalize w1.drewN nq = w2 at HL2 HB2 ⊢
  clear hbq HL1
  have c0 := HL2.out.c0
  have c4 := HL2.out.c4
  have c5 := HL2.out.c5
  have c6 := HL2.out.c6
  have f4 := HL2.out.fr 4
  have HS5 : Hid (LinkB (w2.setCell ⟨p, 5, none⟩ (.int .i64 (s.asked : Int))) base p pw pg T l { s with tick := s.asked } D) := HL2.out.set 5 (.int .i64 (s.asked : Int)) { s with tick := s.asked } rfl rfl rfl rfl rfl rfl rfl HL2.out.sent1 HL2.out.asked1 HL2.out.asked1 rfl
  have HO5 : Hid (OnlyE w (w2.setCell ⟨p, 5, none⟩ (.int .i64 (s.asked : Int))) (LD p pw pg T)) := (OnlyE.of_below HB2.out).trans (HL2.out.onlySet 5 _)
  have f5 := HL2.out.fr 5
  have hp := HL2.out.plt
  go_upto_region 5 with fail
  generalize hV : w2.setCell ⟨p, 5, none⟩ (.int .i64 (s.asked : Int)) = V at HS5 HO5 ⊢
  clear hV c0 c4 c5 c6 f4 f5 hp
  have HLX := HS5
  have HX := HO5
  have c0 := HLX.out.c0
  have c4 := HLX.out.c4
  have f4 := HLX.out.fr 4
  have hLa := last_any HLX.out.win
  go_wp2_with fail
  refine hLa.mono ?_
  rintro e w3 ⟨rfl, rfl⟩
  clear hLa
  obtain ⟨hTo, hS⟩ := chunks_tail (s := s) HLX.out HX.out HT.out rfl
  have HTO := Lib.hid hTo
  have HS := Lib.hid hS
  clear hTo hS
  go_upto_region 6 with fail
  generalize hU : w3.setCell ⟨p, 4, none⟩ (.int .u64 (s.last : Int)) = U at HTO HS ⊢
  clear hU c0 c4 f4
  have c0 := HS.out.c0
  have HW9 : Hid (∀ W, RowKit.Below U.heap.size U W → Calls Try.prog 22 #[.pointer (some ⟨p, 0, none⟩)] W fun e w' => e = .returned (.int .i64 (s.fs.length : Int)) ∧ w' = W) := fun W hW => lwaits_any (s := s.chunkS) (HS.out.on hW)
  have HG9 : Hid (∀ W, RowKit.Below U.heap.size U W → Calls Try.prog 51 #[.pointer (some ⟨pw, 0, none⟩), .int .u64 (f : Int), .int .i64 (s.fs.length : Int)] W (Waited W s.chunkF)) := fun W hW => by
    have h1 := waiting_all (HS.out.on hW).win (f) (s.fs.length : Int) (by omega) (by have := HLE.out; omega)
    rw [HS.out.fs, HS.out.len] at h1
    rw [show firstN s.chunkS.last s.chunkS.fs.length = f from HFN.out] at h1
    rw [show s.chunkS.fs = s.fs from rfl, show waitF s.fs f f (s.fs.length : Int) = s.chunkF from (waitF_all _ _).trans HE.out.symm] at h1
    exact h1
  have hpU := HS.out.plt
  have y0 : ∀ V, RowKit.Below U.heap.size U V → V.cell? ⟨p, 0, none⟩ = some (.pointer (some ⟨pw, 0, none⟩)) := fun V hV => (hV.cell (p := ⟨p, 0, none⟩) hpU).trans c0
  have hHD : RowKit.Below U.heap.size U U.drew := (RowKit.Below.refl _ _).drew
  refine wp_region_held_drew (S := fun V => RowKit.Below U.heap.size U V) (by kernel_rfl) hHD (fun hHeld => ?_)
  clear hHD
  have hHeld : RowKit.Below U.heap.size U U.drew := (RowKit.Below.refl _ _).drew
  generalize U.drew = X0 at hHeld ⊢
  refine wpAnyH_takeAt (i := 0) (d := 51) (v := ?_) rfl rfl (by kernel_rfl) (by kernel_rfl) (by kernel_rfl) (fun _ _ _ h => h) (Or.inl ⟨by rfl, ?_⟩) hHeld ?_
  rotate_left
  · (intro _ hSw; go_simp; try with_reducible rfl)
  simp only [List.setIfInBounds_toArray, List.set_cons_zero, List.set_cons_succ]
  refine wpAnyH_takeAt (i := 1) (d := 52) (v := ?_) rfl rfl (by kernel_rfl) (by kernel_rfl) (by kernel_rfl) (fun _ _ _ h => h) (Or.inl ⟨by rfl, ?_⟩) hHeld ?_
  rotate_left
  · (intro _ hSw; go_simp; try with_reducible rfl)
  simp only [List.setIfInBounds_toArray, List.set_cons_zero, List.set_cons_succ]
  refine wpAnyH_takeAt (i := 2) (d := 53) (v := ?_) rfl rfl (by kernel_rfl) (by kernel_rfl) (by kernel_rfl) (fun _ _ _ h => h) (Or.inl ⟨by rfl, ?_⟩) hHeld ?_
  rotate_left
  · (intro _ hSw; go_simp; try with_reducible rfl)
  simp only [List.setIfInBounds_toArray, List.set_cons_zero, List.set_cons_succ]
  refine wpAnyH_takeAt (i := 3) (d := 54) (v := ?_) rfl rfl (by kernel_rfl) (by kernel_rfl) (by kernel_rfl) (fun _ _ _ h => h) (Or.inl ⟨by rfl, ?_⟩) hHeld ?_
  rotate_left
  · (intro _ hSw; have y1 := y0 _ hSw; go_simp; try with_reducible rfl)
  simp only [List.setIfInBounds_toArray, List.set_cons_zero, List.set_cons_succ]
  refine wpAnyH_takeAt (i := 4) (d := 55) (v := ?_) rfl rfl (by kernel_rfl) (by kernel_rfl) (by kernel_rfl) (fun _ _ _ h => h) (Or.inl ⟨by rfl, ?_⟩) hHeld ?_
  rotate_left
  · (intro _ hSw; go_simp; try with_reducible rfl)
  simp only [List.setIfInBounds_toArray, List.set_cons_zero, List.set_cons_succ]
  refine wpAnyH_takeAt (i := 5) (d := 56) (v := ?_) rfl rfl (by kernel_rfl) (by kernel_rfl) (by kernel_rfl) (fun _ _ _ h => h) (Or.inl ⟨by rfl, ?_⟩) hHeld ?_
  rotate_left
  · (intro _ hSw; go_simp; try with_reducible rfl)
  simp only [List.setIfInBounds_toArray, List.set_cons_zero, List.set_cons_succ]
  refine wpAnyH_ready (rs := [6]) (by kernel_rfl) (by simp) ?_
  refine AllReadyH.cons rfl (fun K hK => ?_) AllReadyH.nil
  go_simp
  refine (HW9.out _ hHeld).mono ?_
  rintro e V' ⟨rfl, he⟩
  subst he
  refine hK.out _ _ hHeld (fun _ => ?_)
  clear hK K
  refine wpAnyH_ready (rs := [7]) (by kernel_rfl) (by simp) ?_
  refine AllReadyH.cons rfl (fun K hK => ?_) AllReadyH.nil
  go_simp
  refine (HG9.out _ hHeld).mono ?_
  rintro e w8 ⟨A, n, c, rfl, hn, ho, hb⟩
  have hHeld2 : RowKit.Below U.heap.size U w8 := hHeld.trans (hb.mono hHeld.size)
  have HO := Lib.hid ho
  have HXS : Hid (U.heap.size ≤ _) := hHeld.size
  have HB := Lib.hid hHeld2
  refine hK.out _ _ hHeld2 (fun _ => ?_)
  clear hK K ho hb hHeld
  have hHeld := hHeld2
  refine wpAnyH_takeAt (i := 8) (d := 2) (v := ?_) rfl rfl (by kernel_rfl) (by kernel_rfl) (by kernel_rfl) (fun _ _ _ h => h) (Or.inl ⟨by rfl, ?_⟩) hHeld ?_
  rotate_left
  · (intro _ hSw; go_simp; try with_reducible rfl)
  simp only [List.setIfInBounds_toArray, List.set_cons_zero, List.set_cons_succ]
  refine wpAnyH_done (by kernel_rfl) ?_ _
  go_wp2
  go_ret
  have hs := HTO.out
  refine ⟨_, _, _, rfl, hn, ?_, hs.trans (LkIn.refl HS.out HB.out)⟩
  obtain ⟨ys, y1, y2, y3⟩ := HO.out
  have hle : w.heap.size ≤ _ := Nat.le_trans hs.2.size HXS.out
  exact ⟨ys, y1, own_base y2 hle, fun y hy => (y3 y hy).base hle⟩

set_option maxHeartbeats 1600000 in
theorem chunks_fresh (h : LinkB w base p pw pg T l s D) (h1 : ¬ firstN s.last s.fs.length ≤ s.sent) : Calls Try.prog 40 #[.pointer (some ⟨p, 0, none⟩)] w (LFrs w base p pw pg T l D s.chunkF s.chunkS) := by
  have hF := first_any h.win
  rw [h.len] at hF
  have H := Lib.hid h
  have c0 := h.c0
  have hd0 : ((some ⟨p, 0, none⟩ : Option Addr) == none) = false := rfl
  have hlow := h.win.low
  have hsl := h.sent1
  have ht1 := h.tick1
  have ha1 := h.asked1
  have hf1 : firstN s.last s.fs.length ≤ 1000001 := by unfold firstN; omega
  have HLE : Hid (s.fs.length ≤ 64) := by show _ ≤ _; have := h.win.fit; have := h.win.wid2; rw [h.len] at *; omega
  have d1 : decide (firstN s.last s.fs.length ≤ s.sent) = false := by simpa using h1
  have e0 : s.late = false := by unfold Ls.late; rw [d1]; rfl
  have HE : Hid (s.chunkF = s.fs) := by show _ = _; unfold Ls.chunkF; rw [e0]; rfl
  have HT : Hid (s.asked = s.chunkS.tick) := by show _ = _; unfold Ls.chunkS; rw [e0]; rfl
  clear h e0
  generalize hf : firstN s.last s.fs.length = f at hF d1 hf1 h1
  have HFN := Lib.hid hf
  clear hf
  go_enter Try.func40, Try.ntmps40
  go_wp2_with fail
  refine hF.mono ?_
  rintro e w1 ⟨rfl, hb1⟩
  have HL1 := Lib.hid (H.out.on hb1)
  have HB1 := Lib.hid hb1
  clear c0 hb1 hF
  have c0 := HL1.out.c0
  have c4 := HL1.out.c4
  have c5 := HL1.out.c5
  have c6 := HL1.out.c6
  have c7 := HL1.out.c7
  go_upto_region 2 with fail
  go_quiet (fail)
  clear c0 c4 c5 c6 c7
  have hbq : RowKit.Below w1.heap.size w1 (w1.drewN nq) := ⟨rfl, rfl, rfl, Nat.le_refl _, fun _ _ => rfl⟩
  have HL2 := Lib.hid (HL1.out.on hbq)
  have HB2 : Hid (RowKit.Below w.heap.size w (w1.drewN nq)) := HB1.out.trans (hbq.mono HB1.out.size)
  generalize w1.drewN nq = w2 at HL2 HB2 ⊢
  clear hbq HL1
  have c0 := HL2.out.c0
  have c4 := HL2.out.c4
  have c5 := HL2.out.c5
  have c6 := HL2.out.c6
  have f4 := HL2.out.fr 4
  have HS5 : Hid (LinkB (w2.setCell ⟨p, 5, none⟩ (.int .i64 (s.asked : Int))) base p pw pg T l { s with tick := s.asked } D) := HL2.out.set 5 (.int .i64 (s.asked : Int)) { s with tick := s.asked } rfl rfl rfl rfl rfl rfl rfl HL2.out.sent1 HL2.out.asked1 HL2.out.asked1 rfl
  have HO5 : Hid (OnlyE w (w2.setCell ⟨p, 5, none⟩ (.int .i64 (s.asked : Int))) (LD p pw pg T)) := (OnlyE.of_below HB2.out).trans (HL2.out.onlySet 5 _)
  have f5 := HL2.out.fr 5
  have hp := HL2.out.plt
  go_upto_region 5 with fail
  generalize hV : w2.setCell ⟨p, 5, none⟩ (.int .i64 (s.asked : Int)) = V at HS5 HO5 ⊢
  clear hV c0 c4 c5 c6 f4 f5 hp
  have HLX := HS5
  have HX := HO5
  have c0 := HLX.out.c0
  have c4 := HLX.out.c4
  have f4 := HLX.out.fr 4
  have hLa := last_any HLX.out.win
  go_wp2_with fail
  refine hLa.mono ?_
  rintro e w3 ⟨rfl, rfl⟩
  clear hLa
  obtain ⟨hTo, hS⟩ := chunks_tail (s := s) HLX.out HX.out HT.out rfl
  have HTO := Lib.hid hTo
  have HS := Lib.hid hS
  clear hTo hS
  go_upto_region 6 with fail
  generalize hU : w3.setCell ⟨p, 4, none⟩ (.int .u64 (s.last : Int)) = U at HTO HS ⊢
  clear hU c0 c4 f4
  have c0 := HS.out.c0
  have HW9 : Hid (∀ W, RowKit.Below U.heap.size U W → Calls Try.prog 22 #[.pointer (some ⟨p, 0, none⟩)] W fun e w' => e = .returned (.int .i64 (s.fs.length : Int)) ∧ w' = W) := fun W hW => lwaits_any (s := s.chunkS) (HS.out.on hW)
  have HG9 : Hid (∀ W, RowKit.Below U.heap.size U W → Calls Try.prog 51 #[.pointer (some ⟨pw, 0, none⟩), .int .u64 (f : Int), .int .i64 (s.fs.length : Int)] W (Waited W s.chunkF)) := fun W hW => by
    have h1 := waiting_all (HS.out.on hW).win (f) (s.fs.length : Int) (by omega) (by have := HLE.out; omega)
    rw [HS.out.fs, HS.out.len] at h1
    rw [show firstN s.chunkS.last s.chunkS.fs.length = f from HFN.out] at h1
    rw [show s.chunkS.fs = s.fs from rfl, show waitF s.fs f f (s.fs.length : Int) = s.chunkF from (waitF_all _ _).trans HE.out.symm] at h1
    exact h1
  have hpU := HS.out.plt
  have y0 : ∀ V, RowKit.Below U.heap.size U V → V.cell? ⟨p, 0, none⟩ = some (.pointer (some ⟨pw, 0, none⟩)) := fun V hV => (hV.cell (p := ⟨p, 0, none⟩) hpU).trans c0
  have hHD : RowKit.Below U.heap.size U U.drew := (RowKit.Below.refl _ _).drew
  refine wp_region_held_drew (S := fun V => RowKit.Below U.heap.size U V) (by kernel_rfl) hHD (fun hHeld => ?_)
  clear hHD
  have hHeld : RowKit.Below U.heap.size U U.drew := (RowKit.Below.refl _ _).drew
  generalize U.drew = X0 at hHeld ⊢
  refine wpAnyH_takeAt (i := 0) (d := 51) (v := ?_) rfl rfl (by kernel_rfl) (by kernel_rfl) (by kernel_rfl) (fun _ _ _ h => h) (Or.inl ⟨by rfl, ?_⟩) hHeld ?_
  rotate_left
  · (intro _ hSw; go_simp; try with_reducible rfl)
  simp only [List.setIfInBounds_toArray, List.set_cons_zero, List.set_cons_succ]
  refine wpAnyH_takeAt (i := 1) (d := 52) (v := ?_) rfl rfl (by kernel_rfl) (by kernel_rfl) (by kernel_rfl) (fun _ _ _ h => h) (Or.inl ⟨by rfl, ?_⟩) hHeld ?_
  rotate_left
  · (intro _ hSw; go_simp; try with_reducible rfl)
  simp only [List.setIfInBounds_toArray, List.set_cons_zero, List.set_cons_succ]
  refine wpAnyH_takeAt (i := 2) (d := 53) (v := ?_) rfl rfl (by kernel_rfl) (by kernel_rfl) (by kernel_rfl) (fun _ _ _ h => h) (Or.inl ⟨by rfl, ?_⟩) hHeld ?_
  rotate_left
  · (intro _ hSw; go_simp; try with_reducible rfl)
  simp only [List.setIfInBounds_toArray, List.set_cons_zero, List.set_cons_succ]
  refine wpAnyH_takeAt (i := 3) (d := 54) (v := ?_) rfl rfl (by kernel_rfl) (by kernel_rfl) (by kernel_rfl) (fun _ _ _ h => h) (Or.inl ⟨by rfl, ?_⟩) hHeld ?_
  rotate_left
  · (intro _ hSw; have y1 := y0 _ hSw; go_simp; try with_reducible rfl)
  simp only [List.setIfInBounds_toArray, List.set_cons_zero, List.set_cons_succ]
  refine wpAnyH_takeAt (i := 4) (d := 55) (v := ?_) rfl rfl (by kernel_rfl) (by kernel_rfl) (by kernel_rfl) (fun _ _ _ h => h) (Or.inl ⟨by rfl, ?_⟩) hHeld ?_
  rotate_left
  · (intro _ hSw; go_simp; try with_reducible rfl)
  simp only [List.setIfInBounds_toArray, List.set_cons_zero, List.set_cons_succ]
  refine wpAnyH_takeAt (i := 5) (d := 56) (v := ?_) rfl rfl (by kernel_rfl) (by kernel_rfl) (by kernel_rfl) (fun _ _ _ h => h) (Or.inl ⟨by rfl, ?_⟩) hHeld ?_
  rotate_left
  · (intro _ hSw; go_simp; try with_reducible rfl)
  simp only [List.setIfInBounds_toArray, List.set_cons_zero, List.set_cons_succ]
  refine wpAnyH_ready (rs := [6]) (by kernel_rfl) (by simp) ?_
  refine AllReadyH.cons rfl (fun K hK => ?_) AllReadyH.nil
  go_simp
  refine (HW9.out _ hHeld).mono ?_
  rintro e V' ⟨rfl, he⟩
  subst he
  refine hK.out _ _ hHeld (fun _ => ?_)
  clear hK K
  refine wpAnyH_ready (rs := [7]) (by kernel_rfl) (by simp) ?_
  refine AllReadyH.cons rfl (fun K hK => ?_) AllReadyH.nil
  go_simp
  refine (HG9.out _ hHeld).mono ?_
  rintro e w8 ⟨A, n, c, rfl, hn, ho, hb⟩
  have hHeld2 : RowKit.Below U.heap.size U w8 := hHeld.trans (hb.mono hHeld.size)
  have HO := Lib.hid ho
  have HXS : Hid (U.heap.size ≤ _) := hHeld.size
  have HB := Lib.hid hHeld2
  refine hK.out _ _ hHeld2 (fun _ => ?_)
  clear hK K ho hb hHeld
  have hHeld := hHeld2
  refine wpAnyH_takeAt (i := 8) (d := 2) (v := ?_) rfl rfl (by kernel_rfl) (by kernel_rfl) (by kernel_rfl) (fun _ _ _ h => h) (Or.inl ⟨by rfl, ?_⟩) hHeld ?_
  rotate_left
  · (intro _ hSw; go_simp; try with_reducible rfl)
  simp only [List.setIfInBounds_toArray, List.set_cons_zero, List.set_cons_succ]
  refine wpAnyH_done (by kernel_rfl) ?_ _
  go_wp2
  go_ret
  have hs := HTO.out
  refine ⟨_, _, _, rfl, hn, ?_, hs.trans (LkIn.refl HS.out HB.out)⟩
  obtain ⟨ys, y1, y2, y3⟩ := HO.out
  have hle : w.heap.size ≤ _ := Nat.le_trans hs.2.size HXS.out
  exact ⟨ys, y1, own_base y2 hle, fun y hy => (y3 y hy).base hle⟩

theorem chunks_any (h : LinkB w base p pw pg T l s D) : Calls Try.prog 40 #[.pointer (some ⟨p, 0, none⟩)] w (LFrs w base p pw pg T l D s.chunkF s.chunkS) := by
  by_cases h1 : firstN s.last s.fs.length ≤ s.sent
  · by_cases h2 : (s.asked : Int) - (s.tick : Int) < (s.again : Int)
    · exact chunks_late h h1 h2
    · exact chunks_again h h1 h2
  · exact chunks_fresh h h1
end

end Go.Proofs.Ytbkkpimhoeagdaa
