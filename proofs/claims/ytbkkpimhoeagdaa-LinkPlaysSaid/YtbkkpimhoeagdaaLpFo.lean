/- The document's link as a value: Out, where word is owed. -/
import Derived.Test.YtbkkpimhoeagdaaLpF
namespace Go.Proofs.Ytbkkpimhoeagdaa
open Go.RowKit Go.Sort
set_option maxRecDepth 20000

section
variable (s : Ls) (dt : Nat) (A : Option Addr) (n c : Nat) (B : Option Addr) (m e : Nat) (lm : List Pf) (ks : List Nat) (now : Int) (w : World)
set_option maxHeartbeats 12800000 in
theorem refLOut_owes (hl : lm.length = n) (hnc : n ≤ c) (hcm : c ≤ maxLen) (hm : ks.length = m) (hg : s.g.b = true) (hA : Lies w w.heap.size A (flat encPf lm)) (hsq : ∀ i (h : i < lm.length), lm[i].F.seq = firstN s.last n + i) (hfs : s.fs.length = n) (hn : n ≤ 64) (hnl : n ≤ s.last) (hlast : s.last ≤ 1000000) (hsent : s.sent ≤ s.last) (hdt : dt ≤ 1099511627776) (hag : s.again ≤ 1099511627776) :
    Calls Try.prog 18 #[.agg (dlCells s dt A n c B m e), .int .i64 now] w (DOut w A lm B ks (s.outS now) (dtN (s.ask now) dt) ([ackP s] ++ (if resend (s.ask now) dt then lm else lm.drop (sentN s)))) := by
  have HL := Lib.hid hl
  have HM := Lib.hid hm
  have HC := Lib.hid (And.intro hnc hcm)
  have HA := Lib.hid hA
  have HSQ := Lib.hid hsq
  have hmx : max 0 (min now 1099511627776) = (tickN now : Int) := by unfold tickN; omega
  have ht0 : tickN now ≤ 1099511627776 := by unfold tickN; omega
  have hsl : s.sent ≤ 1000000 := by omega
  have hdt0 := hdt
  generalize hk : sentN s = k
  have HKS : Hid (sentN (s.ask now) = k) := hk
  have HKS2 := Lib.hid hk
  have HK : Hid (firstN s.last n + k = max (firstN s.last n) (s.sent + 1)) := by show _ = _; rw [← hk]; unfold sentN; rw [hfs]; omega
  have HKN : Hid (k ≤ n) := by show _ ≤ _; rw [← hk]; unfold sentN firstN; rw [hfs]; omega
  have hkn : k ≤ n := HKN.out
  have HFS : Hid ((s.ask now).fs.length = n) := hfs
  generalize ht : tickN now = t at hmx ht0
  have HT : Hid ((s.ask now).asked = t) := ht
  have HG := Lib.hid hg
  clear hl hnc hcm hm hA hsq hfs hg hk ht
  generalize hzz : (if resend (s.ask now) dt = true then lm else lm.drop k) = zz
  have HZZ := Lib.hid hzz
  clear hzz
  go_enter Try.func18, Try.ntmps18
  go_wp2_with fail
  generalize hW0 : World.alloc (World.alloc w _) _ = W0
  have H0 : Hid (OBx w (dlCells s dt A n c B m e) dlZero W0) := OBx.start hW0
  clear hW0
  refine (refIn_any now 0 1099511627776 W0 (by decide)).mono ?_
  rintro en w1 ⟨rfl, rfl⟩
  rw [hmx]
  have b11 : w1.cell? ⟨w.heap.size, 11, none⟩ = some (.int .i64 (s.asked : Int)) := H0.out.cell 11
  have g11 := H0.out.fr 11
  go_upto_region 2 with fail
  have H1 : Hid (OBx w (dlCells (s.ask now) dt A n c B m e) dlZero (w1.setCell ⟨w.heap.size, 11, none⟩ (.int .i64 (t : Int)))) := HT.out ▸ H0.out.set 11 (.int .i64 ((s.ask now).asked : Int))
  generalize w1.setCell ⟨w.heap.size, 11, none⟩ (.int .i64 (t : Int)) = W1 at H1 ⊢
  clear b11 g11 H0
  go_upto_region 3 with fail
  have hbA : RowKit.Below W1.heap.size W1 (W1.alloc (.cells #[] 44)) := (RowKit.Below.refl _ _).alloc (Nat.le_refl _) _
  have H2 := Lib.hid (H1.out.on hbA)
  have HR6 : Hid (OwnR w (.slice (some ⟨W1.heap.size, 0, none⟩) 0 0) [] (W1.alloc (.cells #[] 44))) := OwnR.made rfl H1.out.lt
  generalize W1.alloc (.cells #[] 44) = W2 at H2 HR6 ⊢
  clear hbA
  have b7 : W2.cell? ⟨w.heap.size, 7, none⟩ = some (.bool true) := by rw [H2.out.cell 7]; show some (Value.bool s.g.b) = _; rw [HG.out]
  have b6 : W2.cell? ⟨w.heap.size, 6, none⟩ = some (.int .u64 (s.g.u : Int)) := H2.out.cell 6
  have b0 : W2.cell? ⟨w.heap.size, 0, none⟩ = some (.int .u8 (s.me : Int)) := H2.out.cell 0
  have b1 : W2.cell? ⟨w.heap.size, 1, none⟩ = some (.int .u8 (s.peer : Int)) := H2.out.cell 1
  have hlw2 : w.heap.size < W2.heap.size := by have := H2.out.lt; omega
  go_upto_region 8 with fail
  generalize hV0 : World.alloc W2 _ = V0
  have hrow : V0.heap[W2.heap.size]? = some (.cells (ackP s).cs 44 (0, 0)) := by rw [← hV0]; exact heap_alloc_new W2 _
  have hbV : RowKit.Below W2.heap.size W2 V0 := by rw [← hV0]; exact (RowKit.Below.refl _ _).alloc (Nat.le_refl _) _
  have H4 := Lib.hid (H2.out.on hbV)
  have HR64 := Lib.hid (HR6.out.on hbV)
  have HROW := Lib.hid hrow
  clear hV0 hrow hbV b0 b1 b6 b7 hlw2
  have hbX : RowKit.Below V0.heap.size V0 (V0.alloc (.cells (ackP s).cs 44)) := (RowKit.Below.refl _ _).alloc (Nat.le_refl _) _
  have hLL := lies_new1 V0 (ackP s).cs 44
  rw [← flat_single] at hLL
  obtain ⟨A6, c6, W5, hrun6, ho6, hb6, -, -⟩ := OwnR.app (m := [ackP s]) (n := 1) (c := 1) (H4.out.on hbX) (HR64.out.on hbX) rfl hLL (by decide)
  have HR := Lib.hid hrun6
  have HO6 : Hid (OwnR w (.slice A6 1 c6) [ackP s] W5) := ho6
  have H5 := Lib.hid hb6
  clear hbX hLL hrun6 ho6 hb6
  have b7 : W5.cell? ⟨w.heap.size, 7, none⟩ = some (.bool true) := by rw [H5.out.cell 7]; show some (Value.bool s.g.b) = _; rw [HG.out]
  have g7 := H5.out.fr 7
  go_upto_region 10 with (first | (refine load_frame (.tmp 7) rfl HROW.out (Pf.size (ackP s)) ?_) | (refine wpList_build1 rfl (x := .tmp 33) (y := ackP s) rfl rfl ?_) | (at_builtin; refine wpList_append_run rfl (.tmp 32) (.tmp 34) 26 rfl rfl rfl HR.out ?_) | fail)
  have H3 : Hid (OBx w (dlCells ((s.ask now).told) dt A n c B m e) dlZero (W5.setCell ⟨w.heap.size, 7, none⟩ (.bool false))) := H5.out.set 7 (.bool false)
  have HR63 := Lib.hid (HO6.out.set (g := w.heap.size) (by omega) 7 (.bool false))
  generalize W5.setCell ⟨w.heap.size, 7, none⟩ (.bool false) = W6 at H3 HR63 ⊢
  clear b7 g7
  go_upto_region 11 with fail
  generalize hV1 : W6.alloc (.cells #[] 44) = V1
  have HS : Hid (OS w (dlCells ((s.ask now).told) dt A n c B m e) [ackP s] [] [] (.slice A6 1 c6) _ _ (V1.alloc (.cells #[] 44))) := OS.start H3.out HR63.out hV1 rfl rfl
  generalize V1.alloc (.cells #[] 44) = W3 at HS ⊢
  clear hV1 H2 H3 HR6 HR63 HR64 HO6 H4 H5 HROW HR hmx H1
  have b3 : W3.cell? ⟨w.heap.size, 3, none⟩ = some (.slice A n c) := HS.out.bx.cell 3
  go_wp2_with fail
  clear b3
  go_loopw [8, 9, 10, 44] (fun v8 v9 _ s44 wr => ∃ (i : Nat) (A8 : Option Addr) (c8 : Nat) (A9 : Option Addr) (c9 : Nat), i ≤ n ∧ s44 = .int .i64 i ∧ v8 = .slice A8 (min i k) c8 ∧ v9 = .slice A9 (i - k) c9 ∧ OS w (dlCells ((s.ask now).told) dt A n c B m e) [ackP s] (lm.take (min i k)) ((lm.take i).drop k) (.slice A6 1 c6) (.slice A8 (min i k) c8) (.slice A9 (i - k) c9) wr) (fun _ _ _ s44 _ => n - (intOf s44).toNat)
  case atStart =>
    refine ⟨0, _, _, _, _, Nat.zero_le _, rfl, by rw [Nat.zero_min], by rw [Nat.zero_sub], ?_⟩
    have h1 := HS.out
    rw [Nat.zero_min, List.take_zero, Nat.zero_sub, List.drop_nil]
    exact h1
  case round =>
    clear HS
    obtain ⟨i, A8, c8, A9, c9, hi, rfl, rfl, rfl, hS⟩ := hrel
    have b3 : wr.cell? ⟨w.heap.size, 3, none⟩ = some (.slice A n c) := hS.bx.cell 3
    have b9 : wr.cell? ⟨w.heap.size, 9, none⟩ = some (.int .u64 (s.sent : Int)) := hS.bx.cell 9
    by_cases hlt : i < n
    · have hil : i < lm.length := by rw [HL.out]; exact hlt
      obtain ⟨b, off, rfl, hbw, hc⟩ := row_at ((HA.out.below hS.bx.below).more hS.bx.below.size) hil
      have hsq := range_seq hc
      rw [HSQ.out i hil] at hsq
      by_cases hik : i < k
      · have d1 : decide (firstN s.last n + i ≤ s.sent) = true := by have := HK.out; simp; omega
        have e1 : min i k = i := Nat.min_eq_left (by omega)
        have e2 : i - k = 0 := by omega
        rw [e1, e2] at hS
        rw [e1, e2]
        have HSS := Lib.hid hS
        have HE2 : Hid (∀ (A' : Option Addr) (c' : Nat) (V : World), OS w (dlCells ((s.ask now).told) dt (some ⟨b, off, none⟩) n c B m e) [ackP s] (lm.take i ++ [lm[i]]) ((lm.take i).drop k) (.slice A6 1 c6) (.slice A' (i + 1) c') (.slice A9 0 c9) V → OS w (dlCells ((s.ask now).told) dt (some ⟨b, off, none⟩) n c B m e) [ackP s] (lm.take (min (i + 1) k)) ((lm.take (i + 1)).drop k) (.slice A6 1 c6) (.slice A' (min (i + 1) k) c') (.slice A9 (i + 1 - k) c9) V) := fun A' c' V h => by
          rw [Nat.min_eq_left (by omega), show i + 1 - k = 0 by omega, List.take_succ_eq_append_getElem hil, show (lm.take i ++ [lm[i]]).drop k = (lm.take i).drop k by rw [List.drop_eq_nil_of_le (by rw [List.length_append, List.length_take, List.length_singleton]; omega), List.drop_eq_nil_of_le (by rw [List.length_take]; omega)]]
          exact h
        have hlen : (lm.take i).length = i := by rw [List.length_take]; omega
        have HLN := Lib.hid hlen
        have HN1 : Hid (min (i + 1) k = i + 1 ∧ i + 1 - k = 0) := And.intro (Nat.min_eq_left (by omega)) (by omega)
        generalize lm[i] = y at hc HE2
        generalize firstN s.last n + i = sq at hsq d1
        clear hS hil hlen e1 e2
        go_upto_region 14 with fail
        go_quiet (fail)
        have hbq : RowKit.Below wr.heap.size wr (wr.drewN nq) := ⟨rfl, rfl, rfl, Nat.le_refl _, fun _ _ => rfl⟩
        have hc2 : (wr.drewN nq).rangeAt b (off + i * 16) (encPf y) := hc
        have b3' : (wr.drewN nq).cell? ⟨w.heap.size, 3, none⟩ = some (.slice (some ⟨b, off, none⟩) n c) := b3
        have HSD := Lib.hid (HSS.out.on hbq)
        generalize wr.drewN nq = wq at hc2 b3' HSD ⊢
        clear hc b3 b9 hsq hbq HSS
        obtain ⟨A', c', w5, hrun, hS5⟩ := HSD.out.push8 y HLN.out (by omega)
        have HR := Lib.hid hrun
        have HS5 := Lib.hid (HE2.out _ _ _ hS5)
        clear hrun hS5
        go_wp2_with (first | (refine load_elem (.tmp 62) rfl hc2 ?_) | (refine wpList_build1 rfl (x := .tmp 63) (y := y) rfl rfl ?_) | (at_builtin; refine wpList_append_run rfl (.tmp 57) (.tmp 64) 26 rfl rfl rfl HR.out ?_) | fail)
        go_roundw
        case rel => exact ⟨i + 1, A', c', A9, c9, by omega, by go_num, by rw [HN1.out.1], by rw [HN1.out.2], HS5.out⟩
        case measure => simp [intOf]; omega
      · have d1 : decide (firstN s.last n + i ≤ s.sent) = false := by have := HK.out; simp; omega
        have e1 : min i k = k := Nat.min_eq_right (by omega)
        rw [e1] at hS
        rw [e1]
        have HSS := Lib.hid hS
        have HE2 : Hid (∀ (A' : Option Addr) (c' : Nat) (V : World), OS w (dlCells ((s.ask now).told) dt (some ⟨b, off, none⟩) n c B m e) [ackP s] (lm.take k) ((lm.take i).drop k ++ [lm[i]]) (.slice A6 1 c6) (.slice A8 k c8) (.slice A' (i - k + 1) c') V → OS w (dlCells ((s.ask now).told) dt (some ⟨b, off, none⟩) n c B m e) [ackP s] (lm.take (min (i + 1) k)) ((lm.take (i + 1)).drop k) (.slice A6 1 c6) (.slice A8 (min (i + 1) k) c8) (.slice A' (i + 1 - k) c') V) := fun A' c' V h => by
          rw [Nat.min_eq_right (by omega), show i + 1 - k = i - k + 1 by omega, List.take_succ_eq_append_getElem hil, List.drop_append_of_le_length (by rw [List.length_take]; omega)]
          exact h
        have hlen : ((lm.take i).drop k).length = i - k := by rw [List.length_drop, List.length_take]; omega
        have HLN := Lib.hid hlen
        have HN1 : Hid (min (i + 1) k = k ∧ i + 1 - k = i - k + 1) := And.intro (Nat.min_eq_right (by omega)) (by omega)
        generalize lm[i] = y at hc HE2
        generalize firstN s.last n + i = sq at hsq d1
        generalize hik2 : i - k = ik at HE2 HLN HN1 HSS ⊢
        have hik3 : ik ≤ 64 := by omega
        clear hS hil hlen e1 hik2
        go_upto_region 14 with fail
        go_quiet (fail)
        have hbq : RowKit.Below wr.heap.size wr (wr.drewN nq) := ⟨rfl, rfl, rfl, Nat.le_refl _, fun _ _ => rfl⟩
        have hc2 : (wr.drewN nq).rangeAt b (off + i * 16) (encPf y) := hc
        have b3' : (wr.drewN nq).cell? ⟨w.heap.size, 3, none⟩ = some (.slice (some ⟨b, off, none⟩) n c) := b3
        have HSD := Lib.hid (HSS.out.on hbq)
        generalize wr.drewN nq = wq at hc2 b3' HSD ⊢
        clear hc b3 b9 hsq hbq HSS
        obtain ⟨A', c', w5, hrun, hS5⟩ := HSD.out.push9 y HLN.out (by omega)
        have HR := Lib.hid hrun
        have HS5 := Lib.hid (HE2.out _ _ _ hS5)
        clear hrun hS5
        go_wp2_with (first | (refine load_elem (.tmp 71) rfl hc2 ?_) | (refine wpList_build1 rfl (x := .tmp 72) (y := y) rfl rfl ?_) | (at_builtin; refine wpList_append_run rfl (.tmp 66) (.tmp 73) 26 rfl rfl rfl HR.out ?_) | fail)
        go_roundw
        case rel => exact ⟨i + 1, A8, c8, A', c', by omega, by go_num, by rw [HN1.out.1], by rw [HN1.out.2], HS5.out⟩
        case measure => simp [intOf]; omega
    · obtain rfl : n = i := by omega
      have htk : lm.take n = lm := List.take_of_length_le (by rw [HL.out]; exact Nat.le_refl _)
      have e1 : min n k = k := Nat.min_eq_right HKN.out
      rw [e1, htk] at hS
      rw [e1]
      have HF9 : Hid ((lm.drop k).length = n - k) := by show _ = _; rw [List.length_drop, HL.out]
      have HF8 : Hid ((lm.take k).length = k) := by show _ = _; rw [List.length_take, HL.out]; exact Nat.min_eq_left HKN.out
      have HSS := Lib.hid hS
      have b8 : wr.cell? ⟨w.heap.size, 8, none⟩ = some (.int .i64 (s.again : Int)) := hS.bx.cell 8
      have b10 : wr.cell? ⟨w.heap.size, 10, none⟩ = some (.int .i64 (dt : Int)) := hS.bx.cell 10
      have b11 : wr.cell? ⟨w.heap.size, 11, none⟩ = some (.int .i64 (t : Int)) := HT.out ▸ hS.bx.cell 11
      have g10 := hS.bx.fr 10
      have hlw := hS.bx.lt
      have hik3 : n - k ≤ 64 := by omega
      have HDT := Lib.hid hdt0
      clear hS e1 htk b3 b9
      rcases Nat.eq_zero_or_pos k with hk0 | hk0
      · have HK0 := Lib.hid hk0
        have d0 : decide (0 < k) = false := by simp; omega
        have d00 : ((k : Int) == 0) = true := by simp; omega
        rcases Nat.eq_zero_or_pos (n - k) with hf0 | hf0
        · have d9 : decide (0 < n - k) = false := by simp; omega
          have HDN : Hid (dtN (s.ask now) dt = dt) := by show _ = _; have h1 : sentN (s.ask now) = k := HKS.out; have h2 := HK0.out; unfold dtN; rw [h1, h2, if_neg (by omega), if_neg (by have : (s.ask now).fs.length = n := HFS.out; omega)]
          have HRS : Hid (resend (s.ask now) dt = false) := by show _ = _; have h1 : sentN (s.ask now) = k := HKS.out; unfold resend; rw [h1, d0]; rfl
          generalize n - k = ik at HF9 hik3 d9 HSS hf0 ⊢
          subst hf0
          have HBX := Lib.hid HSS.out.bx
          have H6 := Lib.hid HSS.out.r6
          have H9 := Lib.hid HSS.out.r9
          clear HSS
          go_upto_region 23 with fail
          clear b8 b10 b11 g10
          generalize hU : wr = U at HBX H6 H9 ⊢
          have hlw : w.heap.size + 2 ≤ U.heap.size := hU ▸ hlw
          clear hU
          have y4 : U.cell? ⟨w.heap.size, 4, none⟩ = some (.int .u64 (s.last : Int)) := HBX.out.cell 4
          have y9 : U.cell? ⟨w.heap.size, 9, none⟩ = some (.int .u64 (s.sent : Int)) := HBX.out.cell 9
          have g9 := HBX.out.fr 9
          go_upto_region 24 with fail
          clear y4 y9 g9
          have HB2 : Hid (OBx w (dlCells (s.outS now) (dt) A n c B m e) dlZero (U.setCell ⟨w.heap.size, 9, none⟩ (.int .u64 (s.last : Int)))) := HBX.out.set 9 (.int .u64 (s.last : Int))
          have H62 := Lib.hid (H6.out.set (g := w.heap.size) (by omega) 9 (.int .u64 (s.last : Int)))
          have H92 := Lib.hid (H9.out.set (g := w.heap.size) (by omega) 9 (.int .u64 (s.last : Int)))
          generalize U.setCell ⟨w.heap.size, 9, none⟩ (.int .u64 (s.last : Int)) = Y at HB2 H62 H92 ⊢
          clear HBX H6 H9
          have hHeld : LB w (dlCells (s.outS now) (dt) A n c B m e) Y.drew := HB2.out.l
          refine wp_region_held_drew (S := LB w (dlCells (s.outS now) (dt) A n c B m e)) (by kernel_rfl) hHeld (fun hHeld => ?_)
          have HB3 := Lib.hid (HB2.out.on (drewB Y))
          have H63 := Lib.hid (H62.out.on (drewB Y))
          have H93 := Lib.hid (H92.out.on (drewB Y))
          generalize World.drew Y = X0 at hHeld HB3 H63 H93 ⊢
          clear HB2 H62 H92
          refine wpAnyH_takeAt (i := 0) (d := 110) (v := .agg (dlCells (s.outS now) (dt) A n c B m e)) rfl rfl (by kernel_rfl) (by kernel_rfl) (by kernel_rfl) (fun _ _ _ h => h) (yields_L (S := LB w (dlCells (s.outS now) (dt) A n c B m e)) (x := .tmp 2) (g := w.heap.size) rfl rfl rfl rfl (fun V hV => hV)) hHeld ?_
          simp only [List.setIfInBounds_toArray, List.set_cons_zero, List.set_cons_succ]
          refine wpAnyH_takeAt (i := 1) (d := 111) (v := ?_) rfl rfl (by kernel_rfl) (by kernel_rfl) (by kernel_rfl) (fun _ _ _ h => h) (Or.inl ⟨by rfl, ?_⟩) hHeld ?_
          rotate_left
          · (intro _ hSw; go_simp; try with_reducible rfl)
          simp only [List.setIfInBounds_toArray, List.set_cons_zero, List.set_cons_succ]
          refine wpAnyH_takeAt (i := 2) (d := 112) (v := ?_) rfl rfl (by kernel_rfl) (by kernel_rfl) (by kernel_rfl) (fun _ _ _ h => h) (Or.inl ⟨by rfl, ?_⟩) hHeld ?_
          rotate_left
          · (intro _ hSw; go_simp; try with_reducible rfl)
          simp only [List.setIfInBounds_toArray, List.set_cons_zero, List.set_cons_succ]
          refine wpAnyH_ready (rs := [3]) (by kernel_rfl) (by simp) ?_
          refine AllReadyH.cons rfl (fun K hK => ?_) AllReadyH.nil
          obtain ⟨A7, c7, W7, hrun7, hb7, h7⟩ := out_last HB3.out H63.out H93.out (n6 := 1) (by rfl) HF9.out (by omega)
          refine wp_append_step (s := .tmp 111) (x := .tmp 112) (t := 26) rfl rfl rfl rfl hrun7 ?_
          go_simp
          have HB7 := Lib.hid hb7
          have H7 := Lib.hid h7
          have hS7 : LB w (dlCells (s.outS now) (dt) A n c B m e) W7 := hb7.l
          refine hK.out _ _ hS7 (fun _ => ?_)
          clear hK K hHeld hrun7 hb7 h7 HB3 H63 H93
          have hHeld := hS7
          clear hS7
          refine wpAnyH_ready (rs := [4]) (by kernel_rfl) (by simp) ?_
          refine AllReadyH.cons rfl (fun K hK => ?_) AllReadyH.nil
          refine wp_store_Ls (x := .tmp 4) (y := .tmp 110) rfl rfl rfl rfl HB7.out.r rfl rfl (dl_one _ _ _ _ _ _ _ _) ?_
          have HE := Lib.hid (HB7.out.setR (dlCells (s.outS now) (dt) A n c B m e))
          have hS8 : LB w (dlCells (s.outS now) (dt) A n c B m e) (W7.setRow (w.heap.size + 1) (dlCells (s.outS now) (dt) A n c B m e)) := HE.out.l
          refine hK.out _ _ hS8 (fun _ => ?_)
          clear hK K hHeld
          have hHeld := hS8
          clear hS8
          generalize hVZ : W7.setRow (w.heap.size + 1) (dlCells (s.outS now) (dt) A n c B m e) = VZ at HE hHeld ⊢
          have HVZ := Lib.hid hVZ
          clear hVZ
          refine wpAnyH_takeAt (i := 5) (d := 5) (v := ?_) rfl rfl (by kernel_rfl) (by kernel_rfl) (by kernel_rfl) (fun _ _ _ h => h) (Or.inl ⟨by rfl, ?_⟩) hHeld ?_
          rotate_left
          · (intro _ hSw; go_simp; try with_reducible rfl)
          try simp only [List.setIfInBounds_toArray, List.set_cons_zero, List.set_cons_succ]
          refine wpAnyH_done (by kernel_rfl) ?_ _
          go_wp2
          refine bodyPost_ret (results_cell_tmp rfl _ _ (w.heap.size + 1) _ rfl (load_rowL HE.out.r rfl)) rfl ?_
          rw [← HVZ.out]
          rw [← HZZ.out, HDN.out, HRS.out]
          exact DOut.mk (zs := [ackP s] ++ lm.drop k) HL.out HC.out.1 HC.out.2 HM.out (by rw [List.length_append, HF9.out]; rfl) HB7.out H7.out
        · have d9 : decide (0 < n - k) = true := by simp; omega
          have HDN : Hid (dtN (s.ask now) dt = (s.ask now).asked) := by show _ = _; have h1 : sentN (s.ask now) = k := HKS.out; have h2 := HK0.out; unfold dtN; rw [h1, h2, if_neg (by omega), if_pos (by have : (s.ask now).fs.length = n := HFS.out; omega)]
          have HRS : Hid (resend (s.ask now) dt = false) := by show _ = _; have h1 : sentN (s.ask now) = k := HKS.out; unfold resend; rw [h1, d0]; rfl
          generalize n - k = ik at HF9 hik3 d9 HSS hf0 ⊢
          have HBX : Hid (OBx w (dlCells ((s.ask now).told) ((s.ask now).asked) A n c B m e) dlZero (wr.setCell ⟨w.heap.size, 10, none⟩ (.int .i64 (t : Int)))) := HT.out ▸ HSS.out.bx.set 10 (.int .i64 (t : Int))
          have HSU := Lib.hid (HSS.out.set 10 (.int .i64 (t : Int)))
          have H6 := Lib.hid HSU.out.r6
          have H9 := Lib.hid HSU.out.r9
          clear HSS HSU
          go_upto_region 23 with fail
          clear b8 b10 b11 g10
          generalize hU : wr.setCell ⟨w.heap.size, 10, none⟩ (.int .i64 (t : Int)) = U at HBX H6 H9 ⊢
          have hlw : w.heap.size + 2 ≤ U.heap.size := HBX.out.lt
          clear hU
          have y4 : U.cell? ⟨w.heap.size, 4, none⟩ = some (.int .u64 (s.last : Int)) := HBX.out.cell 4
          have y9 : U.cell? ⟨w.heap.size, 9, none⟩ = some (.int .u64 (s.sent : Int)) := HBX.out.cell 9
          have g9 := HBX.out.fr 9
          go_upto_region 24 with fail
          clear y4 y9 g9
          have HB2 : Hid (OBx w (dlCells (s.outS now) ((s.ask now).asked) A n c B m e) dlZero (U.setCell ⟨w.heap.size, 9, none⟩ (.int .u64 (s.last : Int)))) := HBX.out.set 9 (.int .u64 (s.last : Int))
          have H62 := Lib.hid (H6.out.set (g := w.heap.size) (by omega) 9 (.int .u64 (s.last : Int)))
          have H92 := Lib.hid (H9.out.set (g := w.heap.size) (by omega) 9 (.int .u64 (s.last : Int)))
          generalize U.setCell ⟨w.heap.size, 9, none⟩ (.int .u64 (s.last : Int)) = Y at HB2 H62 H92 ⊢
          clear HBX H6 H9
          have hHeld : LB w (dlCells (s.outS now) ((s.ask now).asked) A n c B m e) Y.drew := HB2.out.l
          refine wp_region_held_drew (S := LB w (dlCells (s.outS now) ((s.ask now).asked) A n c B m e)) (by kernel_rfl) hHeld (fun hHeld => ?_)
          have HB3 := Lib.hid (HB2.out.on (drewB Y))
          have H63 := Lib.hid (H62.out.on (drewB Y))
          have H93 := Lib.hid (H92.out.on (drewB Y))
          generalize World.drew Y = X0 at hHeld HB3 H63 H93 ⊢
          clear HB2 H62 H92
          refine wpAnyH_takeAt (i := 0) (d := 110) (v := .agg (dlCells (s.outS now) ((s.ask now).asked) A n c B m e)) rfl rfl (by kernel_rfl) (by kernel_rfl) (by kernel_rfl) (fun _ _ _ h => h) (yields_L (S := LB w (dlCells (s.outS now) ((s.ask now).asked) A n c B m e)) (x := .tmp 2) (g := w.heap.size) rfl rfl rfl rfl (fun V hV => hV)) hHeld ?_
          simp only [List.setIfInBounds_toArray, List.set_cons_zero, List.set_cons_succ]
          refine wpAnyH_takeAt (i := 1) (d := 111) (v := ?_) rfl rfl (by kernel_rfl) (by kernel_rfl) (by kernel_rfl) (fun _ _ _ h => h) (Or.inl ⟨by rfl, ?_⟩) hHeld ?_
          rotate_left
          · (intro _ hSw; go_simp; try with_reducible rfl)
          simp only [List.setIfInBounds_toArray, List.set_cons_zero, List.set_cons_succ]
          refine wpAnyH_takeAt (i := 2) (d := 112) (v := ?_) rfl rfl (by kernel_rfl) (by kernel_rfl) (by kernel_rfl) (fun _ _ _ h => h) (Or.inl ⟨by rfl, ?_⟩) hHeld ?_
          rotate_left
          · (intro _ hSw; go_simp; try with_reducible rfl)
          simp only [List.setIfInBounds_toArray, List.set_cons_zero, List.set_cons_succ]
          refine wpAnyH_ready (rs := [3]) (by kernel_rfl) (by simp) ?_
          refine AllReadyH.cons rfl (fun K hK => ?_) AllReadyH.nil
          obtain ⟨A7, c7, W7, hrun7, hb7, h7⟩ := out_last HB3.out H63.out H93.out (n6 := 1) (by rfl) HF9.out (by omega)
          refine wp_append_step (s := .tmp 111) (x := .tmp 112) (t := 26) rfl rfl rfl rfl hrun7 ?_
          go_simp
          have HB7 := Lib.hid hb7
          have H7 := Lib.hid h7
          have hS7 : LB w (dlCells (s.outS now) ((s.ask now).asked) A n c B m e) W7 := hb7.l
          refine hK.out _ _ hS7 (fun _ => ?_)
          clear hK K hHeld hrun7 hb7 h7 HB3 H63 H93
          have hHeld := hS7
          clear hS7
          refine wpAnyH_ready (rs := [4]) (by kernel_rfl) (by simp) ?_
          refine AllReadyH.cons rfl (fun K hK => ?_) AllReadyH.nil
          refine wp_store_Ls (x := .tmp 4) (y := .tmp 110) rfl rfl rfl rfl HB7.out.r rfl rfl (dl_one _ _ _ _ _ _ _ _) ?_
          have HE := Lib.hid (HB7.out.setR (dlCells (s.outS now) ((s.ask now).asked) A n c B m e))
          have hS8 : LB w (dlCells (s.outS now) ((s.ask now).asked) A n c B m e) (W7.setRow (w.heap.size + 1) (dlCells (s.outS now) ((s.ask now).asked) A n c B m e)) := HE.out.l
          refine hK.out _ _ hS8 (fun _ => ?_)
          clear hK K hHeld
          have hHeld := hS8
          clear hS8
          generalize hVZ : W7.setRow (w.heap.size + 1) (dlCells (s.outS now) ((s.ask now).asked) A n c B m e) = VZ at HE hHeld ⊢
          have HVZ := Lib.hid hVZ
          clear hVZ
          refine wpAnyH_takeAt (i := 5) (d := 5) (v := ?_) rfl rfl (by kernel_rfl) (by kernel_rfl) (by kernel_rfl) (fun _ _ _ h => h) (Or.inl ⟨by rfl, ?_⟩) hHeld ?_
          rotate_left
          · (intro _ hSw; go_simp; try with_reducible rfl)
          try simp only [List.setIfInBounds_toArray, List.set_cons_zero, List.set_cons_succ]
          refine wpAnyH_done (by kernel_rfl) ?_ _
          go_wp2
          refine bodyPost_ret (results_cell_tmp rfl _ _ (w.heap.size + 1) _ rfl (load_rowL HE.out.r rfl)) rfl ?_
          rw [← HVZ.out]
          rw [← HZZ.out, HDN.out, HRS.out]
          exact DOut.mk (zs := [ackP s] ++ lm.drop k) HL.out HC.out.1 HC.out.2 HM.out (by rw [List.length_append, HF9.out]; rfl) HB7.out H7.out
      · have d0 : decide (0 < k) = true := by simp; omega
        have d00 : ((k : Int) == 0) = false := by simp; omega
        by_cases htm : (s.again : Int) ≤ (t : Int) - (dt : Int)
        · have dT : decide ((s.again : Int) ≤ (t : Int) - (dt : Int)) = true := by simpa using htm
          have HDN : Hid (dtN (s.ask now) dt = (s.ask now).asked) := by show _ = _; have h1 : sentN (s.ask now) = k := HKS.out; unfold dtN; rw [h1, if_pos hk0, if_pos (by rw [HT.out]; exact htm)]
          have HRS : Hid (resend (s.ask now) dt = true) := by show _ = _; have h1 : sentN (s.ask now) = k := HKS.out; unfold resend; rw [h1, d0, HT.out, show decide (((s.ask now).again : Int) ≤ (t : Int) - (dt : Int)) = true from dT]; rfl
          generalize n - k = ik at HF9 hik3 HSS ⊢
          have HBX : Hid (OBx w (dlCells ((s.ask now).told) ((s.ask now).asked) A n c B m e) dlZero (wr.setCell ⟨w.heap.size, 10, none⟩ (.int .i64 (t : Int)))) := HT.out ▸ HSS.out.bx.set 10 (.int .i64 (t : Int))
          have HSU := Lib.hid (HSS.out.set 10 (.int .i64 (t : Int)))
          obtain ⟨A5, c5, w5, hrun5, hb5, h65, h95⟩ := HSU.out.again (n6 := 1) rfl HF8.out (by omega)
          have HR5 := Lib.hid hrun5
          have HB5 := Lib.hid hb5
          have HB5' : Hid (OBx w (dlCells ((s.ask now).told) ((s.ask now).asked) A n c B m e) dlZero w5) := HT.out ▸ hb5
          have H6 := Lib.hid h65
          have H9 := Lib.hid h95
          clear hrun5 hb5 h65 h95 HSS HSU HBX
          go_upto_region 23 with (first | (at_builtin; refine wpList_append_run rfl (.tmp 92) (.tmp 93) 26 rfl rfl rfl HR5.out ?_) | fail)
          clear b8 b10 b11 g10
          have HBX := HB5'
          generalize hU : w5 = U at HBX H6 H9 ⊢
          have hlw : w.heap.size + 2 ≤ U.heap.size := HBX.out.lt
          clear hU
          have y4 : U.cell? ⟨w.heap.size, 4, none⟩ = some (.int .u64 (s.last : Int)) := HBX.out.cell 4
          have y9 : U.cell? ⟨w.heap.size, 9, none⟩ = some (.int .u64 (s.sent : Int)) := HBX.out.cell 9
          have g9 := HBX.out.fr 9
          go_upto_region 24 with fail
          clear y4 y9 g9
          have HB2 : Hid (OBx w (dlCells (s.outS now) ((s.ask now).asked) A n c B m e) dlZero (U.setCell ⟨w.heap.size, 9, none⟩ (.int .u64 (s.last : Int)))) := HBX.out.set 9 (.int .u64 (s.last : Int))
          have H62 := Lib.hid (H6.out.set (g := w.heap.size) (by omega) 9 (.int .u64 (s.last : Int)))
          have H92 := Lib.hid (H9.out.set (g := w.heap.size) (by omega) 9 (.int .u64 (s.last : Int)))
          generalize U.setCell ⟨w.heap.size, 9, none⟩ (.int .u64 (s.last : Int)) = Y at HB2 H62 H92 ⊢
          clear HBX H6 H9
          have hHeld : LB w (dlCells (s.outS now) ((s.ask now).asked) A n c B m e) Y.drew := HB2.out.l
          refine wp_region_held_drew (S := LB w (dlCells (s.outS now) ((s.ask now).asked) A n c B m e)) (by kernel_rfl) hHeld (fun hHeld => ?_)
          have HB3 := Lib.hid (HB2.out.on (drewB Y))
          have H63 := Lib.hid (H62.out.on (drewB Y))
          have H93 := Lib.hid (H92.out.on (drewB Y))
          generalize World.drew Y = X0 at hHeld HB3 H63 H93 ⊢
          clear HB2 H62 H92
          refine wpAnyH_takeAt (i := 0) (d := 110) (v := .agg (dlCells (s.outS now) ((s.ask now).asked) A n c B m e)) rfl rfl (by kernel_rfl) (by kernel_rfl) (by kernel_rfl) (fun _ _ _ h => h) (yields_L (S := LB w (dlCells (s.outS now) ((s.ask now).asked) A n c B m e)) (x := .tmp 2) (g := w.heap.size) rfl rfl rfl rfl (fun V hV => hV)) hHeld ?_
          simp only [List.setIfInBounds_toArray, List.set_cons_zero, List.set_cons_succ]
          refine wpAnyH_takeAt (i := 1) (d := 111) (v := ?_) rfl rfl (by kernel_rfl) (by kernel_rfl) (by kernel_rfl) (fun _ _ _ h => h) (Or.inl ⟨by rfl, ?_⟩) hHeld ?_
          rotate_left
          · (intro _ hSw; go_simp; try with_reducible rfl)
          simp only [List.setIfInBounds_toArray, List.set_cons_zero, List.set_cons_succ]
          refine wpAnyH_takeAt (i := 2) (d := 112) (v := ?_) rfl rfl (by kernel_rfl) (by kernel_rfl) (by kernel_rfl) (fun _ _ _ h => h) (Or.inl ⟨by rfl, ?_⟩) hHeld ?_
          rotate_left
          · (intro _ hSw; go_simp; try with_reducible rfl)
          simp only [List.setIfInBounds_toArray, List.set_cons_zero, List.set_cons_succ]
          refine wpAnyH_ready (rs := [3]) (by kernel_rfl) (by simp) ?_
          refine AllReadyH.cons rfl (fun K hK => ?_) AllReadyH.nil
          obtain ⟨A7, c7, W7, hrun7, hb7, h7⟩ := out_last HB3.out H63.out H93.out (n6 := (1 + k)) (by rw [List.length_append, HF8.out]; rfl) HF9.out (by omega)
          refine wp_append_step (s := .tmp 111) (x := .tmp 112) (t := 26) rfl rfl rfl rfl hrun7 ?_
          go_simp
          have HB7 := Lib.hid hb7
          have H7 := Lib.hid h7
          have hS7 : LB w (dlCells (s.outS now) ((s.ask now).asked) A n c B m e) W7 := hb7.l
          refine hK.out _ _ hS7 (fun _ => ?_)
          clear hK K hHeld hrun7 hb7 h7 HB3 H63 H93
          have hHeld := hS7
          clear hS7
          refine wpAnyH_ready (rs := [4]) (by kernel_rfl) (by simp) ?_
          refine AllReadyH.cons rfl (fun K hK => ?_) AllReadyH.nil
          refine wp_store_Ls (x := .tmp 4) (y := .tmp 110) rfl rfl rfl rfl HB7.out.r rfl rfl (dl_one _ _ _ _ _ _ _ _) ?_
          have HE := Lib.hid (HB7.out.setR (dlCells (s.outS now) ((s.ask now).asked) A n c B m e))
          have hS8 : LB w (dlCells (s.outS now) ((s.ask now).asked) A n c B m e) (W7.setRow (w.heap.size + 1) (dlCells (s.outS now) ((s.ask now).asked) A n c B m e)) := HE.out.l
          refine hK.out _ _ hS8 (fun _ => ?_)
          clear hK K hHeld
          have hHeld := hS8
          clear hS8
          generalize hVZ : W7.setRow (w.heap.size + 1) (dlCells (s.outS now) ((s.ask now).asked) A n c B m e) = VZ at HE hHeld ⊢
          have HVZ := Lib.hid hVZ
          clear hVZ
          refine wpAnyH_takeAt (i := 5) (d := 5) (v := ?_) rfl rfl (by kernel_rfl) (by kernel_rfl) (by kernel_rfl) (fun _ _ _ h => h) (Or.inl ⟨by rfl, ?_⟩) hHeld ?_
          rotate_left
          · (intro _ hSw; go_simp; try with_reducible rfl)
          try simp only [List.setIfInBounds_toArray, List.set_cons_zero, List.set_cons_succ]
          refine wpAnyH_done (by kernel_rfl) ?_ _
          go_wp2
          refine bodyPost_ret (results_cell_tmp rfl _ _ (w.heap.size + 1) _ rfl (load_rowL HE.out.r rfl)) rfl ?_
          rw [← HVZ.out]
          rw [← HZZ.out, HDN.out, HRS.out]
          have hz : (if true = true then lm else lm.drop k) = lm.take k ++ lm.drop k := by rw [if_pos rfl, List.take_append_drop]
          show DOut _ _ _ _ _ _ _ ([ackP s] ++ (if true = true then lm else lm.drop k)) _ _
          rw [hz, ← List.append_assoc]
          exact DOut.mk HL.out HC.out.1 HC.out.2 HM.out (by rw [List.length_append, List.length_append, HF8.out, HF9.out]; rfl) HB7.out H7.out
        · have dT : decide ((s.again : Int) ≤ (t : Int) - (dt : Int)) = false := by simpa using htm
          have HDN : Hid (dtN (s.ask now) dt = dt) := by show _ = _; have h1 : sentN (s.ask now) = k := HKS.out; unfold dtN; rw [h1, if_pos hk0, if_neg (by rw [HT.out]; exact htm)]
          have HRS : Hid (resend (s.ask now) dt = false) := by show _ = _; have h1 : sentN (s.ask now) = k := HKS.out; unfold resend; rw [h1, d0, HT.out, show decide (((s.ask now).again : Int) ≤ (t : Int) - (dt : Int)) = false from dT]; rfl
          generalize n - k = ik at HF9 hik3 HSS ⊢
          have HBX := Lib.hid HSS.out.bx
          have H6 := Lib.hid HSS.out.r6
          have H9 := Lib.hid HSS.out.r9
          clear HSS
          go_upto_region 23 with fail
          clear b8 b10 b11 g10
          generalize hU : wr = U at HBX H6 H9 ⊢
          have hlw : w.heap.size + 2 ≤ U.heap.size := hU ▸ hlw
          clear hU
          have y4 : U.cell? ⟨w.heap.size, 4, none⟩ = some (.int .u64 (s.last : Int)) := HBX.out.cell 4
          have y9 : U.cell? ⟨w.heap.size, 9, none⟩ = some (.int .u64 (s.sent : Int)) := HBX.out.cell 9
          have g9 := HBX.out.fr 9
          go_upto_region 24 with fail
          clear y4 y9 g9
          have HB2 : Hid (OBx w (dlCells (s.outS now) (dt) A n c B m e) dlZero (U.setCell ⟨w.heap.size, 9, none⟩ (.int .u64 (s.last : Int)))) := HBX.out.set 9 (.int .u64 (s.last : Int))
          have H62 := Lib.hid (H6.out.set (g := w.heap.size) (by omega) 9 (.int .u64 (s.last : Int)))
          have H92 := Lib.hid (H9.out.set (g := w.heap.size) (by omega) 9 (.int .u64 (s.last : Int)))
          generalize U.setCell ⟨w.heap.size, 9, none⟩ (.int .u64 (s.last : Int)) = Y at HB2 H62 H92 ⊢
          clear HBX H6 H9
          have hHeld : LB w (dlCells (s.outS now) (dt) A n c B m e) Y.drew := HB2.out.l
          refine wp_region_held_drew (S := LB w (dlCells (s.outS now) (dt) A n c B m e)) (by kernel_rfl) hHeld (fun hHeld => ?_)
          have HB3 := Lib.hid (HB2.out.on (drewB Y))
          have H63 := Lib.hid (H62.out.on (drewB Y))
          have H93 := Lib.hid (H92.out.on (drewB Y))
          generalize World.drew Y = X0 at hHeld HB3 H63 H93 ⊢
          clear HB2 H62 H92
          refine wpAnyH_takeAt (i := 0) (d := 110) (v := .agg (dlCells (s.outS now) (dt) A n c B m e)) rfl rfl (by kernel_rfl) (by kernel_rfl) (by kernel_rfl) (fun _ _ _ h => h) (yields_L (S := LB w (dlCells (s.outS now) (dt) A n c B m e)) (x := .tmp 2) (g := w.heap.size) rfl rfl rfl rfl (fun V hV => hV)) hHeld ?_
          simp only [List.setIfInBounds_toArray, List.set_cons_zero, List.set_cons_succ]
          refine wpAnyH_takeAt (i := 1) (d := 111) (v := ?_) rfl rfl (by kernel_rfl) (by kernel_rfl) (by kernel_rfl) (fun _ _ _ h => h) (Or.inl ⟨by rfl, ?_⟩) hHeld ?_
          rotate_left
          · (intro _ hSw; go_simp; try with_reducible rfl)
          simp only [List.setIfInBounds_toArray, List.set_cons_zero, List.set_cons_succ]
          refine wpAnyH_takeAt (i := 2) (d := 112) (v := ?_) rfl rfl (by kernel_rfl) (by kernel_rfl) (by kernel_rfl) (fun _ _ _ h => h) (Or.inl ⟨by rfl, ?_⟩) hHeld ?_
          rotate_left
          · (intro _ hSw; go_simp; try with_reducible rfl)
          simp only [List.setIfInBounds_toArray, List.set_cons_zero, List.set_cons_succ]
          refine wpAnyH_ready (rs := [3]) (by kernel_rfl) (by simp) ?_
          refine AllReadyH.cons rfl (fun K hK => ?_) AllReadyH.nil
          obtain ⟨A7, c7, W7, hrun7, hb7, h7⟩ := out_last HB3.out H63.out H93.out (n6 := 1) (by rfl) HF9.out (by omega)
          refine wp_append_step (s := .tmp 111) (x := .tmp 112) (t := 26) rfl rfl rfl rfl hrun7 ?_
          go_simp
          have HB7 := Lib.hid hb7
          have H7 := Lib.hid h7
          have hS7 : LB w (dlCells (s.outS now) (dt) A n c B m e) W7 := hb7.l
          refine hK.out _ _ hS7 (fun _ => ?_)
          clear hK K hHeld hrun7 hb7 h7 HB3 H63 H93
          have hHeld := hS7
          clear hS7
          refine wpAnyH_ready (rs := [4]) (by kernel_rfl) (by simp) ?_
          refine AllReadyH.cons rfl (fun K hK => ?_) AllReadyH.nil
          refine wp_store_Ls (x := .tmp 4) (y := .tmp 110) rfl rfl rfl rfl HB7.out.r rfl rfl (dl_one _ _ _ _ _ _ _ _) ?_
          have HE := Lib.hid (HB7.out.setR (dlCells (s.outS now) (dt) A n c B m e))
          have hS8 : LB w (dlCells (s.outS now) (dt) A n c B m e) (W7.setRow (w.heap.size + 1) (dlCells (s.outS now) (dt) A n c B m e)) := HE.out.l
          refine hK.out _ _ hS8 (fun _ => ?_)
          clear hK K hHeld
          have hHeld := hS8
          clear hS8
          generalize hVZ : W7.setRow (w.heap.size + 1) (dlCells (s.outS now) (dt) A n c B m e) = VZ at HE hHeld ⊢
          have HVZ := Lib.hid hVZ
          clear hVZ
          refine wpAnyH_takeAt (i := 5) (d := 5) (v := ?_) rfl rfl (by kernel_rfl) (by kernel_rfl) (by kernel_rfl) (fun _ _ _ h => h) (Or.inl ⟨by rfl, ?_⟩) hHeld ?_
          rotate_left
          · (intro _ hSw; go_simp; try with_reducible rfl)
          try simp only [List.setIfInBounds_toArray, List.set_cons_zero, List.set_cons_succ]
          refine wpAnyH_done (by kernel_rfl) ?_ _
          go_wp2
          refine bodyPost_ret (results_cell_tmp rfl _ _ (w.heap.size + 1) _ rfl (load_rowL HE.out.r rfl)) rfl ?_
          rw [← HVZ.out]
          rw [← HZZ.out, HDN.out, HRS.out]
          exact DOut.mk (zs := [ackP s] ++ lm.drop k) HL.out HC.out.1 HC.out.2 HM.out (by rw [List.length_append, HF9.out]; rfl) HB7.out H7.out
end

end Go.Proofs.Ytbkkpimhoeagdaa
