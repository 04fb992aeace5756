/- SlidePlays: for every width, list of acts, number from on and most the call returns true (any row of acts is answered, and leaves what waits, as the document says; what waits is told from any number on, and no more than is asked for), and changes nothing that was there. No conditions. -/
import Derived.Test.YtohlgjkblcopoaaSlYa
import Derived.Test.YtohlgjkblcopoaaSlN
import Derived.ChangeOld
namespace Go.Proofs.Ytohlgjkblcopoaa
open Go.ChangeShapes Go.WideShapes Go.ChangeAt Go.RowKit

set_option maxRecDepth 20000 in
set_option maxHeartbeats 12800000 in
theorem slidePlays_walk (r : Int) (A : Option Addr) (n c : Nat) (l : List Sa) (fr : Nat) (most : Int) (w : World) (h1 : -9223372036854775808 ≤ r) (h2 : r ≤ 9223372036854775807) (hm1 : -9223372036854775808 ≤ most) (hm2 : most ≤ 9223372036854775807) (hl : l.length = n) (hn : n ≤ 100) (hA : Lies w w.heap.size A (flat encSa l)) (hok : ∀ a ∈ l, SaOk w w.heap.size a) :
    Calls Try.prog 3 #[.int .i64 r, .slice A n c, .int .u64 (fr : Int), .int .i64 most] w fun e w' => e = .returned (.bool true) ∧ Below w.heap.size w w' := by
  have mixed := mixedOrders
  have hd : decide (100 < (n : Int)) = false := by simp; omega
  have hN := new_any r w w.heap.size (Nat.le_refl _) h1 h2
  have hRN := fun W => refNew_any r W
  have hw1 : 1 ≤ widthN r := by unfold widthN; omega
  have hw2 : widthN r ≤ 64 := by unfold widthN; omega
  generalize widthN r = width at hN hRN hw1 hw2
  have HL := Lib.hid hl
  have HA := Lib.hid hA
  have HOK := Lib.hid hok
  have HRN := Lib.hid hRN
  have HM1 := Lib.hid hm1
  have HM2 := Lib.hid hm2
  clear hl hA hok h1 h2 hRN hm1 hm2
  go_enter Try.func3, Try.ntmps3
  go_wp2_with fail
  refine hN.mono ?_
  rintro e w1 ⟨rfl, hW, hb1⟩
  have HW := Lib.hid hW
  have HB1 := Lib.hid hb1
  clear hN hW hb1
  go_wp2_with fail
  refine (HRN.out w1).mono ?_
  rintro e w2 ⟨rfl, hb2⟩
  have HS := Lib.hid (SP.start HW.out hb2 HB1.out)
  clear hb2 HW HB1 HRN
  go_wp2_with fail
  generalize hw3 : World.alloc w2 (.cells #[.int .i64 (width : Int), .slice none 0 0, .int .u64 0] 29) = w3 at HS
  clear hw3
  generalize w2.heap.size = q at HS ⊢
  go_loopw [11] (fun s wr => ∃ (k : Nat) (T : Value) (last : Nat) (lw : List Pf) (D : Nat → Prop) (Am : Option Addr) (cm : Nat) (lm : List Pf), k ≤ n ∧ s = .int .i64 k ∧ last ≤ k ∧ lw.map Pf.F = lm.map Pf.F ∧ SP w w.heap.size q width T last lw D Am cm lm last wr) (fun s _ => n - (intOf s).toNat)
  case atStart => exact ⟨0, _, _, _, _, _, _, _, Nat.zero_le _, rfl, Nat.le_refl _, rfl, HS.out⟩
  case round =>
    clear HS
    obtain ⟨k, T, last, lw, D, Am, cm, lm, hk, rfl, hlo, hmm, hP⟩ := hrel
    have HP := Lib.hid hP
    have HMM := Lib.hid hmm
    clear hP hmm
    by_cases hlt : k < n
    · have hkl : k < l.length := by rw [HL.out]; exact hlt
      obtain ⟨bL, oL, rfl, hbL, hcL⟩ := sa_at (HA.out.below HP.out.below) hkl
      have hox := (HOK.out l[k] (List.getElem_mem hkl)).on HP.out.below
      generalize l[k] = a at hcL hox
      have HX := Lib.hid hox
      have hq0 := HP.out.qlt
      have hbA : Below wr.heap.size wr (wr.alloc (.cells (saCs a) 42)) := (Below.refl _ _).alloc (Nat.le_refl _) _
      have HA4 := Lib.hid (ActB.new wr a)
      have HP4 := Lib.hid (HP.out.on hbA)
      have HX4 := Lib.hid (hox.x.on hbA)
      clear hox hbA hkl HP
      go_upto_region 8 with (first | (refine load_act (.tmp 33) rfl hcL ?_) | (refine store_act_new (.tmp 12) (.tmp 34) rfl rfl rfl rfl (saCs_size a) (saCs_one a) ?_) | fail)
      generalize hw4 : World.alloc wr (.cells (saCs a) 42) = w4 at HA4 HP4 HX4 ⊢
      clear hw4 hcL
      have HGR : Hid (Calls Try.prog 10 #[.agg a.x.cs] w4 fun e w' => e = .returned (.bool (greatB a.x.F)) ∧ Below w4.heap.size w4 w') := refGreat_any a.x.F a.x.cs w4 HX4.out.frl
      have hgaq : wr.heap.size = q → False := fun e => by have := hq0; omega
      generalize wr.heap.size = ga at HA4 hgaq ⊢
      have hf := HA4.out.f
      by_cases hg : greatB a.x.F = true
      · rw [hg] at HGR
        go_wp2_with (first | (refine load_elem (.tmp 35) rfl hf ?_) | fail)
        refine HGR.out.mono ?_
        rintro e w5 ⟨rfl, hb5⟩
        have HB5 : Hid (Below w.heap.size w w5) := HP4.out.below.trans (hb5.mono HP4.out.below.size)
        clear hb5 hf
        go_wp2_with (go_at_call 7; refine (awake_any _).mono ?_; rintro e w' ⟨rfl, hb⟩)
        go_ret
        exact ⟨rfl, HB5.out.trans (hb.mono HB5.out.size)⟩
      · have hgf : greatB a.x.F = false := by simpa using hg
        have HXO : Hid (a.x.F.Ok) := great_ok hgf HX.out.wf
        rw [hgf] at HGR
        clear hg hgf
        go_wp2_with (first | (refine load_elem (.tmp 35) rfl hf ?_) | fail)
        refine HGR.out.mono ?_
        rintro e w5 ⟨rfl, hb5⟩
        have HP5 := Lib.hid (HP4.out.on hb5)
        have HA5 := Lib.hid (HA4.out.below hb5)
        have HX5 := Lib.hid (HX4.out.on hb5)
        have hc0 := HA5.out.c0
        clear hb5 hf HP4 HA4 HX4 HGR
        by_cases hack : a.ack = true
        · rw [hack] at hc0
          have hc17 := HA5.out.n
          have m0 := HP5.out.c0
          have m1 := HP5.out.c1
          have m2 := HP5.out.c2
          have hgq : ga ≠ q := fun e => hgaq e
          have hqg : q ≠ ga := fun e => hgaq e.symm
          have hra := refAcked_all Am lm.length cm width last a.n lm w5 rfl HP5.out.cg HP5.out.cm HP5.out.lies.lies (HP5.out.m64 HMM.out).2 (by have := (HP5.out.m64 HMM.out).1; omega) (HP5.out.seqs HMM.out)
          have hdl : ackN last lm.length a.n ≤ lm.length := ackN_le _ _ _ (HP5.out.m64 HMM.out).2
          have hd64 : ackN last lm.length a.n ≤ 64 := Nat.le_trans hdl (HP5.out.m64 HMM.out).1
          have HAK : Hid (∀ W T' lm', SP w w.heap.size q width T last lw D T' cm lm' last W → True) := fun _ _ _ _ => trivial
          clear HAK
          generalize hY : lm.drop (ackN last lm.length a.n) = ys at hra
          have HLL := Lib.hid (HP5.out.len HMM.out)
          generalize hDD : ackN last lm.length a.n = d at hra hdl hd64 hY
          have HY := Lib.hid hY
          have HDD := Lib.hid hDD
          clear hY hDD
          go_wp2_with fail
          refine hra.mono ?_
          rintro e w6 ⟨A6, c6, rfl, hc6, hm6, hK6, hb6⟩
          have HP6 := Lib.hid (HP5.out.on hb6)
          have HA6 := Lib.hid (HA5.out.below hb6)
          have HC6 := Lib.hid hc6
          have HM6 := Lib.hid hm6
          have HK6 := Lib.hid hK6
          have HB6 := Lib.hid hb6
          have hqlt := HP6.out.qlt
          have hglt := HA6.out.lt
          clear m0 m1 m2 hc0 hc17 hra hb6 hc6 hm6 hK6
          have m0 := HP6.out.c0
          have m1 := HP6.out.c1
          have m2 := HP6.out.c2
          have f0 := HP6.out.fr 0
          have f1 := HP6.out.fr 1
          have f2 := HP6.out.fr 2
          have hc17 := HA6.out.n
          unfold rCells
          go_wp2_with fail
          generalize hw7 : World.alloc (World.setCell (World.setCell (World.setCell w6 _ _) _ _) _ _) _ = w7
          have hP7 := HP5.out.mstep (last' := last) HC6.out HM6.out HK6.out HB6.out (fun z hz => HP5.out.lx z (List.mem_of_mem_drop (HY.out ▸ hz))) hw7
          have HP7 := Lib.hid hP7
          have HA7 := Lib.hid (HA6.out.on (mstep_only hw7) hgq)
          clear m0 m1 m2 f0 f1 f2 hc17 hP7 hw7 HP6 HA6 HC6 HM6 HK6 HB6
          have hac := acked_any HP7.out.win a.n
          rw [← HLL.out, HDD.out] at hac
          refine hac.mono ?_
          rintro e w8 ⟨rfl, T8, hW8, ho8, ht8⟩
          have HP8 := Lib.hid (HP7.out.wstep hW8 ho8 (fun b hb => .inl hb) (fun b hb => hb) (fun b hb => .inl (ht8 b hb)))
          have HMM8 : Hid ((lw.drop d).map Pf.F = ys.map Pf.F) := by show _ = _; rw [← HY.out, List.map_drop, List.map_drop, HMM.out]
          have hlo8 : last ≤ k + 1 := by omega
          clear hac hW8 ho8 ht8 HP7 HA7 HP5 HA5 HX5 HY HDD HLL HMM hdl hd64 hqlt hglt
          generalize lw.drop d = lw8 at HP8 HMM8
          go_wp2_with fail
          have hP8 := HP8.out
          have hl8 : lw8.length = ys.length := (hP8.len HMM8.out).symm
          have h64 := (hP8.m64 HMM8.out).1
          have hlast8 := (hP8.m64 HMM8.out).2
          have hfit8 : ys.length ≤ width := by have := hP8.win.fit; omega
          have CWA := Lib.hid (hP8.cwa HMM8.out)
          have CRO := Lib.hid (hP8.cro HMM8.out)
          have CFI := Lib.hid (hP8.cfi HMM8.out)
          have CLA := Lib.hid hP8.cla
          have CRF := Lib.hid (hP8.crf HMM8.out)
          have CW1 := Lib.hid (hP8.cw1 HMM8.out)
          have CW2 := Lib.hid (hP8.cw2 HMM8.out fr most HM1.out HM2.out)
          have CFR := Lib.hid (hP8.cfr HMM8.out fr most)
          have CS1 := Lib.hid (hP8.cs1 HMM8.out)
          have CS2 := Lib.hid (hP8.cs2 HMM8.out fr most)
          have HN8 : Hid (∀ V, Below w8.heap.size w8 V → SP w w.heap.size q width T8 last lw8 D A6 c6 ys last V) := fun V hV => hP8.on hV
          have hql : q < w8.heap.size := hP8.qlt
          have y0 : ∀ V, Below w8.heap.size w8 V → V.cell? ⟨q, 0, none⟩ = some (.int .i64 (width : Int)) := fun V hV => (hV.cell (p := ⟨q, 0, none⟩) hql).trans hP8.c0
          have y1 : ∀ V, Below w8.heap.size w8 V → V.cell? ⟨q, 1, none⟩ = some (.slice A6 ys.length c6) := fun V hV => (hV.cell (p := ⟨q, 1, none⟩) hql).trans hP8.c1
          have y2 : ∀ V, Below w8.heap.size w8 V → V.cell? ⟨q, 2, none⟩ = some (.int .u64 (last : Int)) := fun V hV => (hV.cell (p := ⟨q, 2, none⟩) hql).trans hP8.c2
          have hHD : Below w8.heap.size w8 w8.drew := (Below.refl _ _).drew
          generalize hNM : ys.length = nm at CWA CRO CFI CRF CW2 CFR CS1 CS2 y1 hfit8 h64
          generalize firstN last nm = fs at CFI CRF CW2 CFR CS2
          have hwr : IntKind.i64.wrap ((width : Int) - (nm : Int)) = (width : Int) - (nm : Int) := IntWalk.i64_in _ (by omega)
          clear hP8 hl8 hlast8 hql hNM
          refine wp_region_held_drew (S := fun V => Below w8.heap.size w8 V) (by kernel_rfl) hHD (fun hHeld => ?_)
          clear hHD
          have hHeld : Below w8.heap.size w8 w8.drew := (Below.refl _ _).drew
          generalize w8.drew = X0 at hHeld ⊢
          refine wpAnyH_takeAt (i := 0) (d := 70) (v := ?_) rfl rfl (by kernel_rfl) (by kernel_rfl) (by kernel_rfl) (fun _ _ _ h => h) (Or.inl ⟨by rfl, ?_⟩) hHeld ?_
          rotate_left
          · (intro _ hSw; go_simp; try with_reducible rfl)
          simp only [List.setIfInBounds_toArray, List.set_cons_zero, List.set_cons_succ]
          refine wpAnyH_takeAt (i := 2) (d := 72) (v := ?_) rfl rfl (by kernel_rfl) (by kernel_rfl) (by kernel_rfl) (fun _ _ _ h => h) (Or.inl ⟨by rfl, ?_⟩) hHeld ?_
          rotate_left
          · (intro _ hSw; go_simp; try with_reducible rfl)
          simp only [List.setIfInBounds_toArray, List.set_cons_zero, List.set_cons_succ]
          refine wpAnyH_takeAt (i := 3) (d := 73) (v := ?_) rfl rfl (by kernel_rfl) (by kernel_rfl) (by kernel_rfl) (fun _ _ _ h => h) (Or.inl ⟨by rfl, ?_⟩) hHeld ?_
          rotate_left
          · (intro _ hSw; go_simp; try with_reducible rfl)
          simp only [List.setIfInBounds_toArray, List.set_cons_zero, List.set_cons_succ]
          refine wpAnyH_takeAt (i := 4) (d := 74) (v := ?_) rfl rfl (by kernel_rfl) (by kernel_rfl) (by kernel_rfl) (fun _ _ _ h => h) (Or.inl ⟨by rfl, ?_⟩) hHeld ?_
          rotate_left
          · (intro _ hSw; go_simp; try with_reducible rfl)
          simp only [List.setIfInBounds_toArray, List.set_cons_zero, List.set_cons_succ]
          refine wpAnyH_ready (rs := [1]) (by kernel_rfl) (by simp) ?_
          refine AllReadyH.cons rfl (fun K hK => ?_) AllReadyH.nil
          go_simp
          refine (CWA.out _ hHeld).mono ?_
          rintro e V' ⟨rfl, he⟩
          subst he
          refine hK.out _ _ hHeld (fun _ => ?_)
          clear hK K
          refine wpAnyH_takeAt (i := 5) (d := 75) (v := ?_) rfl rfl (by kernel_rfl) (by kernel_rfl) (by kernel_rfl) (fun _ _ _ h => h) (Or.inl ⟨by rfl, ?_⟩) hHeld ?_
          rotate_left
          · (intro _ hSw; go_simp; try with_reducible rfl)
          simp only [List.setIfInBounds_toArray, List.set_cons_zero, List.set_cons_succ]
          refine wpAnyH_takeAt (i := 6) (d := 76) (v := ?_) rfl rfl (by kernel_rfl) (by kernel_rfl) (by kernel_rfl) (fun _ _ _ h => h) (Or.inl ⟨by rfl, ?_⟩) hHeld ?_
          rotate_left
          · (intro _ hSw; go_simp; try with_reducible rfl)
          simp only [List.setIfInBounds_toArray, List.set_cons_zero, List.set_cons_succ]
          refine wpAnyH_takeAt (i := 7) (d := 77) (v := ?_) rfl rfl (by kernel_rfl) (by kernel_rfl) (by kernel_rfl) (fun _ _ _ h => h) (Or.inl ⟨by rfl, ?_⟩) hHeld ?_
          rotate_left
          · (intro _ hSw; go_simp; try with_reducible rfl)
          simp only [List.setIfInBounds_toArray, List.set_cons_zero, List.set_cons_succ]
          refine wpAnyH_takeAt (i := 9) (d := 79) (v := ?_) rfl rfl (by kernel_rfl) (by kernel_rfl) (by kernel_rfl) (fun _ _ _ h => h) (Or.inl ⟨by rfl, ?_⟩) hHeld ?_
          rotate_left
          · (intro _ hSw; go_simp; try with_reducible rfl)
          simp only [List.setIfInBounds_toArray, List.set_cons_zero, List.set_cons_succ]
          refine wpAnyH_takeAt (i := 10) (d := 80) (v := ?_) rfl rfl (by kernel_rfl) (by kernel_rfl) (by kernel_rfl) (fun _ _ _ h => h) (Or.inl ⟨by rfl, ?_⟩) hHeld ?_
          rotate_left
          · (intro _ hSw; go_simp; try with_reducible rfl)
          simp only [List.setIfInBounds_toArray, List.set_cons_zero, List.set_cons_succ]
          refine wpAnyH_takeAt (i := 11) (d := 81) (v := ?_) rfl rfl (by kernel_rfl) (by kernel_rfl) (by kernel_rfl) (fun _ _ _ h => h) (Or.inl ⟨by rfl, ?_⟩) hHeld ?_
          rotate_left
          · (intro _ hSw; go_simp; try with_reducible rfl)
          simp only [List.setIfInBounds_toArray, List.set_cons_zero, List.set_cons_succ]
          refine wpAnyH_takeAt (i := 12) (d := 82) (v := ?_) rfl rfl (by kernel_rfl) (by kernel_rfl) (by kernel_rfl) (fun _ _ _ h => h) (Or.inl ⟨by rfl, ?_⟩) hHeld ?_
          rotate_left
          · (intro _ hSw; go_simp; try with_reducible rfl)
          simp only [List.setIfInBounds_toArray, List.set_cons_zero, List.set_cons_succ]
          refine wpAnyH_takeAt (i := 13) (d := 83) (v := ?_) rfl rfl (by kernel_rfl) (by kernel_rfl) (by kernel_rfl) (fun _ _ _ h => h) (Or.inl ⟨by rfl, ?_⟩) hHeld ?_
          rotate_left
          · (intro _ hSw; go_simp; try with_reducible rfl)
          simp only [List.setIfInBounds_toArray, List.set_cons_zero, List.set_cons_succ]
          refine wpAnyH_takeAt (i := 14) (d := 84) (v := ?_) rfl rfl (by kernel_rfl) (by kernel_rfl) (by kernel_rfl) (fun _ _ _ h => h) (Or.inl ⟨by rfl, ?_⟩) hHeld ?_
          rotate_left
          · (intro _ hSw; go_simp; try with_reducible rfl)
          simp only [List.setIfInBounds_toArray, List.set_cons_zero, List.set_cons_succ]
          refine wpAnyH_ready (rs := [8]) (by kernel_rfl) (by simp) ?_
          refine AllReadyH.cons rfl (fun K hK => ?_) AllReadyH.nil
          go_simp
          refine (CRO.out _ hHeld).mono ?_
          rintro e V' ⟨rfl, hb⟩
          have hH : Below w8.heap.size w8 V' := hHeld.trans (hb.mono hHeld.size)
          refine hK.out _ _ hH (fun _ => ?_)
          clear hK K hb hHeld
          have hHeld := hH
          clear hH
          refine wpAnyH_takeAt (i := 15) (d := 85) (v := ?_) rfl rfl (by kernel_rfl) (by kernel_rfl) (by kernel_rfl) (fun _ _ _ h => h) (Or.inl ⟨by rfl, ?_⟩) hHeld ?_
          rotate_left
          · (intro _ hSw; go_simp; try with_reducible rfl)
          simp only [List.setIfInBounds_toArray, List.set_cons_zero, List.set_cons_succ]
          refine wpAnyH_takeAt (i := 16) (d := 86) (v := ?_) rfl rfl (by kernel_rfl) (by kernel_rfl) (by kernel_rfl) (fun _ _ _ h => h) (Or.inl ⟨by rfl, ?_⟩) hHeld ?_
          rotate_left
          · (intro _ hSw; go_simp; try with_reducible rfl)
          simp only [List.setIfInBounds_toArray, List.set_cons_zero, List.set_cons_succ]
          refine wpAnyH_takeAt (i := 17) (d := 87) (v := ?_) rfl rfl (by kernel_rfl) (by kernel_rfl) (by kernel_rfl) (fun _ _ _ h => h) (Or.inl ⟨by rfl, ?_⟩) hHeld ?_
          rotate_left
          · (intro _ hSw; go_simp; try with_reducible rfl)
          simp only [List.setIfInBounds_toArray, List.set_cons_zero, List.set_cons_succ]
          refine wpAnyH_takeAt (i := 18) (d := 88) (v := ?_) rfl rfl (by kernel_rfl) (by kernel_rfl) (by kernel_rfl) (fun _ _ _ h => h) (Or.inl ⟨by rfl, ?_⟩) hHeld ?_
          rotate_left
          · (intro _ hSw; go_simp; try with_reducible rfl)
          simp only [List.setIfInBounds_toArray, List.set_cons_zero, List.set_cons_succ]
          refine wpAnyH_takeAt (i := 20) (d := 90) (v := ?_) rfl rfl (by kernel_rfl) (by kernel_rfl) (by kernel_rfl) (fun _ _ _ h => h) (Or.inl ⟨by rfl, ?_⟩) hHeld ?_
          rotate_left
          · (intro _ hSw; go_simp; try with_reducible rfl)
          simp only [List.setIfInBounds_toArray, List.set_cons_zero, List.set_cons_succ]
          refine wpAnyH_ready (rs := [19]) (by kernel_rfl) (by simp) ?_
          refine AllReadyH.cons rfl (fun K hK => ?_) AllReadyH.nil
          go_simp
          refine (CFI.out _ hHeld).mono ?_
          rintro e V' ⟨rfl, hb⟩
          have hH : Below w8.heap.size w8 V' := hHeld.trans (hb.mono hHeld.size)
          refine hK.out _ _ hH (fun _ => ?_)
          clear hK K hb hHeld
          have hHeld := hH
          clear hH
          refine wpAnyH_ready (rs := [21]) (by kernel_rfl) (by simp) ?_
          refine AllReadyH.cons rfl (fun K hK => ?_) AllReadyH.nil
          go_simp
          refine (CRF.out _ hHeld).mono ?_
          rintro e V' ⟨rfl, hb⟩
          have hH : Below w8.heap.size w8 V' := hHeld.trans (hb.mono hHeld.size)
          refine hK.out _ _ hH (fun _ => ?_)
          clear hK K hb hHeld
          have hHeld := hH
          clear hH
          refine wpAnyH_takeAt (i := 22) (d := 92) (v := ?_) rfl rfl (by kernel_rfl) (by kernel_rfl) (by kernel_rfl) (fun _ _ _ h => h) (Or.inl ⟨by rfl, ?_⟩) hHeld ?_
          rotate_left
          · (intro _ hSw; go_simp; try with_reducible rfl)
          simp only [List.setIfInBounds_toArray, List.set_cons_zero, List.set_cons_succ]
          refine wpAnyH_takeAt (i := 23) (d := 93) (v := ?_) rfl rfl (by kernel_rfl) (by kernel_rfl) (by kernel_rfl) (fun _ _ _ h => h) (Or.inl ⟨by rfl, ?_⟩) hHeld ?_
          rotate_left
          · (intro _ hSw; go_simp; try with_reducible rfl)
          simp only [List.setIfInBounds_toArray, List.set_cons_zero, List.set_cons_succ]
          refine wpAnyH_takeAt (i := 24) (d := 94) (v := ?_) rfl rfl (by kernel_rfl) (by kernel_rfl) (by kernel_rfl) (fun _ _ _ h => h) (Or.inl ⟨by rfl, ?_⟩) hHeld ?_
          rotate_left
          · (intro _ hSw; go_simp; try with_reducible rfl)
          simp only [List.setIfInBounds_toArray, List.set_cons_zero, List.set_cons_succ]
          refine wpAnyH_takeAt (i := 25) (d := 95) (v := ?_) rfl rfl (by kernel_rfl) (by kernel_rfl) (by kernel_rfl) (fun _ _ _ h => h) (Or.inl ⟨by rfl, ?_⟩) hHeld ?_
          rotate_left
          · (intro _ hSw; go_simp; try with_reducible rfl)
          simp only [List.setIfInBounds_toArray, List.set_cons_zero, List.set_cons_succ]
          refine wpAnyH_takeAt (i := 27) (d := 97) (v := ?_) rfl rfl (by kernel_rfl) (by kernel_rfl) (by kernel_rfl) (fun _ _ _ h => h) (Or.inl ⟨by rfl, ?_⟩) hHeld ?_
          rotate_left
          · (intro _ hSw; go_simp; try with_reducible rfl)
          simp only [List.setIfInBounds_toArray, List.set_cons_zero, List.set_cons_succ]
          refine wpAnyH_takeAt (i := 28) (d := 98) (v := ?_) rfl rfl (by kernel_rfl) (by kernel_rfl) (by kernel_rfl) (fun _ _ _ h => h) (Or.inl ⟨by rfl, ?_⟩) hHeld ?_
          rotate_left
          · (intro _ hSw; go_simp; try with_reducible rfl)
          simp only [List.setIfInBounds_toArray, List.set_cons_zero, List.set_cons_succ]
          refine wpAnyH_ready (rs := [26]) (by kernel_rfl) (by simp) ?_
          refine AllReadyH.cons rfl (fun K hK => ?_) AllReadyH.nil
          go_simp
          refine (CLA.out _ hHeld).mono ?_
          rintro e V' ⟨rfl, he⟩
          subst he
          refine hK.out _ _ hHeld (fun _ => ?_)
          clear hK K
          refine wpAnyH_takeAt (i := 29) (d := 99) (v := ?_) rfl rfl (by kernel_rfl) (by kernel_rfl) (by kernel_rfl) (fun _ _ _ h => h) (Or.inl ⟨by rfl, ?_⟩) hHeld ?_
          rotate_left
          · (intro _ hSw; go_simp; try with_reducible rfl)
          simp only [List.setIfInBounds_toArray, List.set_cons_zero, List.set_cons_succ]
          refine wpAnyH_takeAt (i := 30) (d := 100) (v := ?_) rfl rfl (by kernel_rfl) (by kernel_rfl) (by kernel_rfl) (fun _ _ _ h => h) (Or.inl ⟨by rfl, ?_⟩) hHeld ?_
          rotate_left
          · (intro _ hSw; go_simp; try with_reducible rfl)
          simp only [List.setIfInBounds_toArray, List.set_cons_zero, List.set_cons_succ]
          refine wpAnyH_takeAt (i := 31) (d := 101) (v := ?_) rfl rfl (by kernel_rfl) (by kernel_rfl) (by kernel_rfl) (fun _ _ _ h => h) (Or.inl ⟨by rfl, ?_⟩) hHeld ?_
          rotate_left
          · (intro _ hSw; go_simp; try with_reducible rfl)
          simp only [List.setIfInBounds_toArray, List.set_cons_zero, List.set_cons_succ]
          refine wpAnyH_takeAt (i := 32) (d := 102) (v := ?_) rfl rfl (by kernel_rfl) (by kernel_rfl) (by kernel_rfl) (fun _ _ _ h => h) (Or.inl ⟨by rfl, ?_⟩) hHeld ?_
          rotate_left
          · (intro _ hSw; go_simp; try with_reducible rfl)
          simp only [List.setIfInBounds_toArray, List.set_cons_zero, List.set_cons_succ]
          refine wpAnyH_takeAt (i := 34) (d := 104) (v := ?_) rfl rfl (by kernel_rfl) (by kernel_rfl) (by kernel_rfl) (fun _ _ _ h => h) (Or.inl ⟨by rfl, ?_⟩) hHeld ?_
          rotate_left
          · (intro _ hSw; go_simp; try with_reducible rfl)
          simp only [List.setIfInBounds_toArray, List.set_cons_zero, List.set_cons_succ]
          refine wpAnyH_takeAt (i := 35) (d := 105) (v := ?_) rfl rfl (by kernel_rfl) (by kernel_rfl) (by kernel_rfl) (fun _ _ _ h => h) (Or.inl ⟨by rfl, ?_⟩) hHeld ?_
          rotate_left
          · (intro _ hSw; go_simp; try with_reducible rfl)
          simp only [List.setIfInBounds_toArray, List.set_cons_zero, List.set_cons_succ]
          refine wpAnyH_ready (rs := [33]) (by kernel_rfl) (by simp) ?_
          refine AllReadyH.cons rfl (fun K hK => ?_) AllReadyH.nil
          go_simp
          refine (CW1.out _ hHeld).mono ?_
          rintro e V3 ⟨A3, n3, c3, rfl, hn3, hO3, hb⟩
          have hH : Below w8.heap.size w8 V3 := hHeld.trans (hb.mono hHeld.size)
          have hs3 := CS1.out _ V3 A3 n3 c3 hHeld hb hO3 hn3.out
          have HS3 := Lib.hid hs3
          clear hs3 hO3 hn3
          refine hK.out _ _ hH (fun _ => ?_)
          clear hK K hb hHeld
          have hHeld := hH
          clear hH
          refine wpAnyH_ready (rs := [36]) (by kernel_rfl) (by simp) ?_
          refine AllReadyH.cons rfl (fun K hK => ?_) AllReadyH.nil
          go_simp
          refine HS3.out.mono ?_
          rintro e V' ⟨rfl, hb⟩
          have hH : Below w8.heap.size w8 V' := hHeld.trans (hb.mono hHeld.size)
          refine hK.out _ _ hH (fun _ => ?_)
          clear hK K hb hHeld
          have hHeld := hH
          clear hH
          refine wpAnyH_takeAt (i := 37) (d := 107) (v := ?_) rfl rfl (by kernel_rfl) (by kernel_rfl) (by kernel_rfl) (fun _ _ _ h => h) (Or.inl ⟨by rfl, ?_⟩) hHeld ?_
          rotate_left
          · (intro _ hSw; go_simp; try with_reducible rfl)
          simp only [List.setIfInBounds_toArray, List.set_cons_zero, List.set_cons_succ]
          refine wpAnyH_takeAt (i := 38) (d := 108) (v := ?_) rfl rfl (by kernel_rfl) (by kernel_rfl) (by kernel_rfl) (fun _ _ _ h => h) (Or.inl ⟨by rfl, ?_⟩) hHeld ?_
          rotate_left
          · (intro _ hSw; go_simp; try with_reducible rfl)
          simp only [List.setIfInBounds_toArray, List.set_cons_zero, List.set_cons_succ]
          refine wpAnyH_takeAt (i := 39) (d := 109) (v := ?_) rfl rfl (by kernel_rfl) (by kernel_rfl) (by kernel_rfl) (fun _ _ _ h => h) (Or.inl ⟨by rfl, ?_⟩) hHeld ?_
          rotate_left
          · (intro _ hSw; go_simp; try with_reducible rfl)
          simp only [List.setIfInBounds_toArray, List.set_cons_zero, List.set_cons_succ]
          refine wpAnyH_takeAt (i := 40) (d := 110) (v := ?_) rfl rfl (by kernel_rfl) (by kernel_rfl) (by kernel_rfl) (fun _ _ _ h => h) (Or.inl ⟨by rfl, ?_⟩) hHeld ?_
          rotate_left
          · (intro _ hSw; go_simp; try with_reducible rfl)
          simp only [List.setIfInBounds_toArray, List.set_cons_zero, List.set_cons_succ]
          refine wpAnyH_takeAt (i := 41) (d := 111) (v := ?_) rfl rfl (by kernel_rfl) (by kernel_rfl) (by kernel_rfl) (fun _ _ _ h => h) (Or.inl ⟨by rfl, ?_⟩) hHeld ?_
          rotate_left
          · (intro _ hSw; go_simp; try with_reducible rfl)
          simp only [List.setIfInBounds_toArray, List.set_cons_zero, List.set_cons_succ]
          refine wpAnyH_takeAt (i := 42) (d := 112) (v := ?_) rfl rfl (by kernel_rfl) (by kernel_rfl) (by kernel_rfl) (fun _ _ _ h => h) (Or.inl ⟨by rfl, ?_⟩) hHeld ?_
          rotate_left
          · (intro _ hSw; go_simp; try with_reducible rfl)
          simp only [List.setIfInBounds_toArray, List.set_cons_zero, List.set_cons_succ]
          refine wpAnyH_takeAt (i := 44) (d := 114) (v := ?_) rfl rfl (by kernel_rfl) (by kernel_rfl) (by kernel_rfl) (fun _ _ _ h => h) (Or.inl ⟨by rfl, ?_⟩) hHeld ?_
          rotate_left
          · (intro _ hSw; go_simp; try with_reducible rfl)
          simp only [List.setIfInBounds_toArray, List.set_cons_zero, List.set_cons_succ]
          refine wpAnyH_takeAt (i := 45) (d := 115) (v := ?_) rfl rfl (by kernel_rfl) (by kernel_rfl) (by kernel_rfl) (fun _ _ _ h => h) (Or.inl ⟨by rfl, ?_⟩) hHeld ?_
          rotate_left
          · (intro _ hSw; go_simp; try with_reducible rfl)
          simp only [List.setIfInBounds_toArray, List.set_cons_zero, List.set_cons_succ]
          refine wpAnyH_takeAt (i := 46) (d := 116) (v := ?_) rfl rfl (by kernel_rfl) (by kernel_rfl) (by kernel_rfl) (fun _ _ _ h => h) (Or.inl ⟨by rfl, ?_⟩) hHeld ?_
          rotate_left
          · (intro _ hSw; go_simp; try with_reducible rfl)
          simp only [List.setIfInBounds_toArray, List.set_cons_zero, List.set_cons_succ]
          refine wpAnyH_ready (rs := [43]) (by kernel_rfl) (by simp) ?_
          refine AllReadyH.cons rfl (fun K hK => ?_) AllReadyH.nil
          go_simp
          refine (CW2.out _ hHeld).mono ?_
          rintro e V4 ⟨A4, n4, c4, rfl, hn4, hO4, hb⟩
          have hH : Below w8.heap.size w8 V4 := hHeld.trans (hb.mono hHeld.size)
          have HS4 : Hid (∀ V2 B n' c', Below V4.heap.size V4 V2 → V2.ownsRow V4.heap.size 40 16 (.slice B n' c') n' (flat encPf ((ys.drop (fr - fs)).take most.toNat)) → ((ys.drop (fr - fs)).take most.toNat).length = n' → Calls Try.prog 20 #[.slice A4 n4 c4, .slice B n' c'] V2 fun e w' => e = .returned (.bool true) ∧ Below V2.heap.size V2 w') := by
            intro V2 B n' c' h2 h3 h4
            exact CS2.out _ V4 V2 A4 B n4 c4 n' c' hHeld hb h2 hO4 hn4.out h3 h4
          clear hO4 hn4
          refine hK.out _ _ hH (fun _ => ?_)
          clear hK K hb hHeld
          have hHeld := hH
          clear hH
          refine wpAnyH_ready (rs := [47]) (by kernel_rfl) (by simp) ?_
          refine AllReadyH.cons rfl (fun K hK => ?_) AllReadyH.nil
          go_simp
          refine (CFR.out _ hHeld).mono ?_
          rintro e V5 ⟨A5, n5, c5, rfl, hn5, hO5, hb⟩
          have hH : Below w8.heap.size w8 V5 := hHeld.trans (hb.mono hHeld.size)
          have HS5 := Lib.hid (HS4.out V5 A5 n5 c5 hb hO5 hn5.out)
          clear hO5 hn5
          refine hK.out _ _ hH (fun _ => ?_)
          clear hK K hb hHeld
          have hHeld := hH
          clear hH
          refine wpAnyH_ready (rs := [48]) (by kernel_rfl) (by simp) ?_
          refine AllReadyH.cons rfl (fun K hK => ?_) AllReadyH.nil
          go_simp
          refine HS5.out.mono ?_
          rintro e V' ⟨rfl, hb⟩
          have hH : Below w8.heap.size w8 V' := hHeld.trans (hb.mono hHeld.size)
          refine hK.out _ _ hH (fun _ => ?_)
          clear hK K hb hHeld
          have hHeld := hH
          clear hH
          refine wpAnyH_takeAt (i := 49) (d := 119) (v := ?_) rfl rfl (by kernel_rfl) (by kernel_rfl) (by kernel_rfl) (fun _ _ _ h => h) (Or.inl ⟨by rfl, ?_⟩) hHeld ?_
          rotate_left
          · (intro _ hSw; go_simp; try with_reducible rfl)
          simp only [List.setIfInBounds_toArray, List.set_cons_zero, List.set_cons_succ]
          refine wpAnyH_takeAt (i := 50) (d := 120) (v := ?_) rfl rfl (by kernel_rfl) (by kernel_rfl) (by kernel_rfl) (fun _ _ _ h => h) (Or.inl ⟨by rfl, ?_⟩) hHeld ?_
          rotate_left
          · (intro _ hSw; go_simp; try with_reducible rfl)
          simp only [List.setIfInBounds_toArray, List.set_cons_zero, List.set_cons_succ]
          refine wpAnyH_done (by kernel_rfl) ?_ _
          have HP9 := Lib.hid (HN8.out _ hHeld)
          clear hHeld y0 y1 y2 CWA CRO CFI CLA CRF CW1 CW2 CFR CS1 CS2 HS3 HS4 HS5 HN8 hwr
          go_wp2
          go_roundw
          case rel => exact ⟨k + 1, T8, last, lw8, D, A6, c6, ys, by omega, by go_num, hlo8, HMM8.out, HP9.out⟩
          case measure => simp [intOf]; omega
        · have hackf : a.ack = false := by simpa using hack
          rw [hackf] at hc0
          have hf := HA5.out.f
          have m0 := HP5.out.c0
          have m1 := HP5.out.c1
          have m2 := HP5.out.c2
          have hgq : ga ≠ q := fun e => hgaq e
          have hqg : q ≠ ga := fun e => hgaq e.symm
          obtain ⟨kk, ys, last', hlo', hys, hRef, hPut⟩ := HP5.out.put_both HMM.out a.x HX5.out HXO.out (by omega)
          have HYS := Lib.hid hys
          have HREF := Lib.hid hRef
          have HPUT := Lib.hid hPut
          clear hys hRef hPut hack
          go_wp2_with (first | (refine load_elem (.tmp 57) rfl hf ?_) | fail)
          refine HREF.out.mono ?_
          rintro e w6 ⟨A6, c6, rfl, hc6, hm6, hK6, hb6⟩
          have HP6 := Lib.hid (HP5.out.on hb6)
          have HA6 := Lib.hid (HA5.out.below hb6)
          have HX6 := Lib.hid (HX5.out.on hb6)
          have HC6 := Lib.hid hc6
          have HM6 := Lib.hid hm6
          have HK6 := Lib.hid hK6
          have HB6 := Lib.hid hb6
          have hqlt := HP6.out.qlt
          have hglt := HA6.out.lt
          clear m0 m1 m2 hc0 hf hb6 hc6 hm6 hK6 HREF
          have m0 := HP6.out.c0
          have m1 := HP6.out.c1
          have m2 := HP6.out.c2
          have f0 := HP6.out.fr 0
          have f1 := HP6.out.fr 1
          have f2 := HP6.out.fr 2
          unfold rCells
          go_upto_region 17 with fail
          generalize hw7 : World.alloc (World.setCell (World.setCell (World.setCell w6 _ _) _ _) _ _) _ = w7
          have HP7 := Lib.hid (HP5.out.mstep (last' := last') HC6.out HM6.out HK6.out HB6.out HYS.out hw7)
          have HA7 := Lib.hid (HA6.out.on (mstep_only hw7) hgq)
          have HX7 : Hid (a.x.X w7 (fun k => w.heap.size ≤ k)) := HX6.out.kept ((mstep_only hw7).mono fun k e => e ▸ HP5.out.hq)
          have hf7 := HA7.out.f
          have HPT := Lib.hid (HPUT.out w7 A6 c6 HP7.out HX7.out)
          clear m0 m1 m2 f0 f1 f2 hw7 HP6 HA6 HC6 HM6 HK6 HB6 HX6 HPUT HP7 HA7 HX7 HP5 HA5 HX5 HYS HMM
          go_wp2_with (first | (refine load_elem (.tmp 64) rfl hf7 ?_) | (refine wpList_build1 rfl (x := .tmp 65) (y := a.x) rfl rfl ?_) | fail)
          refine HPT.out.mono ?_
          rintro e w8 ⟨rfl, T8, lw8, D8, hP8, hmm8⟩
          have HP8 := Lib.hid hP8
          have HMM8 := Lib.hid hmm8
          have hlo8 : last' ≤ k + 1 := by omega
          clear HPT hP8 hmm8 hf7 hqlt hglt
          go_wp2_with fail
          have hP8 := HP8.out
          have hl8 : lw8.length = ys.length := (hP8.len HMM8.out).symm
          have h64 := (hP8.m64 HMM8.out).1
          have hlast8 := (hP8.m64 HMM8.out).2
          have hfit8 : ys.length ≤ width := by have := hP8.win.fit; omega
          have CWA := Lib.hid (hP8.cwa HMM8.out)
          have CRO := Lib.hid (hP8.cro HMM8.out)
          have CFI := Lib.hid (hP8.cfi HMM8.out)
          have CLA := Lib.hid hP8.cla
          have CRF := Lib.hid (hP8.crf HMM8.out)
          have CW1 := Lib.hid (hP8.cw1 HMM8.out)
          have CW2 := Lib.hid (hP8.cw2 HMM8.out fr most HM1.out HM2.out)
          have CFR := Lib.hid (hP8.cfr HMM8.out fr most)
          have CS1 := Lib.hid (hP8.cs1 HMM8.out)
          have CS2 := Lib.hid (hP8.cs2 HMM8.out fr most)
          have HN8 : Hid (∀ V, Below w8.heap.size w8 V → SP w w.heap.size q width T8 last' lw8 D8 A6 c6 ys last' V) := fun V hV => hP8.on hV
          have hql : q < w8.heap.size := hP8.qlt
          have y0 : ∀ V, Below w8.heap.size w8 V → V.cell? ⟨q, 0, none⟩ = some (.int .i64 (width : Int)) := fun V hV => (hV.cell (p := ⟨q, 0, none⟩) hql).trans hP8.c0
          have y1 : ∀ V, Below w8.heap.size w8 V → V.cell? ⟨q, 1, none⟩ = some (.slice A6 ys.length c6) := fun V hV => (hV.cell (p := ⟨q, 1, none⟩) hql).trans hP8.c1
          have y2 : ∀ V, Below w8.heap.size w8 V → V.cell? ⟨q, 2, none⟩ = some (.int .u64 (last' : Int)) := fun V hV => (hV.cell (p := ⟨q, 2, none⟩) hql).trans hP8.c2
          have hHD : Below w8.heap.size w8 w8.drew := (Below.refl _ _).drew
          generalize hNM : ys.length = nm at CWA CRO CFI CRF CW2 CFR CS1 CS2 y1 hfit8 h64
          generalize firstN last' nm = fs at CFI CRF CW2 CFR CS2
          have hwr : IntKind.i64.wrap ((width : Int) - (nm : Int)) = (width : Int) - (nm : Int) := IntWalk.i64_in _ (by omega)
          clear hP8 hl8 hlast8 hql hNM
          refine wp_region_held_drew (S := fun V => Below w8.heap.size w8 V) (by kernel_rfl) hHD (fun hHeld => ?_)
          clear hHD
          have hHeld : Below w8.heap.size w8 w8.drew := (Below.refl _ _).drew
          generalize w8.drew = X0 at hHeld ⊢
          refine wpAnyH_takeAt (i := 0) (d := 70) (v := ?_) rfl rfl (by kernel_rfl) (by kernel_rfl) (by kernel_rfl) (fun _ _ _ h => h) (Or.inl ⟨by rfl, ?_⟩) hHeld ?_
          rotate_left
          · (intro _ hSw; go_simp; try with_reducible rfl)
          simp only [List.setIfInBounds_toArray, List.set_cons_zero, List.set_cons_succ]
          refine wpAnyH_takeAt (i := 2) (d := 72) (v := ?_) rfl rfl (by kernel_rfl) (by kernel_rfl) (by kernel_rfl) (fun _ _ _ h => h) (Or.inl ⟨by rfl, ?_⟩) hHeld ?_
          rotate_left
          · (intro _ hSw; go_simp; try with_reducible rfl)
          simp only [List.setIfInBounds_toArray, List.set_cons_zero, List.set_cons_succ]
          refine wpAnyH_takeAt (i := 3) (d := 73) (v := ?_) rfl rfl (by kernel_rfl) (by kernel_rfl) (by kernel_rfl) (fun _ _ _ h => h) (Or.inl ⟨by rfl, ?_⟩) hHeld ?_
          rotate_left
          · (intro _ hSw; go_simp; try with_reducible rfl)
          simp only [List.setIfInBounds_toArray, List.set_cons_zero, List.set_cons_succ]
          refine wpAnyH_takeAt (i := 4) (d := 74) (v := ?_) rfl rfl (by kernel_rfl) (by kernel_rfl) (by kernel_rfl) (fun _ _ _ h => h) (Or.inl ⟨by rfl, ?_⟩) hHeld ?_
          rotate_left
          · (intro _ hSw; go_simp; try with_reducible rfl)
          simp only [List.setIfInBounds_toArray, List.set_cons_zero, List.set_cons_succ]
          refine wpAnyH_ready (rs := [1]) (by kernel_rfl) (by simp) ?_
          refine AllReadyH.cons rfl (fun K hK => ?_) AllReadyH.nil
          go_simp
          refine (CWA.out _ hHeld).mono ?_
          rintro e V' ⟨rfl, he⟩
          subst he
          refine hK.out _ _ hHeld (fun _ => ?_)
          clear hK K
          refine wpAnyH_takeAt (i := 5) (d := 75) (v := ?_) rfl rfl (by kernel_rfl) (by kernel_rfl) (by kernel_rfl) (fun _ _ _ h => h) (Or.inl ⟨by rfl, ?_⟩) hHeld ?_
          rotate_left
          · (intro _ hSw; go_simp; try with_reducible rfl)
          simp only [List.setIfInBounds_toArray, List.set_cons_zero, List.set_cons_succ]
          refine wpAnyH_takeAt (i := 6) (d := 76) (v := ?_) rfl rfl (by kernel_rfl) (by kernel_rfl) (by kernel_rfl) (fun _ _ _ h => h) (Or.inl ⟨by rfl, ?_⟩) hHeld ?_
          rotate_left
          · (intro _ hSw; go_simp; try with_reducible rfl)
          simp only [List.setIfInBounds_toArray, List.set_cons_zero, List.set_cons_succ]
          refine wpAnyH_takeAt (i := 7) (d := 77) (v := ?_) rfl rfl (by kernel_rfl) (by kernel_rfl) (by kernel_rfl) (fun _ _ _ h => h) (Or.inl ⟨by rfl, ?_⟩) hHeld ?_
          rotate_left
          · (intro _ hSw; go_simp; try with_reducible rfl)
          simp only [List.setIfInBounds_toArray, List.set_cons_zero, List.set_cons_succ]
          refine wpAnyH_takeAt (i := 9) (d := 79) (v := ?_) rfl rfl (by kernel_rfl) (by kernel_rfl) (by kernel_rfl) (fun _ _ _ h => h) (Or.inl ⟨by rfl, ?_⟩) hHeld ?_
          rotate_left
          · (intro _ hSw; go_simp; try with_reducible rfl)
          simp only [List.setIfInBounds_toArray, List.set_cons_zero, List.set_cons_succ]
          refine wpAnyH_takeAt (i := 10) (d := 80) (v := ?_) rfl rfl (by kernel_rfl) (by kernel_rfl) (by kernel_rfl) (fun _ _ _ h => h) (Or.inl ⟨by rfl, ?_⟩) hHeld ?_
          rotate_left
          · (intro _ hSw; go_simp; try with_reducible rfl)
          simp only [List.setIfInBounds_toArray, List.set_cons_zero, List.set_cons_succ]
          refine wpAnyH_takeAt (i := 11) (d := 81) (v := ?_) rfl rfl (by kernel_rfl) (by kernel_rfl) (by kernel_rfl) (fun _ _ _ h => h) (Or.inl ⟨by rfl, ?_⟩) hHeld ?_
          rotate_left
          · (intro _ hSw; go_simp; try with_reducible rfl)
          simp only [List.setIfInBounds_toArray, List.set_cons_zero, List.set_cons_succ]
          refine wpAnyH_takeAt (i := 12) (d := 82) (v := ?_) rfl rfl (by kernel_rfl) (by kernel_rfl) (by kernel_rfl) (fun _ _ _ h => h) (Or.inl ⟨by rfl, ?_⟩) hHeld ?_
          rotate_left
          · (intro _ hSw; go_simp; try with_reducible rfl)
          simp only [List.setIfInBounds_toArray, List.set_cons_zero, List.set_cons_succ]
          refine wpAnyH_takeAt (i := 13) (d := 83) (v := ?_) rfl rfl (by kernel_rfl) (by kernel_rfl) (by kernel_rfl) (fun _ _ _ h => h) (Or.inl ⟨by rfl, ?_⟩) hHeld ?_
          rotate_left
          · (intro _ hSw; go_simp; try with_reducible rfl)
          simp only [List.setIfInBounds_toArray, List.set_cons_zero, List.set_cons_succ]
          refine wpAnyH_takeAt (i := 14) (d := 84) (v := ?_) rfl rfl (by kernel_rfl) (by kernel_rfl) (by kernel_rfl) (fun _ _ _ h => h) (Or.inl ⟨by rfl, ?_⟩) hHeld ?_
          rotate_left
          · (intro _ hSw; go_simp; try with_reducible rfl)
          simp only [List.setIfInBounds_toArray, List.set_cons_zero, List.set_cons_succ]
          refine wpAnyH_ready (rs := [8]) (by kernel_rfl) (by simp) ?_
          refine AllReadyH.cons rfl (fun K hK => ?_) AllReadyH.nil
          go_simp
          refine (CRO.out _ hHeld).mono ?_
          rintro e V' ⟨rfl, hb⟩
          have hH : Below w8.heap.size w8 V' := hHeld.trans (hb.mono hHeld.size)
          refine hK.out _ _ hH (fun _ => ?_)
          clear hK K hb hHeld
          have hHeld := hH
          clear hH
          refine wpAnyH_takeAt (i := 15) (d := 85) (v := ?_) rfl rfl (by kernel_rfl) (by kernel_rfl) (by kernel_rfl) (fun _ _ _ h => h) (Or.inl ⟨by rfl, ?_⟩) hHeld ?_
          rotate_left
          · (intro _ hSw; go_simp; try with_reducible rfl)
          simp only [List.setIfInBounds_toArray, List.set_cons_zero, List.set_cons_succ]
          refine wpAnyH_takeAt (i := 16) (d := 86) (v := ?_) rfl rfl (by kernel_rfl) (by kernel_rfl) (by kernel_rfl) (fun _ _ _ h => h) (Or.inl ⟨by rfl, ?_⟩) hHeld ?_
          rotate_left
          · (intro _ hSw; go_simp; try with_reducible rfl)
          simp only [List.setIfInBounds_toArray, List.set_cons_zero, List.set_cons_succ]
          refine wpAnyH_takeAt (i := 17) (d := 87) (v := ?_) rfl rfl (by kernel_rfl) (by kernel_rfl) (by kernel_rfl) (fun _ _ _ h => h) (Or.inl ⟨by rfl, ?_⟩) hHeld ?_
          rotate_left
          · (intro _ hSw; go_simp; try with_reducible rfl)
          simp only [List.setIfInBounds_toArray, List.set_cons_zero, List.set_cons_succ]
          refine wpAnyH_takeAt (i := 18) (d := 88) (v := ?_) rfl rfl (by kernel_rfl) (by kernel_rfl) (by kernel_rfl) (fun _ _ _ h => h) (Or.inl ⟨by rfl, ?_⟩) hHeld ?_
          rotate_left
          · (intro _ hSw; go_simp; try with_reducible rfl)
          simp only [List.setIfInBounds_toArray, List.set_cons_zero, List.set_cons_succ]
          refine wpAnyH_takeAt (i := 20) (d := 90) (v := ?_) rfl rfl (by kernel_rfl) (by kernel_rfl) (by kernel_rfl) (fun _ _ _ h => h) (Or.inl ⟨by rfl, ?_⟩) hHeld ?_
          rotate_left
          · (intro _ hSw; go_simp; try with_reducible rfl)
          simp only [List.setIfInBounds_toArray, List.set_cons_zero, List.set_cons_succ]
          refine wpAnyH_ready (rs := [19]) (by kernel_rfl) (by simp) ?_
          refine AllReadyH.cons rfl (fun K hK => ?_) AllReadyH.nil
          go_simp
          refine (CFI.out _ hHeld).mono ?_
          rintro e V' ⟨rfl, hb⟩
          have hH : Below w8.heap.size w8 V' := hHeld.trans (hb.mono hHeld.size)
          refine hK.out _ _ hH (fun _ => ?_)
          clear hK K hb hHeld
          have hHeld := hH
          clear hH
          refine wpAnyH_ready (rs := [21]) (by kernel_rfl) (by simp) ?_
          refine AllReadyH.cons rfl (fun K hK => ?_) AllReadyH.nil
          go_simp
          refine (CRF.out _ hHeld).mono ?_
          rintro e V' ⟨rfl, hb⟩
          have hH : Below w8.heap.size w8 V' := hHeld.trans (hb.mono hHeld.size)
          refine hK.out _ _ hH (fun _ => ?_)
          clear hK K hb hHeld
          have hHeld := hH
          clear hH
          refine wpAnyH_takeAt (i := 22) (d := 92) (v := ?_) rfl rfl (by kernel_rfl) (by kernel_rfl) (by kernel_rfl) (fun _ _ _ h => h) (Or.inl ⟨by rfl, ?_⟩) hHeld ?_
          rotate_left
          · (intro _ hSw; go_simp; try with_reducible rfl)
          simp only [List.setIfInBounds_toArray, List.set_cons_zero, List.set_cons_succ]
          refine wpAnyH_takeAt (i := 23) (d := 93) (v := ?_) rfl rfl (by kernel_rfl) (by kernel_rfl) (by kernel_rfl) (fun _ _ _ h => h) (Or.inl ⟨by rfl, ?_⟩) hHeld ?_
          rotate_left
          · (intro _ hSw; go_simp; try with_reducible rfl)
          simp only [List.setIfInBounds_toArray, List.set_cons_zero, List.set_cons_succ]
          refine wpAnyH_takeAt (i := 24) (d := 94) (v := ?_) rfl rfl (by kernel_rfl) (by kernel_rfl) (by kernel_rfl) (fun _ _ _ h => h) (Or.inl ⟨by rfl, ?_⟩) hHeld ?_
          rotate_left
          · (intro _ hSw; go_simp; try with_reducible rfl)
          simp only [List.setIfInBounds_toArray, List.set_cons_zero, List.set_cons_succ]
          refine wpAnyH_takeAt (i := 25) (d := 95) (v := ?_) rfl rfl (by kernel_rfl) (by kernel_rfl) (by kernel_rfl) (fun _ _ _ h => h) (Or.inl ⟨by rfl, ?_⟩) hHeld ?_
          rotate_left
          · (intro _ hSw; go_simp; try with_reducible rfl)
          simp only [List.setIfInBounds_toArray, List.set_cons_zero, List.set_cons_succ]
          refine wpAnyH_takeAt (i := 27) (d := 97) (v := ?_) rfl rfl (by kernel_rfl) (by kernel_rfl) (by kernel_rfl) (fun _ _ _ h => h) (Or.inl ⟨by rfl, ?_⟩) hHeld ?_
          rotate_left
          · (intro _ hSw; go_simp; try with_reducible rfl)
          simp only [List.setIfInBounds_toArray, List.set_cons_zero, List.set_cons_succ]
          refine wpAnyH_takeAt (i := 28) (d := 98) (v := ?_) rfl rfl (by kernel_rfl) (by kernel_rfl) (by kernel_rfl) (fun _ _ _ h => h) (Or.inl ⟨by rfl, ?_⟩) hHeld ?_
          rotate_left
          · (intro _ hSw; go_simp; try with_reducible rfl)
          simp only [List.setIfInBounds_toArray, List.set_cons_zero, List.set_cons_succ]
          refine wpAnyH_ready (rs := [26]) (by kernel_rfl) (by simp) ?_
          refine AllReadyH.cons rfl (fun K hK => ?_) AllReadyH.nil
          go_simp
          refine (CLA.out _ hHeld).mono ?_
          rintro e V' ⟨rfl, he⟩
          subst he
          refine hK.out _ _ hHeld (fun _ => ?_)
          clear hK K
          refine wpAnyH_takeAt (i := 29) (d := 99) (v := ?_) rfl rfl (by kernel_rfl) (by kernel_rfl) (by kernel_rfl) (fun _ _ _ h => h) (Or.inl ⟨by rfl, ?_⟩) hHeld ?_
          rotate_left
          · (intro _ hSw; go_simp; try with_reducible rfl)
          simp only [List.setIfInBounds_toArray, List.set_cons_zero, List.set_cons_succ]
          refine wpAnyH_takeAt (i := 30) (d := 100) (v := ?_) rfl rfl (by kernel_rfl) (by kernel_rfl) (by kernel_rfl) (fun _ _ _ h => h) (Or.inl ⟨by rfl, ?_⟩) hHeld ?_
          rotate_left
          · (intro _ hSw; go_simp; try with_reducible rfl)
          simp only [List.setIfInBounds_toArray, List.set_cons_zero, List.set_cons_succ]
          refine wpAnyH_takeAt (i := 31) (d := 101) (v := ?_) rfl rfl (by kernel_rfl) (by kernel_rfl) (by kernel_rfl) (fun _ _ _ h => h) (Or.inl ⟨by rfl, ?_⟩) hHeld ?_
          rotate_left
          · (intro _ hSw; go_simp; try with_reducible rfl)
          simp only [List.setIfInBounds_toArray, List.set_cons_zero, List.set_cons_succ]
          refine wpAnyH_takeAt (i := 32) (d := 102) (v := ?_) rfl rfl (by kernel_rfl) (by kernel_rfl) (by kernel_rfl) (fun _ _ _ h => h) (Or.inl ⟨by rfl, ?_⟩) hHeld ?_
          rotate_left
          · (intro _ hSw; go_simp; try with_reducible rfl)
          simp only [List.setIfInBounds_toArray, List.set_cons_zero, List.set_cons_succ]
          refine wpAnyH_takeAt (i := 34) (d := 104) (v := ?_) rfl rfl (by kernel_rfl) (by kernel_rfl) (by kernel_rfl) (fun _ _ _ h => h) (Or.inl ⟨by rfl, ?_⟩) hHeld ?_
          rotate_left
          · (intro _ hSw; go_simp; try with_reducible rfl)
          simp only [List.setIfInBounds_toArray, List.set_cons_zero, List.set_cons_succ]
          refine wpAnyH_takeAt (i := 35) (d := 105) (v := ?_) rfl rfl (by kernel_rfl) (by kernel_rfl) (by kernel_rfl) (fun _ _ _ h => h) (Or.inl ⟨by rfl, ?_⟩) hHeld ?_
          rotate_left
          · (intro _ hSw; go_simp; try with_reducible rfl)
          simp only [List.setIfInBounds_toArray, List.set_cons_zero, List.set_cons_succ]
          refine wpAnyH_ready (rs := [33]) (by kernel_rfl) (by simp) ?_
          refine AllReadyH.cons rfl (fun K hK => ?_) AllReadyH.nil
          go_simp
          refine (CW1.out _ hHeld).mono ?_
          rintro e V3 ⟨A3, n3, c3, rfl, hn3, hO3, hb⟩
          have hH : Below w8.heap.size w8 V3 := hHeld.trans (hb.mono hHeld.size)
          have hs3 := CS1.out _ V3 A3 n3 c3 hHeld hb hO3 hn3.out
          have HS3 := Lib.hid hs3
          clear hs3 hO3 hn3
          refine hK.out _ _ hH (fun _ => ?_)
          clear hK K hb hHeld
          have hHeld := hH
          clear hH
          refine wpAnyH_ready (rs := [36]) (by kernel_rfl) (by simp) ?_
          refine AllReadyH.cons rfl (fun K hK => ?_) AllReadyH.nil
          go_simp
          refine HS3.out.mono ?_
          rintro e V' ⟨rfl, hb⟩
          have hH : Below w8.heap.size w8 V' := hHeld.trans (hb.mono hHeld.size)
          refine hK.out _ _ hH (fun _ => ?_)
          clear hK K hb hHeld
          have hHeld := hH
          clear hH
          refine wpAnyH_takeAt (i := 37) (d := 107) (v := ?_) rfl rfl (by kernel_rfl) (by kernel_rfl) (by kernel_rfl) (fun _ _ _ h => h) (Or.inl ⟨by rfl, ?_⟩) hHeld ?_
          rotate_left
          · (intro _ hSw; go_simp; try with_reducible rfl)
          simp only [List.setIfInBounds_toArray, List.set_cons_zero, List.set_cons_succ]
          refine wpAnyH_takeAt (i := 38) (d := 108) (v := ?_) rfl rfl (by kernel_rfl) (by kernel_rfl) (by kernel_rfl) (fun _ _ _ h => h) (Or.inl ⟨by rfl, ?_⟩) hHeld ?_
          rotate_left
          · (intro _ hSw; go_simp; try with_reducible rfl)
          simp only [List.setIfInBounds_toArray, List.set_cons_zero, List.set_cons_succ]
          refine wpAnyH_takeAt (i := 39) (d := 109) (v := ?_) rfl rfl (by kernel_rfl) (by kernel_rfl) (by kernel_rfl) (fun _ _ _ h => h) (Or.inl ⟨by rfl, ?_⟩) hHeld ?_
          rotate_left
          · (intro _ hSw; go_simp; try with_reducible rfl)
          simp only [List.setIfInBounds_toArray, List.set_cons_zero, List.set_cons_succ]
          refine wpAnyH_takeAt (i := 40) (d := 110) (v := ?_) rfl rfl (by kernel_rfl) (by kernel_rfl) (by kernel_rfl) (fun _ _ _ h => h) (Or.inl ⟨by rfl, ?_⟩) hHeld ?_
          rotate_left
          · (intro _ hSw; go_simp; try with_reducible rfl)
          simp only [List.setIfInBounds_toArray, List.set_cons_zero, List.set_cons_succ]
          refine wpAnyH_takeAt (i := 41) (d := 111) (v := ?_) rfl rfl (by kernel_rfl) (by kernel_rfl) (by kernel_rfl) (fun _ _ _ h => h) (Or.inl ⟨by rfl, ?_⟩) hHeld ?_
          rotate_left
          · (intro _ hSw; go_simp; try with_reducible rfl)
          simp only [List.setIfInBounds_toArray, List.set_cons_zero, List.set_cons_succ]
          refine wpAnyH_takeAt (i := 42) (d := 112) (v := ?_) rfl rfl (by kernel_rfl) (by kernel_rfl) (by kernel_rfl) (fun _ _ _ h => h) (Or.inl ⟨by rfl, ?_⟩) hHeld ?_
          rotate_left
          · (intro _ hSw; go_simp; try with_reducible rfl)
          simp only [List.setIfInBounds_toArray, List.set_cons_zero, List.set_cons_succ]
          refine wpAnyH_takeAt (i := 44) (d := 114) (v := ?_) rfl rfl (by kernel_rfl) (by kernel_rfl) (by kernel_rfl) (fun _ _ _ h => h) (Or.inl ⟨by rfl, ?_⟩) hHeld ?_
          rotate_left
          · (intro _ hSw; go_simp; try with_reducible rfl)
          simp only [List.setIfInBounds_toArray, List.set_cons_zero, List.set_cons_succ]
          refine wpAnyH_takeAt (i := 45) (d := 115) (v := ?_) rfl rfl (by kernel_rfl) (by kernel_rfl) (by kernel_rfl) (fun _ _ _ h => h) (Or.inl ⟨by rfl, ?_⟩) hHeld ?_
          rotate_left
          · (intro _ hSw; go_simp; try with_reducible rfl)
          simp only [List.setIfInBounds_toArray, List.set_cons_zero, List.set_cons_succ]
          refine wpAnyH_takeAt (i := 46) (d := 116) (v := ?_) rfl rfl (by kernel_rfl) (by kernel_rfl) (by kernel_rfl) (fun _ _ _ h => h) (Or.inl ⟨by rfl, ?_⟩) hHeld ?_
          rotate_left
          · (intro _ hSw; go_simp; try with_reducible rfl)
          simp only [List.setIfInBounds_toArray, List.set_cons_zero, List.set_cons_succ]
          refine wpAnyH_ready (rs := [43]) (by kernel_rfl) (by simp) ?_
          refine AllReadyH.cons rfl (fun K hK => ?_) AllReadyH.nil
          go_simp
          refine (CW2.out _ hHeld).mono ?_
          rintro e V4 ⟨A4, n4, c4, rfl, hn4, hO4, hb⟩
          have hH : Below w8.heap.size w8 V4 := hHeld.trans (hb.mono hHeld.size)
          have HS4 : Hid (∀ V2 B n' c', Below V4.heap.size V4 V2 → V2.ownsRow V4.heap.size 40 16 (.slice B n' c') n' (flat encPf ((ys.drop (fr - fs)).take most.toNat)) → ((ys.drop (fr - fs)).take most.toNat).length = n' → Calls Try.prog 20 #[.slice A4 n4 c4, .slice B n' c'] V2 fun e w' => e = .returned (.bool true) ∧ Below V2.heap.size V2 w') := by
            intro V2 B n' c' h2 h3 h4
            exact CS2.out _ V4 V2 A4 B n4 c4 n' c' hHeld hb h2 hO4 hn4.out h3 h4
          clear hO4 hn4
          refine hK.out _ _ hH (fun _ => ?_)
          clear hK K hb hHeld
          have hHeld := hH
          clear hH
          refine wpAnyH_ready (rs := [47]) (by kernel_rfl) (by simp) ?_
          refine AllReadyH.cons rfl (fun K hK => ?_) AllReadyH.nil
          go_simp
          refine (CFR.out _ hHeld).mono ?_
          rintro e V5 ⟨A5, n5, c5, rfl, hn5, hO5, hb⟩
          have hH : Below w8.heap.size w8 V5 := hHeld.trans (hb.mono hHeld.size)
          have HS5 := Lib.hid (HS4.out V5 A5 n5 c5 hb hO5 hn5.out)
          clear hO5 hn5
          refine hK.out _ _ hH (fun _ => ?_)
          clear hK K hb hHeld
          have hHeld := hH
          clear hH
          refine wpAnyH_ready (rs := [48]) (by kernel_rfl) (by simp) ?_
          refine AllReadyH.cons rfl (fun K hK => ?_) AllReadyH.nil
          go_simp
          refine HS5.out.mono ?_
          rintro e V' ⟨rfl, hb⟩
          have hH : Below w8.heap.size w8 V' := hHeld.trans (hb.mono hHeld.size)
          refine hK.out _ _ hH (fun _ => ?_)
          clear hK K hb hHeld
          have hHeld := hH
          clear hH
          refine wpAnyH_takeAt (i := 49) (d := 119) (v := ?_) rfl rfl (by kernel_rfl) (by kernel_rfl) (by kernel_rfl) (fun _ _ _ h => h) (Or.inl ⟨by rfl, ?_⟩) hHeld ?_
          rotate_left
          · (intro _ hSw; go_simp; try with_reducible rfl)
          simp only [List.setIfInBounds_toArray, List.set_cons_zero, List.set_cons_succ]
          refine wpAnyH_takeAt (i := 50) (d := 120) (v := ?_) rfl rfl (by kernel_rfl) (by kernel_rfl) (by kernel_rfl) (fun _ _ _ h => h) (Or.inl ⟨by rfl, ?_⟩) hHeld ?_
          rotate_left
          · (intro _ hSw; go_simp; try with_reducible rfl)
          simp only [List.setIfInBounds_toArray, List.set_cons_zero, List.set_cons_succ]
          refine wpAnyH_done (by kernel_rfl) ?_ _
          have HP9 := Lib.hid (HN8.out _ hHeld)
          clear hHeld y0 y1 y2 CWA CRO CFI CLA CRF CW1 CW2 CFR CS1 CS2 HS3 HS4 HS5 HN8 hwr
          go_wp2
          go_roundw
          case rel => exact ⟨k + 1, T8, last', lw8, D8, A6, c6, ys, by omega, by go_num, hlo8, HMM8.out, HP9.out⟩
          case measure => simp [intOf]; omega
    · obtain rfl : k = n := by omega
      have HB := Lib.hid HP.out.below
      clear HP HMM
      go_wp2_with (go_at_call 7; refine (awake_any _).mono ?_; rintro e w' ⟨rfl, hb⟩)
      go_ret
      exact ⟨rfl, HB.out.trans (hb.mono HB.out.size)⟩

theorem slidePlays_many (A : Option Addr) (n c : Nat) (r fr most : Int) (w : World) (hn : 100 < n) :
    Calls Try.prog 3 #[.int .i64 r, .slice A n c, .int .u64 fr, .int .i64 most] w fun e w' => e = .returned (.bool true) ∧ Below w.heap.size w w' := by
  have hd : decide (100 < (n : Int)) = true := by simp; omega
  go_enter Try.func3, Try.ntmps3
  go_wp2_with (go_at_call 7; refine (awake_any _).mono ?_; rintro e w' ⟨rfl, hb⟩)
  go_ret
  exact ⟨rfl, hb⟩

theorem own : ownKnob Try.prog.godebug = none := by kernel_rfl
theorem laidOut : laidOutB Try.prog = true := by kernel_rfl

set_option maxRecDepth 100000 in
theorem slidePlays_lifted (os : Os) (started : os.Started) (H : Type) (enc : TypeId × Value → H) :
    ReturnsInHanded {} Try.checked os 3 .any (Rows.slidePlaysSpec.pre6 enc Try.prog Try.f3 Rows.slidePlaysRow.domain false) (Rows.slidePlaysSpec.post enc Try.prog Try.f3 false true false false) := by
  refine returnsInHanded_of_change (C := Try.checked) own started (by kernel_rfl) Try.func3
    (ChangeSpec.witness6 (enc := enc) (C := Try.checked) false ⟨#[], #[.int .i64 0, .slice none 0 0, .int .u64 0, .int .i64 0], []⟩ 8 (by kernel_rfl) (by kernel_rfl) (by kernel_rfl) (by kernel_rfl)) ?_
  intro W base args ds gs before hval0 hW _ _
  have hval : ∀ (j : Nat) t v, Try.f3.params[j]? = some t → args[j]? = some v → Value.okWide Try.prog W .any base t v := hval0
  have hW' := hW
  obtain ⟨p, q, hA0, hV, rfl, _, _⟩ := hW
  have hA : DataW.TrodAll enc Try.prog W 0 (fun _ => true) true Try.f3.params.toList args.toList ds p := hA0
  rw [Try.params3] at hA hval
  obtain ⟨v0, vs0, d0, ds0, p0, q0, hargs, rfl, rfl, h0, r0⟩ := trodAll_cons hA
  obtain ⟨v1, vs1, d1, ds1, p1, q1, rfl, rfl, rfl, h1, r1⟩ := trodAll_cons r0
  obtain ⟨v2, vs2, d2, ds2, p2, q2, rfl, rfl, rfl, h2, r2⟩ := trodAll_cons r1
  obtain ⟨v3, vs3, d3, ds3, p3, q3, rfl, rfl, rfl, h3, r3⟩ := trodAll_cons r2
  obtain ⟨rfl, rfl, rfl⟩ := trodAll_nil r3
  obtain rfl : args = #[v0, v1, v2, v3] := by cases args; simp_all
  obtain ⟨rfl, rfl⟩ := trodVars_none hV
  have k0 := h0
  have lt0 : ∀ x ∈ p0, x.block < W.heap.size := by obtain ⟨m, hm⟩ := k0; exact DataW.trod_lt m _ _ _ hm
  have k1 := h1
  have lt1 : ∀ x ∈ p1, x.block < W.heap.size := by obtain ⟨m, hm⟩ := k1; exact DataW.trod_lt m _ _ _ hm
  have k2 := h2
  have lt2 : ∀ x ∈ p2, x.block < W.heap.size := by obtain ⟨m, hm⟩ := k2; exact DataW.trod_lt m _ _ _ hm
  have k3 := h3
  have lt3 : ∀ x ∈ p3, x.block < W.heap.size := by obtain ⟨m, hm⟩ := k3; exact DataW.trod_lt m _ _ _ hm
  obtain ⟨a0, rfl, _, _, wf0⟩ := open_int Try.underlying3 (hval 0 3 v0 rfl rfl) h0
  obtain ⟨a2, rfl, _, _, wf2⟩ := open_int Try.underlying23 (hval 2 23 v2 rfl rfl) h2
  obtain ⟨a3, rfl, _, _, wf3⟩ := open_int Try.underlying3 (hval 3 3 v3 rfl rfl) h3
  have hwalk : Calls Try.prog 3 #[.int .i64 a0, v1, .int .u64 a2, .int .i64 a3] W fun e w' => e = .returned (.bool true) ∧ Below W.heap.size W w' := by
    obtain ⟨a1, len1, cap1, rfl⟩ := okWide_slice Try.underlying22 (hval 1 22 v1 rfl rfl)
    obtain ⟨fuel, hf⟩ := h1
    obtain ⟨l, A, n, c, hv, hl, hc, hcm, hL, hok⟩ := open_sas (by simpa [Value.cells] using hf)
    injection hv with e1 e2 e3
    subst e1 e2 e3
    by_cases hn : 100 < len1
    · exact slidePlays_many a1 len1 cap1 a0 a2 a3 W hn
    · have hb0 := bounds_i64 wf0
      have hb2 := bounds_u64 wf2
      have hb3 := bounds_i64 wf3
      obtain ⟨fr, rfl⟩ := Int.eq_ofNat_of_zero_le hb2.1
      exact slidePlays_walk a0 a1 len1 cap1 l fr a3 W (by omega) (by omega) (by omega) (by omega) hl (by omega) hL hok
  clear hA0 hval0
  refine hwalk.mono fun e W' ⟨he, bel⟩ => ?_
  subst he
  exact ⟨_, rfl, _, _, _, [], _, [], hW', trodAll_mk1 (shut_bool Try.underlying4 _), (trodAll_cons_mk (Below.trod laidOut (by kernel_rfl) (of_decide_eq_true (by kernel_rfl)) k0 bel lt0) (trodAll_cons_mk (Below.trod laidOut (by kernel_rfl) (of_decide_eq_true (by kernel_rfl)) k1 bel lt1) (trodAll_cons_mk (Below.trod laidOut (by kernel_rfl) (of_decide_eq_true (by kernel_rfl)) k2 bel lt2) (trodAll_cons_mk (Below.trod laidOut (by kernel_rfl) (of_decide_eq_true (by kernel_rfl)) k3 bel lt3) trodAll_mk0)))), rfl, bel.frame _, fun h => by cases h⟩

theorem slidePlays_proved : Rows.SlidePlaysSaid :=
  OpenClaim.holds_of_wide 3 Try.f3 rfl rfl rfl rfl rfl rfl rfl ⟨rfl, rfl, rfl, rfl, rfl⟩ rfl rfl rfl rfl rfl (by kernel_rfl) Try.func3 (by kernel_rfl)
    (of_decide_eq_true (by kernel_rfl)) (by unfold Func.isWrapper; first | (rw [if_pos (by decide +kernel)]; kernel_rfl) | (rw [if_neg (by decide +kernel)]; exact ⟨rfl, rfl⟩))
    (fun os started H enc _ => slidePlays_lifted os started H enc)

end Go.Proofs.Ytohlgjkblcopoaa
