/- LinkFifo: for every width, every span and every list of picks the call returns true (whatever is lost, comes twice, or in another order: what one side lets in is a front of what the other side sent, each once, in order), and changes nothing that was there. No conditions. -/
import Derived.Test.YtbkkpimhoeagdaaLkQ
import Derived.ChangeOld
namespace Go.Proofs.Ytbkkpimhoeagdaa
open Go.ChangeShapes Go.WideShapes Go.ChangeAt Go.RowKit

set_option maxRecDepth 20000 in
set_option maxHeartbeats 12800000 in
theorem linkFifo_walk (r again : Int) (A : Option Addr) (n c : Nat) (l : List Pk) (w : World) (hl : l.length = n) (hn : n ≤ 150) (hA : Lies w w.heap.size A (flat encPk l)) (hok : ∀ x ∈ l, PkOk x) (h1 : -9223372036854775808 ≤ r) (h2 : r ≤ 9223372036854775807) (h3 : -9223372036854775808 ≤ again) (h4 : again ≤ 9223372036854775807) :
    Calls Try.prog 4 #[.int .i64 r, .int .i64 again, .slice A n c] w fun e w' => e = .returned (.bool true) ∧ Below w.heap.size w w' := by
  have hd : decide (150 < (n : Int)) = false := by simp; omega
  have HL := Lib.hid hl
  have HA := Lib.hid hA
  have HOK := Lib.hid hok
  have hN := link_new 0 1 r again w w.heap.size (fun _ => False) (Nat.le_refl _) (fun _ h => h.elim) h1 h2 h3 h4 (by decide) (by decide)
  have HB : Hid (∀ (W : World) (D0 : Nat → Prop), w.heap.size ≤ W.heap.size → (∀ b, D0 b → w.heap.size ≤ b ∧ b < W.heap.size) → Calls Try.prog 10 #[.int .u8 1, .int .u8 0, .int .i64 r, .int .i64 again] W fun e w' =>
      ∃ p pw pg : Nat, e = .returned (.pointer (some ⟨p, 0, none⟩)) ∧ LinkB w' w.heap.size p pw pg (.slice none 0 0) [] (newLs 1 0 r again) (fun k => D0 k ∨ k = p ∨ k = pw ∨ k = pg) ∧ RowKit.Below W.heap.size W w' ∧ W.heap.size ≤ p ∧ W.heap.size ≤ pw ∧ W.heap.size ≤ pg) := fun W D0 hb hD => link_new 1 0 r again W w.heap.size D0 hb hD h1 h2 h3 h4 (by decide) (by decide)
  clear hl hA hok h1 h2 h3 h4
  go_enter Try.func4, Try.ntmps4
  go_wp2_with fail
  refine hN.mono ?_
  rintro e w1 ⟨p, pw, pg, rfl, hL, hb1, -, -, -⟩
  have HL1 := Lib.hid hL
  have HB1 := Lib.hid hb1
  clear hN hL hb1
  go_wp2_with fail
  refine (HB.out w1 _ HB1.out.size (fun b hb => HL1.out.win.din b hb)).mono ?_
  rintro e w2 ⟨p', pw', pg', rfl, hL2, hb2, q1, q2, q3⟩
  have HL2 := Lib.hid hL2
  have HB2 := Lib.hid hb2
  have HQ := Lib.hid (And.intro q1 (And.intro q2 q3))
  clear hL2 hb2 q1 q2 q3 HB
  go_wp2_with fail
  generalize hV1 : w2.alloc (.cells #[] 44) = V1
  have HF : Hid (FfH w ⟨p, pw, pg⟩ ⟨p', pw', pg'⟩ (.slice (some ⟨w2.heap.size, 0, none⟩) 0 0) (.slice (some ⟨w2.heap.size + 1, 0, none⟩) 0 0) 0 0 0 0 0 0 (V1.alloc (.cells #[] 44))) := FfH.start HL1.out HB1.out HL2.out HB2.out HQ.out.1 HQ.out.2.1 HQ.out.2.2 hV1 rfl rfl
  generalize V1.alloc (.cells #[] 44) = W3 at HF ⊢
  generalize w2.heap.size = z8 at HF ⊢
  clear hV1 HL1 HL2 HB1 HB2 HQ
  go_loopw [9, 10, 11, 12, 13] (fun v9 v10 v11 v12 v13 wr => ∃ (i : Nat) (Af : Option Addr) (nf cf : Nat) (Ab : Option Addr) (nb cb sent lt : Nat), i ≤ n ∧ v13 = .int .i64 i ∧ v9 = .slice Af nf cf ∧ v10 = .slice Ab nb cb ∧ v11 = .int .u32 sent ∧ v12 = .int .u32 lt ∧ sent ≤ 3 * i ∧ FfH w ⟨p, pw, pg⟩ ⟨p', pw', pg'⟩ (.slice Af nf cf) (.slice Ab nb cb) nf nb sent lt i (66 * i) wr) (fun _ _ _ _ v13 _ => n - (intOf v13).toNat)
  case atStart => exact ⟨0, _, _, _, _, _, _, 0, 0, Nat.zero_le _, rfl, rfl, rfl, rfl, rfl, Nat.le_refl _, HF.out⟩
  case round =>
    clear HF
    obtain ⟨i, Af, nf, cf, Ab, nb, cb, sent, lt, hi, rfl, rfl, rfl, rfl, rfl, hsent, hH⟩ := hrel
    by_cases hlt : i < n
    · have hil : i < l.length := by rw [HL.out]; exact hlt
      obtain ⟨b, off, rfl, hbw, hc⟩ := pick_at HA.out hil
      have hx := HOK.out l[i] (List.getElem_mem hil)
      generalize l[i] = x at hc hx
      obtain ⟨sn, z, st, bk, ak⟩ := x
      obtain ⟨hx1, hx2, hx3⟩ := hx
      obtain ⟨T, la, s, T', lb, s', D, fw, bkl, hbW, hnf, hnb, hls, hF⟩ := hH
      have g0 : wr.cell? ⟨b, off + i * 5, none⟩ = some (.int .u8 (sn : Int)) := (hbW.cell (p := ⟨b, off + i * 5, none⟩) hbw).trans (hc 0 _ rfl)
      have g1 : wr.cell? ⟨b, off + i * 5 + 1, none⟩ = some (.int .i64 z) := (hbW.cell (p := ⟨b, off + i * 5 + 1, none⟩) hbw).trans (hc 1 _ rfl)
      have g2 : wr.cell? ⟨b, off + i * 5 + 2, none⟩ = some (.bool st) := (hbW.cell (p := ⟨b, off + i * 5 + 2, none⟩) hbw).trans (hc 2 _ rfl)
      have g3 : wr.cell? ⟨b, off + i * 5 + 3, none⟩ = some (.bool bk) := (hbW.cell (p := ⟨b, off + i * 5 + 3, none⟩) hbw).trans (hc 3 _ rfl)
      have g4 : wr.cell? ⟨b, off + i * 5 + 4, none⟩ = some (.bool ak) := (hbW.cell (p := ⟨b, off + i * 5 + 4, none⟩) hbw).trans (hc 4 _ rfl)
      have hblt : b < wr.heap.size := Nat.lt_of_lt_of_le hbw hbW.size
      have HX := Lib.hid (And.intro hx1 (And.intro hx2 hx3))
      have HFS : Hid (∀ W', W' = wr.alloc (.cells #[.int .u8 (sn : Int), .int .i64 z, .bool st, .bool bk, .bool ak] 65) → FfP w ⟨p, pw, pg⟩ ⟨p', pw', pg'⟩ wr.heap.size ⟨sn, z, st, bk, ak⟩ (.slice Af nf cf) (.slice Ab nb cb) nf nb sent lt i (66 * i) W') := by
        rintro W' rfl
        exact ⟨T, la, s, T', lb, s', D, fw, bkl, hF _ _ _ ((Below.refl _ _).alloc (Nat.le_refl _) _) (Nat.le_refl _) (heap_alloc_new wr _), hnf, hnb, hls⟩
      clear hc hil hbw hbW hF hx1 hx2 hx3 hnf hnb hls
      go_upto_region 10 with fail
      generalize hW1 : World.alloc wr _ = W1
      have HP := Lib.hid (HFS.out W1 hW1.symm)
      clear hW1 g0 g1 g2 g3 g4 hblt HFS
      generalize wr.heap.size = g at HP ⊢
      have hmod : (sn : Int) % 4 = ((sn % 4 : Nat) : Int) := by omega
      have hmtm : Int.tmod (sn : Int) 4 = ((sn % 4 : Nat) : Int) := rfl
      have hm4 : sn % 4 ≤ 3 := by omega
      generalize sn % 4 = m at hmod hmtm hm4
      go_wp2_with fail
      go_loopw [11, 15] (fun v11 v15 wr => ∃ q se : Nat, q ≤ m ∧ v15 = .int .u8 q ∧ v11 = .int .u32 se ∧ se ≤ 3 * i + q ∧ FfP w ⟨p, pw, pg⟩ ⟨p', pw', pg'⟩ g ⟨sn, z, st, bk, ak⟩ (.slice Af nf cf) (.slice Ab nb cb) nf nb se lt i (66 * i) wr) (fun _ v15 _ => m - (intOf v15).toNat)
      case atStart => exact ⟨0, sent, Nat.zero_le _, rfl, rfl, hsent, HP.out⟩
      case round =>
        clear HP hsent
        obtain ⟨q, se, hq, rfl, rfl, hse, hS⟩ := hrel
        have k0 : wr.cell? ⟨g, 0, none⟩ = some (.int .u8 (sn : Int)) := cell_of_row wr g 0 _ _ _ hS.pk
        by_cases hqm : q < m
        · obtain ⟨sN, hsN, hcall⟩ := hS.send (by omega)
          have HC := Lib.hid hcall
          clear hS hcall
          go_wp2_with fail
          refine HC.out.mono ?_
          rintro e w5 ⟨rfl, hS5⟩
          have HS5 := Lib.hid hS5
          clear hS5 k0
          go_wp2
          go_roundw
          case rel => exact ⟨q + 1, se + sN, by omega, by go_num, by go_num, by omega, HS5.out⟩
          case measure => simp [intOf]; omega
        · obtain rfl : m = q := by omega
          have HS := Lib.hid hS
          clear hqm hq
          have k4 : wr.cell? ⟨g, 4, none⟩ = some (.bool ak) := cell_of_row wr g 4 _ _ _ hS.pk
          clear hS
          go_upto_if 58 with fail
          go_cut [9, 10] from 32 to 161 (fun v9 v10 wx => ∃ (Af : Option Addr) (nf cf : Nat) (Ab : Option Addr) (nb cb : Nat), v9 = .slice Af nf cf ∧ v10 = .slice Ab nb cb ∧ FfP w ⟨p, pw, pg⟩ ⟨p', pw', pg'⟩ g ⟨sn, z, st, bk, ak⟩ (.slice Af nf cf) (.slice Ab nb cb) nf nb se lt i (66 * i + 66) wx)
          case first =>
            clear k0 k4 hmod hmtm
            cases ak
            · go_wp2_with fail
              go_meet
              exact ⟨_, _, _, _, _, _, rfl, rfl, HS.out.more (by omega)⟩
            · go_wp2_with fail
              refine (HS.out.outA (i : Int) (by omega)).mono ?_
              rintro e w5 ⟨A1, n1, c1, rfl, hn1, A5, c5, w6, hr6, hS6⟩
              have HR6 := Lib.hid hr6
              have HS6 := Lib.hid hS6
              clear hr6 hS6 HS
              go_wp2_with (first | (at_builtin; refine wpList_append_run rfl (.tmp 59) (.tmp 62) 26 rfl rfl rfl HR6.out ?_) | fail)
              refine (HS6.out.outB (i : Int) (by omega) (by omega)).mono ?_
              rintro e w7 ⟨A2, n2, c2, rfl, hn2, A7, c7, w8, hr8, hS8⟩
              have HR8 := Lib.hid hr8
              have HS8 := Lib.hid hS8
              clear hr8 hS8 HS6 HR6
              go_wp2_with (first | (at_builtin; refine wpList_append_run rfl (.tmp 64) (.tmp 67) 26 rfl rfl rfl HR8.out ?_) | fail)
              go_meet
              exact ⟨_, _, _, _, _, _, rfl, rfl, HS8.out.more (by omega)⟩
          case rest =>
            clear k0 k4 hmod hmtm HS
            obtain ⟨Af, nf, cf, Ab, nb, cb, rfl, rfl, hS⟩ := hcut
            have k1 : wc.cell? ⟨g, 1, none⟩ = some (.int .i64 z) := cell_of_row wc g 1 _ _ _ hS.pk
            have k2 : wc.cell? ⟨g, 2, none⟩ = some (.bool st) := cell_of_row wc g 2 _ _ _ hS.pk
            have k3 : wc.cell? ⟨g, 3, none⟩ = some (.bool bk) := cell_of_row wc g 3 _ _ _ hS.pk
            have HS := Lib.hid hS
            have hse2 : se ≤ 453 := by omega
            have hz1 : -9223372036854775808 ≤ z := HX.out.2.1
            have hz2 : z ≤ 9223372036854775807 := HX.out.2.2
            clear hS
            by_cases hz : z < 0
            · go_wp2
              go_roundw
              case rel => exact ⟨i + 1, Af, nf, cf, Ab, nb, cb, se, lt, by omega, by go_num, rfl, rfl, rfl, rfl, by omega, HS.out.head (by omega) (by omega)⟩
              case measure => simp [intOf]; omega
            · obtain ⟨zz, rfl⟩ : ∃ zz : Nat, z = (zz : Int) := ⟨z.toNat, by omega⟩
              clear hz1
              have hcB := HS.out.capB
              have hcF := HS.out.capF
              cases bk
              · rcases Nat.eq_zero_or_pos nf with hf0 | hf0
                · subst hf0
                  clear hcB hcF
                  have hle := HS.out.le_
                  obtain ⟨mm, hmm, hWt⟩ := HS.out.waits
                  have HUP := Lib.hid HS.out.upto
                  have HWT := Lib.hid hWt
                  have e1 : decide (se < lt) = false := by simp; omega
                  have e2 : decide (se < mm) = false := by simp; omega
                  clear hWt
                  go_wp2_with fail
                  refine HUP.out.mono ?_
                  rintro e w' ⟨rfl, rfl⟩
                  go_wp2_with fail
                  refine HWT.out.mono ?_
                  rintro e w' ⟨rfl, rfl⟩
                  go_wp2_with fail
                  go_roundw
                  case rel => exact ⟨i + 1, _, _, _, _, _, _, se, lt, by omega, by go_num, rfl, rfl, rfl, rfl, by omega, HS.out.head (by omega) (by omega)⟩
                  case measure => simp [intOf]; omega
                · obtain ⟨gf, rfl⟩ := hcF.2.2.2 hf0
                  have hcF1 := hcF.1
                  have hcF2 := hcF.2.1
                  have hcF3 := hcF.2.2.1
                  have hne : ((nf : Int) == 0) = false := by simp; omega
                  have hkn0 : zz % nf < nf := Nat.mod_lt _ hf0
                  have hk1 : (zz : Int) % (nf : Int) = ((zz % nf : Nat) : Int) := rfl
                  have hk2 : Int.tmod (zz : Int) (nf : Int) = ((zz % nf : Nat) : Int) := rfl
                  clear hcB hcF
                  generalize zz % nf = k at hkn0 hk1 hk2
                  have hkn : k < nf := hkn0
                  obtain ⟨gf2, y, e, hc, hcall⟩ := HS.out.comeB hkn (by omega)
                  injection e with e
                  injection e with e
                  subst e
                  have HC := Lib.hid hcall
                  clear hcall hkn0
                  go_wp2_with (first | (refine load_elem (.tmp 120) rfl hc ?_) | fail)
                  refine HC.out.mono ?_
                  rintro e w5 ⟨y2, ok, rfl, hok2, hS5⟩
                  have hbA : Below w5.heap.size w5 (w5.alloc (.cells y2.cs 44)) := (Below.refl _ _).alloc (Nat.le_refl _) _
                  have hr6 : (w5.alloc (.cells y2.cs 44)).cell? ⟨w5.heap.size, 6, none⟩ = some (.int .u32 (y2.F.at_ : Int)) := cell_of_row _ w5.heap.size 6 _ _ _ (heap_alloc_new w5 _)
                  cases ok
                  · have HSU : Hid (FfP w ⟨p, pw, pg⟩ ⟨p', pw', pg'⟩ g ⟨sn, (zz : Int), st, false, ak⟩ (.slice (some ⟨gf, 0, none⟩) nf cf) (.slice Ab nb cb) nf nb se lt (i + 1) (66 * i + 66) (w5.alloc (.cells y2.cs 44))) := hS5.on hbA
                    clear hS5 hc HC HS k1 k2 k3 hk1 hk2 hne hr6 hok2
                    go_upto_region 30 with (first | (refine store_frame_new (.tmp 18) (.tmp 123) rfl rfl rfl rfl (Pf.size y2) (Pf.one y2) ?_) | fail)
                    generalize w5.alloc (.cells y2.cs 44) = U at HSU ⊢
                    have k2 : U.cell? ⟨g, 2, none⟩ = some (.bool st) := cell_of_row U g 2 _ _ _ HSU.out.pk
                    clear hbA
                    cases st
                    · go_upto_region 31 with fail
                      clear k2
                      by_cases hck : cf = k + 1
                      · have hnk : nf = k + 1 := by omega
                        subst hck hnk
                        generalize hkk : k + 1 = kk at *
                        have HKK := Lib.hid hkk
                        have hadd : (k : Int) + 1 = (kk : Int) := by omega
                        clear hkk
                        have hkc : k ≤ kk := by omega
                        have hwr : IntKind.i64.wrap (kk : Int) = (kk : Int) := IntWalk.i64_in _ (by omega)
                        have hkk1 : kk ≤ kk := by omega
                        have hc0 : ¬ kk = 0 := by omega
                        obtain ⟨A1, c1, W2, hrun1, hX⟩ := (HSU.out.on (drewB U)).lostF hkn (by omega)
                        have HR1 := Lib.hid hrun1
                        have HX2 := Lib.hid hX
                        clear hrun1 hX
                        refine wp_region_held_drew (S := fun _ => True) (by kernel_rfl) trivial (fun hHeld => ?_)
                        have hHeld : True := trivial
                        generalize World.drew U = X0 at HR1 HX2 ⊢
                        refine wpAnyH_takeAt (i := 1) (d := 136) (v := ?_) rfl rfl (by kernel_rfl) (by kernel_rfl) (by kernel_rfl) (fun _ _ _ h => h) (Or.inl ⟨by rfl, ?_⟩) hHeld ?_
                        rotate_left
                        · (intro _ hSw; go_simp; try with_reducible rfl)
                        simp only [List.setIfInBounds_toArray, List.set_cons_zero, List.set_cons_succ]
                        refine wpAnyH_takeAt (i := 2) (d := 137) (v := ?_) rfl rfl (by kernel_rfl) (by kernel_rfl) (by kernel_rfl) (fun _ _ _ h => h) (Or.inl ⟨by rfl, ?_⟩) hHeld ?_
                        rotate_left
                        · (intro _ hSw; go_simp; try with_reducible rfl)
                        simp only [List.setIfInBounds_toArray, List.set_cons_zero, List.set_cons_succ]
                        refine wpAnyH_takeAt (i := 3) (d := 138) (v := ?_) rfl rfl (by kernel_rfl) (by kernel_rfl) (by kernel_rfl) (fun _ _ _ h => h) (Or.inl ⟨by rfl, ?_⟩) hHeld ?_
                        rotate_left
                        · (intro _ hSw; go_simp; try with_reducible rfl)
                        simp only [List.setIfInBounds_toArray, List.set_cons_zero, List.set_cons_succ]
                        refine wpAnyH_takeAt (i := 5) (d := 140) (v := ?_) rfl rfl (by kernel_rfl) (by kernel_rfl) (by kernel_rfl) (fun _ _ _ h => h) (Or.inl ⟨by rfl, ?_⟩) hHeld ?_
                        rotate_left
                        · (intro _ hSw; go_simp; try with_reducible rfl)
                        simp only [List.setIfInBounds_toArray, List.set_cons_zero, List.set_cons_succ]
                        refine wpAnyH_takeAt (i := 6) (d := 141) (v := ?_) rfl rfl (by kernel_rfl) (by kernel_rfl) (by kernel_rfl) (fun _ _ _ h => h) (Or.inl ⟨by rfl, ?_⟩) hHeld ?_
                        rotate_left
                        · (intro _ hSw; go_simp; try with_reducible rfl)
                        simp only [List.setIfInBounds_toArray, List.set_cons_zero, List.set_cons_succ]
                        refine wpAnyH_takeAt (i := 7) (d := 142) (v := ?_) rfl rfl (by kernel_rfl) (by kernel_rfl) (by kernel_rfl) (fun _ _ _ h => h) (Or.inl ⟨by rfl, ?_⟩) hHeld ?_
                        rotate_left
                        · (intro _ hSw; go_simp; try with_reducible rfl)
                        simp only [List.setIfInBounds_toArray, List.set_cons_zero, List.set_cons_succ]
                        refine wpAnyH_takeAt (i := 8) (d := 143) (v := ?_) rfl rfl (by kernel_rfl) (by kernel_rfl) (by kernel_rfl) (fun _ _ _ h => h) (Or.inl ⟨by rfl, ?_⟩) hHeld ?_
                        rotate_left
                        · (intro _ hSw; go_simp; try with_reducible rfl)
                        simp only [List.setIfInBounds_toArray, List.set_cons_zero, List.set_cons_succ]
                        refine wpAnyH_ready (rs := [0]) (by kernel_rfl) (by simp) ?_
                        refine AllReadyH.cons rfl (fun K hK => ?_) AllReadyH.nil
                        go_simp
                        refine hK.out _ _ trivial (fun _ => ?_)
                        clear hK K
                        refine wpAnyH_ready (rs := [4]) (by kernel_rfl) (by simp) ?_
                        refine AllReadyH.cons rfl (fun K hK => ?_) AllReadyH.nil
                        refine wp_append_step (s := .tmp 135) (x := .tmp 138) (t := 26) rfl rfl rfl rfl HR1.out ?_
                        go_simp
                        refine hK.out _ _ trivial (fun _ => ?_)
                        clear hK K
                        refine wpAnyH_ready (rs := [9]) (by kernel_rfl) (by simp) ?_
                        refine AllReadyH.cons rfl (fun K hK => ?_) AllReadyH.nil
                        obtain ⟨A3, c3, W3, hrun3, hS3⟩ := HX2.out (some ⟨gf, 0, none⟩) 0 (fun hlt => by have := HKK.out; omega)
                        rw [HKK.out, Nat.sub_self] at hrun3
                        refine wp_append_step (s := .tmp 139) (x := .tmp 143) (t := 26) rfl rfl rfl rfl hrun3 ?_
                        have HS3 := Lib.hid hS3
                        go_simp
                        refine hK.out _ _ trivial (fun _ => ?_)
                        clear hK K hrun3 hS3
                        refine wpAnyH_takeAt (i := 10) (d := 9) (v := ?_) rfl rfl (by kernel_rfl) (by kernel_rfl) (by kernel_rfl) (fun _ _ _ h => h) (Or.inl ⟨by rfl, ?_⟩) hHeld ?_
                        rotate_left
                        · (intro _ hSw; go_simp; try with_reducible rfl)
                        simp only [List.setIfInBounds_toArray, List.set_cons_zero, List.set_cons_succ]
                        refine wpAnyH_done (by kernel_rfl) ?_ _
                        have hle := HS3.out.le_
                        obtain ⟨mm, hmm, hWt⟩ := HS3.out.waits
                        have HUP := Lib.hid HS3.out.upto
                        have HWT := Lib.hid hWt
                        have e1 : decide (se < lt) = false := by simp; omega
                        have e2 : decide (se < mm) = false := by simp; omega
                        clear hWt
                        go_wp2_with fail
                        refine HUP.out.mono ?_
                        rintro e w' ⟨rfl, rfl⟩
                        go_wp2_with fail
                        refine HWT.out.mono ?_
                        rintro e w' ⟨rfl, rfl⟩
                        go_wp2_with fail
                        go_roundw
                        case rel => exact ⟨i + 1, _, _, _, _, _, _, se, lt, by omega, by go_num, rfl, rfl, rfl, rfl, by omega, HS3.out.head (by omega) (by omega)⟩
                        case measure => simp [intOf]; omega
                      · have hck2 : k + 1 < cf := by omega
                        generalize hkk : k + 1 = kk at *
                        have HKK := Lib.hid hkk
                        have hadd : (k : Int) + 1 = (kk : Int) := by omega
                        clear hkk
                        have hkc : k ≤ cf := by omega
                        have hwr : IntKind.i64.wrap (kk : Int) = (kk : Int) := IntWalk.i64_in _ (by omega)
                        have hkk1 : kk ≤ nf := by omega
                        have hc0 : ¬ cf = 0 := by omega
                        have hkk2 : kk ≤ cf := by omega
                        have hck3 : ¬ cf = kk := by omega
                        obtain ⟨A1, c1, W2, hrun1, hX⟩ := (HSU.out.on (drewB U)).lostF hkn (by omega)
                        have HR1 := Lib.hid hrun1
                        have HX2 := Lib.hid hX
                        clear hrun1 hX
                        refine wp_region_held_drew (S := fun _ => True) (by kernel_rfl) trivial (fun hHeld => ?_)
                        have hHeld : True := trivial
                        generalize World.drew U = X0 at HR1 HX2 ⊢
                        refine wpAnyH_takeAt (i := 1) (d := 136) (v := ?_) rfl rfl (by kernel_rfl) (by kernel_rfl) (by kernel_rfl) (fun _ _ _ h => h) (Or.inl ⟨by rfl, ?_⟩) hHeld ?_
                        rotate_left
                        · (intro _ hSw; go_simp; try with_reducible rfl)
                        simp only [List.setIfInBounds_toArray, List.set_cons_zero, List.set_cons_succ]
                        refine wpAnyH_takeAt (i := 2) (d := 137) (v := ?_) rfl rfl (by kernel_rfl) (by kernel_rfl) (by kernel_rfl) (fun _ _ _ h => h) (Or.inl ⟨by rfl, ?_⟩) hHeld ?_
                        rotate_left
                        · (intro _ hSw; go_simp; try with_reducible rfl)
                        simp only [List.setIfInBounds_toArray, List.set_cons_zero, List.set_cons_succ]
                        refine wpAnyH_takeAt (i := 3) (d := 138) (v := ?_) rfl rfl (by kernel_rfl) (by kernel_rfl) (by kernel_rfl) (fun _ _ _ h => h) (Or.inl ⟨by rfl, ?_⟩) hHeld ?_
                        rotate_left
                        · (intro _ hSw; go_simp; try with_reducible rfl)
                        simp only [List.setIfInBounds_toArray, List.set_cons_zero, List.set_cons_succ]
                        refine wpAnyH_takeAt (i := 5) (d := 140) (v := ?_) rfl rfl (by kernel_rfl) (by kernel_rfl) (by kernel_rfl) (fun _ _ _ h => h) (Or.inl ⟨by rfl, ?_⟩) hHeld ?_
                        rotate_left
                        · (intro _ hSw; go_simp; try with_reducible rfl)
                        simp only [List.setIfInBounds_toArray, List.set_cons_zero, List.set_cons_succ]
                        refine wpAnyH_takeAt (i := 6) (d := 141) (v := ?_) rfl rfl (by kernel_rfl) (by kernel_rfl) (by kernel_rfl) (fun _ _ _ h => h) (Or.inl ⟨by rfl, ?_⟩) hHeld ?_
                        rotate_left
                        · (intro _ hSw; go_simp; try with_reducible rfl)
                        simp only [List.setIfInBounds_toArray, List.set_cons_zero, List.set_cons_succ]
                        refine wpAnyH_takeAt (i := 7) (d := 142) (v := ?_) rfl rfl (by kernel_rfl) (by kernel_rfl) (by kernel_rfl) (fun _ _ _ h => h) (Or.inl ⟨by rfl, ?_⟩) hHeld ?_
                        rotate_left
                        · (intro _ hSw; go_simp; try with_reducible rfl)
                        simp only [List.setIfInBounds_toArray, List.set_cons_zero, List.set_cons_succ]
                        refine wpAnyH_takeAt (i := 8) (d := 143) (v := ?_) rfl rfl (by kernel_rfl) (by kernel_rfl) (by kernel_rfl) (fun _ _ _ h => h) (Or.inl ⟨by rfl, ?_⟩) hHeld ?_
                        rotate_left
                        · (intro _ hSw; go_simp; try with_reducible rfl)
                        simp only [List.setIfInBounds_toArray, List.set_cons_zero, List.set_cons_succ]
                        refine wpAnyH_ready (rs := [0]) (by kernel_rfl) (by simp) ?_
                        refine AllReadyH.cons rfl (fun K hK => ?_) AllReadyH.nil
                        go_simp
                        refine hK.out _ _ trivial (fun _ => ?_)
                        clear hK K
                        refine wpAnyH_ready (rs := [4]) (by kernel_rfl) (by simp) ?_
                        refine AllReadyH.cons rfl (fun K hK => ?_) AllReadyH.nil
                        refine wp_append_step (s := .tmp 135) (x := .tmp 138) (t := 26) rfl rfl rfl rfl HR1.out ?_
                        go_simp
                        refine hK.out _ _ trivial (fun _ => ?_)
                        clear hK K
                        refine wpAnyH_ready (rs := [9]) (by kernel_rfl) (by simp) ?_
                        refine AllReadyH.cons rfl (fun K hK => ?_) AllReadyH.nil
                        obtain ⟨A3, c3, W3, hrun3, hS3⟩ := HX2.out (some ⟨gf, kk * 16, none⟩) (cf - kk) (fun hlt => ⟨_, rfl, by rw [HKK.out]⟩)
                        rw [HKK.out] at hrun3
                        refine wp_append_step (s := .tmp 139) (x := .tmp 143) (t := 26) rfl rfl rfl rfl hrun3 ?_
                        have HS3 := Lib.hid hS3
                        go_simp
                        refine hK.out _ _ trivial (fun _ => ?_)
                        clear hK K hrun3 hS3
                        refine wpAnyH_takeAt (i := 10) (d := 9) (v := ?_) rfl rfl (by kernel_rfl) (by kernel_rfl) (by kernel_rfl) (fun _ _ _ h => h) (Or.inl ⟨by rfl, ?_⟩) hHeld ?_
                        rotate_left
                        · (intro _ hSw; go_simp; try with_reducible rfl)
                        simp only [List.setIfInBounds_toArray, List.set_cons_zero, List.set_cons_succ]
                        refine wpAnyH_done (by kernel_rfl) ?_ _
                        have hle := HS3.out.le_
                        obtain ⟨mm, hmm, hWt⟩ := HS3.out.waits
                        have HUP := Lib.hid HS3.out.upto
                        have HWT := Lib.hid hWt
                        have e1 : decide (se < lt) = false := by simp; omega
                        have e2 : decide (se < mm) = false := by simp; omega
                        clear hWt
                        go_wp2_with fail
                        refine HUP.out.mono ?_
                        rintro e w' ⟨rfl, rfl⟩
                        go_wp2_with fail
                        refine HWT.out.mono ?_
                        rintro e w' ⟨rfl, rfl⟩
                        go_wp2_with fail
                        go_roundw
                        case rel => exact ⟨i + 1, _, _, _, _, _, _, se, lt, by omega, by go_num, rfl, rfl, rfl, rfl, by omega, HS3.out.head (by omega) (by omega)⟩
                        case measure => simp [intOf]; omega
                    · 
                      have hle := HSU.out.le_
                      obtain ⟨mm, hmm, hWt⟩ := HSU.out.waits
                      have HUP := Lib.hid HSU.out.upto
                      have HWT := Lib.hid hWt
                      have e1 : decide (se < lt) = false := by simp; omega
                      have e2 : decide (se < mm) = false := by simp; omega
                      clear hWt
                      go_wp2_with fail
                      refine HUP.out.mono ?_
                      rintro e w' ⟨rfl, rfl⟩
                      go_wp2_with fail
                      refine HWT.out.mono ?_
                      rintro e w' ⟨rfl, rfl⟩
                      go_wp2_with fail
                      go_roundw
                      case rel => exact ⟨i + 1, _, _, _, _, _, _, se, lt, by omega, by go_num, rfl, rfl, rfl, rfl, by omega, HSU.out.head (by omega) (by omega)⟩
                      case measure => simp [intOf]; omega
                  · have hat := (hok2 rfl).1
                    have hlt1 := (hok2 rfl).2
                    rw [hat] at hr6
                    have HSU : Hid (FfP w ⟨p, pw, pg⟩ ⟨p', pw', pg'⟩ g ⟨sn, (zz : Int), st, false, ak⟩ (.slice (some ⟨gf, 0, none⟩) nf cf) (.slice Ab nb cb) nf nb se (lt + 1) (i + 1) (66 * i + 66) (w5.alloc (.cells y2.cs 44))) := hS5.on hbA
                    clear hS5 hc HC HS k1 k2 k3 hk1 hk2 hne hok2 hat
                    generalize hl1 : lt + 1 = lt1 at HSU
                    have hadd1 : (lt : Int) + 1 = (lt1 : Int) := by omega
                    have hl2 : lt1 ≤ 454 := by omega
                    clear hl1
                    go_upto_region 30 with (first | (refine store_frame_new (.tmp 18) (.tmp 123) rfl rfl rfl rfl (Pf.size y2) (Pf.one y2) ?_) | fail)
                    generalize w5.alloc (.cells y2.cs 44) = U at HSU ⊢
                    have k2 : U.cell? ⟨g, 2, none⟩ = some (.bool st) := cell_of_row U g 2 _ _ _ HSU.out.pk
                    clear hbA hr6
                    cases st
                    · go_upto_region 31 with fail
                      clear k2
                      by_cases hck : cf = k + 1
                      · have hnk : nf = k + 1 := by omega
                        subst hck hnk
                        generalize hkk : k + 1 = kk at *
                        have HKK := Lib.hid hkk
                        have hadd : (k : Int) + 1 = (kk : Int) := by omega
                        clear hkk
                        have hkc : k ≤ kk := by omega
                        have hwr : IntKind.i64.wrap (kk : Int) = (kk : Int) := IntWalk.i64_in _ (by omega)
                        have hkk1 : kk ≤ kk := by omega
                        have hc0 : ¬ kk = 0 := by omega
                        obtain ⟨A1, c1, W2, hrun1, hX⟩ := (HSU.out.on (drewB U)).lostF hkn (by omega)
                        have HR1 := Lib.hid hrun1
                        have HX2 := Lib.hid hX
                        clear hrun1 hX
                        refine wp_region_held_drew (S := fun _ => True) (by kernel_rfl) trivial (fun hHeld => ?_)
                        have hHeld : True := trivial
                        generalize World.drew U = X0 at HR1 HX2 ⊢
                        refine wpAnyH_takeAt (i := 1) (d := 136) (v := ?_) rfl rfl (by kernel_rfl) (by kernel_rfl) (by kernel_rfl) (fun _ _ _ h => h) (Or.inl ⟨by rfl, ?_⟩) hHeld ?_
                        rotate_left
                        · (intro _ hSw; go_simp; try with_reducible rfl)
                        simp only [List.setIfInBounds_toArray, List.set_cons_zero, List.set_cons_succ]
                        refine wpAnyH_takeAt (i := 2) (d := 137) (v := ?_) rfl rfl (by kernel_rfl) (by kernel_rfl) (by kernel_rfl) (fun _ _ _ h => h) (Or.inl ⟨by rfl, ?_⟩) hHeld ?_
                        rotate_left
                        · (intro _ hSw; go_simp; try with_reducible rfl)
                        simp only [List.setIfInBounds_toArray, List.set_cons_zero, List.set_cons_succ]
                        refine wpAnyH_takeAt (i := 3) (d := 138) (v := ?_) rfl rfl (by kernel_rfl) (by kernel_rfl) (by kernel_rfl) (fun _ _ _ h => h) (Or.inl ⟨by rfl, ?_⟩) hHeld ?_
                        rotate_left
                        · (intro _ hSw; go_simp; try with_reducible rfl)
                        simp only [List.setIfInBounds_toArray, List.set_cons_zero, List.set_cons_succ]
                        refine wpAnyH_takeAt (i := 5) (d := 140) (v := ?_) rfl rfl (by kernel_rfl) (by kernel_rfl) (by kernel_rfl) (fun _ _ _ h => h) (Or.inl ⟨by rfl, ?_⟩) hHeld ?_
                        rotate_left
                        · (intro _ hSw; go_simp; try with_reducible rfl)
                        simp only [List.setIfInBounds_toArray, List.set_cons_zero, List.set_cons_succ]
                        refine wpAnyH_takeAt (i := 6) (d := 141) (v := ?_) rfl rfl (by kernel_rfl) (by kernel_rfl) (by kernel_rfl) (fun _ _ _ h => h) (Or.inl ⟨by rfl, ?_⟩) hHeld ?_
                        rotate_left
                        · (intro _ hSw; go_simp; try with_reducible rfl)
                        simp only [List.setIfInBounds_toArray, List.set_cons_zero, List.set_cons_succ]
                        refine wpAnyH_takeAt (i := 7) (d := 142) (v := ?_) rfl rfl (by kernel_rfl) (by kernel_rfl) (by kernel_rfl) (fun _ _ _ h => h) (Or.inl ⟨by rfl, ?_⟩) hHeld ?_
                        rotate_left
                        · (intro _ hSw; go_simp; try with_reducible rfl)
                        simp only [List.setIfInBounds_toArray, List.set_cons_zero, List.set_cons_succ]
                        refine wpAnyH_takeAt (i := 8) (d := 143) (v := ?_) rfl rfl (by kernel_rfl) (by kernel_rfl) (by kernel_rfl) (fun _ _ _ h => h) (Or.inl ⟨by rfl, ?_⟩) hHeld ?_
                        rotate_left
                        · (intro _ hSw; go_simp; try with_reducible rfl)
                        simp only [List.setIfInBounds_toArray, List.set_cons_zero, List.set_cons_succ]
                        refine wpAnyH_ready (rs := [0]) (by kernel_rfl) (by simp) ?_
                        refine AllReadyH.cons rfl (fun K hK => ?_) AllReadyH.nil
                        go_simp
                        refine hK.out _ _ trivial (fun _ => ?_)
                        clear hK K
                        refine wpAnyH_ready (rs := [4]) (by kernel_rfl) (by simp) ?_
                        refine AllReadyH.cons rfl (fun K hK => ?_) AllReadyH.nil
                        refine wp_append_step (s := .tmp 135) (x := .tmp 138) (t := 26) rfl rfl rfl rfl HR1.out ?_
                        go_simp
                        refine hK.out _ _ trivial (fun _ => ?_)
                        clear hK K
                        refine wpAnyH_ready (rs := [9]) (by kernel_rfl) (by simp) ?_
                        refine AllReadyH.cons rfl (fun K hK => ?_) AllReadyH.nil
                        obtain ⟨A3, c3, W3, hrun3, hS3⟩ := HX2.out (some ⟨gf, 0, none⟩) 0 (fun hlt => by have := HKK.out; omega)
                        rw [HKK.out, Nat.sub_self] at hrun3
                        refine wp_append_step (s := .tmp 139) (x := .tmp 143) (t := 26) rfl rfl rfl rfl hrun3 ?_
                        have HS3 := Lib.hid hS3
                        go_simp
                        refine hK.out _ _ trivial (fun _ => ?_)
                        clear hK K hrun3 hS3
                        refine wpAnyH_takeAt (i := 10) (d := 9) (v := ?_) rfl rfl (by kernel_rfl) (by kernel_rfl) (by kernel_rfl) (fun _ _ _ h => h) (Or.inl ⟨by rfl, ?_⟩) hHeld ?_
                        rotate_left
                        · (intro _ hSw; go_simp; try with_reducible rfl)
                        simp only [List.setIfInBounds_toArray, List.set_cons_zero, List.set_cons_succ]
                        refine wpAnyH_done (by kernel_rfl) ?_ _
                        have hle := HS3.out.le_
                        obtain ⟨mm, hmm, hWt⟩ := HS3.out.waits
                        have HUP := Lib.hid HS3.out.upto
                        have HWT := Lib.hid hWt
                        have e1 : decide (se < lt1) = false := by simp; omega
                        have e2 : decide (se < mm) = false := by simp; omega
                        clear hWt
                        go_wp2_with fail
                        refine HUP.out.mono ?_
                        rintro e w' ⟨rfl, rfl⟩
                        go_wp2_with fail
                        refine HWT.out.mono ?_
                        rintro e w' ⟨rfl, rfl⟩
                        go_wp2_with fail
                        go_roundw
                        case rel => exact ⟨i + 1, _, _, _, _, _, _, se, lt1, by omega, by go_num, rfl, rfl, rfl, rfl, by omega, HS3.out.head (by omega) (by omega)⟩
                        case measure => simp [intOf]; omega
                      · have hck2 : k + 1 < cf := by omega
                        generalize hkk : k + 1 = kk at *
                        have HKK := Lib.hid hkk
                        have hadd : (k : Int) + 1 = (kk : Int) := by omega
                        clear hkk
                        have hkc : k ≤ cf := by omega
                        have hwr : IntKind.i64.wrap (kk : Int) = (kk : Int) := IntWalk.i64_in _ (by omega)
                        have hkk1 : kk ≤ nf := by omega
                        have hc0 : ¬ cf = 0 := by omega
                        have hkk2 : kk ≤ cf := by omega
                        have hck3 : ¬ cf = kk := by omega
                        obtain ⟨A1, c1, W2, hrun1, hX⟩ := (HSU.out.on (drewB U)).lostF hkn (by omega)
                        have HR1 := Lib.hid hrun1
                        have HX2 := Lib.hid hX
                        clear hrun1 hX
                        refine wp_region_held_drew (S := fun _ => True) (by kernel_rfl) trivial (fun hHeld => ?_)
                        have hHeld : True := trivial
                        generalize World.drew U = X0 at HR1 HX2 ⊢
                        refine wpAnyH_takeAt (i := 1) (d := 136) (v := ?_) rfl rfl (by kernel_rfl) (by kernel_rfl) (by kernel_rfl) (fun _ _ _ h => h) (Or.inl ⟨by rfl, ?_⟩) hHeld ?_
                        rotate_left
                        · (intro _ hSw; go_simp; try with_reducible rfl)
                        simp only [List.setIfInBounds_toArray, List.set_cons_zero, List.set_cons_succ]
                        refine wpAnyH_takeAt (i := 2) (d := 137) (v := ?_) rfl rfl (by kernel_rfl) (by kernel_rfl) (by kernel_rfl) (fun _ _ _ h => h) (Or.inl ⟨by rfl, ?_⟩) hHeld ?_
                        rotate_left
                        · (intro _ hSw; go_simp; try with_reducible rfl)
                        simp only [List.setIfInBounds_toArray, List.set_cons_zero, List.set_cons_succ]
                        refine wpAnyH_takeAt (i := 3) (d := 138) (v := ?_) rfl rfl (by kernel_rfl) (by kernel_rfl) (by kernel_rfl) (fun _ _ _ h => h) (Or.inl ⟨by rfl, ?_⟩) hHeld ?_
                        rotate_left
                        · (intro _ hSw; go_simp; try with_reducible rfl)
                        simp only [List.setIfInBounds_toArray, List.set_cons_zero, List.set_cons_succ]
                        refine wpAnyH_takeAt (i := 5) (d := 140) (v := ?_) rfl rfl (by kernel_rfl) (by kernel_rfl) (by kernel_rfl) (fun _ _ _ h => h) (Or.inl ⟨by rfl, ?_⟩) hHeld ?_
                        rotate_left
                        · (intro _ hSw; go_simp; try with_reducible rfl)
                        simp only [List.setIfInBounds_toArray, List.set_cons_zero, List.set_cons_succ]
                        refine wpAnyH_takeAt (i := 6) (d := 141) (v := ?_) rfl rfl (by kernel_rfl) (by kernel_rfl) (by kernel_rfl) (fun _ _ _ h => h) (Or.inl ⟨by rfl, ?_⟩) hHeld ?_
                        rotate_left
                        · (intro _ hSw; go_simp; try with_reducible rfl)
                        simp only [List.setIfInBounds_toArray, List.set_cons_zero, List.set_cons_succ]
                        refine wpAnyH_takeAt (i := 7) (d := 142) (v := ?_) rfl rfl (by kernel_rfl) (by kernel_rfl) (by kernel_rfl) (fun _ _ _ h => h) (Or.inl ⟨by rfl, ?_⟩) hHeld ?_
                        rotate_left
                        · (intro _ hSw; go_simp; try with_reducible rfl)
                        simp only [List.setIfInBounds_toArray, List.set_cons_zero, List.set_cons_succ]
                        refine wpAnyH_takeAt (i := 8) (d := 143) (v := ?_) rfl rfl (by kernel_rfl) (by kernel_rfl) (by kernel_rfl) (fun _ _ _ h => h) (Or.inl ⟨by rfl, ?_⟩) hHeld ?_
                        rotate_left
                        · (intro _ hSw; go_simp; try with_reducible rfl)
                        simp only [List.setIfInBounds_toArray, List.set_cons_zero, List.set_cons_succ]
                        refine wpAnyH_ready (rs := [0]) (by kernel_rfl) (by simp) ?_
                        refine AllReadyH.cons rfl (fun K hK => ?_) AllReadyH.nil
                        go_simp
                        refine hK.out _ _ trivial (fun _ => ?_)
                        clear hK K
                        refine wpAnyH_ready (rs := [4]) (by kernel_rfl) (by simp) ?_
                        refine AllReadyH.cons rfl (fun K hK => ?_) AllReadyH.nil
                        refine wp_append_step (s := .tmp 135) (x := .tmp 138) (t := 26) rfl rfl rfl rfl HR1.out ?_
                        go_simp
                        refine hK.out _ _ trivial (fun _ => ?_)
                        clear hK K
                        refine wpAnyH_ready (rs := [9]) (by kernel_rfl) (by simp) ?_
                        refine AllReadyH.cons rfl (fun K hK => ?_) AllReadyH.nil
                        obtain ⟨A3, c3, W3, hrun3, hS3⟩ := HX2.out (some ⟨gf, kk * 16, none⟩) (cf - kk) (fun hlt => ⟨_, rfl, by rw [HKK.out]⟩)
                        rw [HKK.out] at hrun3
                        refine wp_append_step (s := .tmp 139) (x := .tmp 143) (t := 26) rfl rfl rfl rfl hrun3 ?_
                        have HS3 := Lib.hid hS3
                        go_simp
                        refine hK.out _ _ trivial (fun _ => ?_)
                        clear hK K hrun3 hS3
                        refine wpAnyH_takeAt (i := 10) (d := 9) (v := ?_) rfl rfl (by kernel_rfl) (by kernel_rfl) (by kernel_rfl) (fun _ _ _ h => h) (Or.inl ⟨by rfl, ?_⟩) hHeld ?_
                        rotate_left
                        · (intro _ hSw; go_simp; try with_reducible rfl)
                        simp only [List.setIfInBounds_toArray, List.set_cons_zero, List.set_cons_succ]
                        refine wpAnyH_done (by kernel_rfl) ?_ _
                        have hle := HS3.out.le_
                        obtain ⟨mm, hmm, hWt⟩ := HS3.out.waits
                        have HUP := Lib.hid HS3.out.upto
                        have HWT := Lib.hid hWt
                        have e1 : decide (se < lt1) = false := by simp; omega
                        have e2 : decide (se < mm) = false := by simp; omega
                        clear hWt
                        go_wp2_with fail
                        refine HUP.out.mono ?_
                        rintro e w' ⟨rfl, rfl⟩
                        go_wp2_with fail
                        refine HWT.out.mono ?_
                        rintro e w' ⟨rfl, rfl⟩
                        go_wp2_with fail
                        go_roundw
                        case rel => exact ⟨i + 1, _, _, _, _, _, _, se, lt1, by omega, by go_num, rfl, rfl, rfl, rfl, by omega, HS3.out.head (by omega) (by omega)⟩
                        case measure => simp [intOf]; omega
                    · 
                      have hle := HSU.out.le_
                      obtain ⟨mm, hmm, hWt⟩ := HSU.out.waits
                      have HUP := Lib.hid HSU.out.upto
                      have HWT := Lib.hid hWt
                      have e1 : decide (se < lt1) = false := by simp; omega
                      have e2 : decide (se < mm) = false := by simp; omega
                      clear hWt
                      go_wp2_with fail
                      refine HUP.out.mono ?_
                      rintro e w' ⟨rfl, rfl⟩
                      go_wp2_with fail
                      refine HWT.out.mono ?_
                      rintro e w' ⟨rfl, rfl⟩
                      go_wp2_with fail
                      go_roundw
                      case rel => exact ⟨i + 1, _, _, _, _, _, _, se, lt1, by omega, by go_num, rfl, rfl, rfl, rfl, by omega, HSU.out.head (by omega) (by omega)⟩
                      case measure => simp [intOf]; omega
              · rcases Nat.eq_zero_or_pos nb with hf0 | hf0
                · subst hf0
                  clear hcB hcF
                  have hle := HS.out.le_
                  obtain ⟨mm, hmm, hWt⟩ := HS.out.waits
                  have HUP := Lib.hid HS.out.upto
                  have HWT := Lib.hid hWt
                  have e1 : decide (se < lt) = false := by simp; omega
                  have e2 : decide (se < mm) = false := by simp; omega
                  clear hWt
                  go_wp2_with fail
                  refine HUP.out.mono ?_
                  rintro e w' ⟨rfl, rfl⟩
                  go_wp2_with fail
                  refine HWT.out.mono ?_
                  rintro e w' ⟨rfl, rfl⟩
                  go_wp2_with fail
                  go_roundw
                  case rel => exact ⟨i + 1, _, _, _, _, _, _, se, lt, by omega, by go_num, rfl, rfl, rfl, rfl, by omega, HS.out.head (by omega) (by omega)⟩
                  case measure => simp [intOf]; omega
                · obtain ⟨gf, rfl⟩ := hcB.2.2.2 hf0
                  have hcF1 := hcB.1
                  have hcF2 := hcB.2.1
                  have hcF3 := hcB.2.2.1
                  have hne : ((nb : Int) == 0) = false := by simp; omega
                  have hkn0 : zz % nb < nb := Nat.mod_lt _ hf0
                  have hk1 : (zz : Int) % (nb : Int) = ((zz % nb : Nat) : Int) := rfl
                  have hk2 : Int.tmod (zz : Int) (nb : Int) = ((zz % nb : Nat) : Int) := rfl
                  clear hcB hcF
                  generalize zz % nb = k at hkn0 hk1 hk2
                  have hkn : k < nb := hkn0
                  obtain ⟨gf2, y, e, hc, hcall⟩ := HS.out.comeA hkn
                  injection e with e
                  injection e with e
                  subst e
                  have HC := Lib.hid hcall
                  clear hcall hkn0
                  go_wp2_with (first | (refine load_elem (.tmp 87) rfl hc ?_) | fail)
                  refine HC.out.mono ?_
                  rintro e U ⟨⟨v, rfl⟩, hSU⟩
                  have k2 : U.cell? ⟨g, 2, none⟩ = some (.bool st) := cell_of_row U g 2 _ _ _ hSU.pk
                  have k3 : U.cell? ⟨g, 3, none⟩ = some (.bool true) := cell_of_row U g 3 _ _ _ hSU.pk
                  have HSU := Lib.hid hSU
                  clear hSU hc HC HS k1 hk1 hk2 hne
                  cases st
                  · go_upto_region 22 with fail
                    clear k2 k3
                    by_cases hck : cb = k + 1
                    · have hnk : nb = k + 1 := by omega
                      subst hck hnk
                      generalize hkk : k + 1 = kk at *
                      have HKK := Lib.hid hkk
                      have hadd : (k : Int) + 1 = (kk : Int) := by omega
                      clear hkk
                      have hkc : k ≤ kk := by omega
                      have hwr : IntKind.i64.wrap (kk : Int) = (kk : Int) := IntWalk.i64_in _ (by omega)
                      have hkk1 : kk ≤ kk := by omega
                      have hc0 : ¬ kk = 0 := by omega
                      obtain ⟨A1, c1, W2, hrun1, hX⟩ := (HSU.out.on (drewB U)).lostB hkn (by omega)
                      have HR1 := Lib.hid hrun1
                      have HX2 := Lib.hid hX
                      clear hrun1 hX
                      refine wp_region_held_drew (S := fun _ => True) (by kernel_rfl) trivial (fun hHeld => ?_)
                      have hHeld : True := trivial
                      generalize World.drew U = X0 at HR1 HX2 ⊢
                      refine wpAnyH_takeAt (i := 1) (d := 94) (v := ?_) rfl rfl (by kernel_rfl) (by kernel_rfl) (by kernel_rfl) (fun _ _ _ h => h) (Or.inl ⟨by rfl, ?_⟩) hHeld ?_
                      rotate_left
                      · (intro _ hSw; go_simp; try with_reducible rfl)
                      simp only [List.setIfInBounds_toArray, List.set_cons_zero, List.set_cons_succ]
                      refine wpAnyH_takeAt (i := 2) (d := 95) (v := ?_) rfl rfl (by kernel_rfl) (by kernel_rfl) (by kernel_rfl) (fun _ _ _ h => h) (Or.inl ⟨by rfl, ?_⟩) hHeld ?_
                      rotate_left
                      · (intro _ hSw; go_simp; try with_reducible rfl)
                      simp only [List.setIfInBounds_toArray, List.set_cons_zero, List.set_cons_succ]
                      refine wpAnyH_takeAt (i := 3) (d := 96) (v := ?_) rfl rfl (by kernel_rfl) (by kernel_rfl) (by kernel_rfl) (fun _ _ _ h => h) (Or.inl ⟨by rfl, ?_⟩) hHeld ?_
                      rotate_left
                      · (intro _ hSw; go_simp; try with_reducible rfl)
                      simp only [List.setIfInBounds_toArray, List.set_cons_zero, List.set_cons_succ]
                      refine wpAnyH_takeAt (i := 5) (d := 98) (v := ?_) rfl rfl (by kernel_rfl) (by kernel_rfl) (by kernel_rfl) (fun _ _ _ h => h) (Or.inl ⟨by rfl, ?_⟩) hHeld ?_
                      rotate_left
                      · (intro _ hSw; go_simp; try with_reducible rfl)
                      simp only [List.setIfInBounds_toArray, List.set_cons_zero, List.set_cons_succ]
                      refine wpAnyH_takeAt (i := 6) (d := 99) (v := ?_) rfl rfl (by kernel_rfl) (by kernel_rfl) (by kernel_rfl) (fun _ _ _ h => h) (Or.inl ⟨by rfl, ?_⟩) hHeld ?_
                      rotate_left
                      · (intro _ hSw; go_simp; try with_reducible rfl)
                      simp only [List.setIfInBounds_toArray, List.set_cons_zero, List.set_cons_succ]
                      refine wpAnyH_takeAt (i := 7) (d := 100) (v := ?_) rfl rfl (by kernel_rfl) (by kernel_rfl) (by kernel_rfl) (fun _ _ _ h => h) (Or.inl ⟨by rfl, ?_⟩) hHeld ?_
                      rotate_left
                      · (intro _ hSw; go_simp; try with_reducible rfl)
                      simp only [List.setIfInBounds_toArray, List.set_cons_zero, List.set_cons_succ]
                      refine wpAnyH_takeAt (i := 8) (d := 101) (v := ?_) rfl rfl (by kernel_rfl) (by kernel_rfl) (by kernel_rfl) (fun _ _ _ h => h) (Or.inl ⟨by rfl, ?_⟩) hHeld ?_
                      rotate_left
                      · (intro _ hSw; go_simp; try with_reducible rfl)
                      simp only [List.setIfInBounds_toArray, List.set_cons_zero, List.set_cons_succ]
                      refine wpAnyH_ready (rs := [0]) (by kernel_rfl) (by simp) ?_
                      refine AllReadyH.cons rfl (fun K hK => ?_) AllReadyH.nil
                      go_simp
                      refine hK.out _ _ trivial (fun _ => ?_)
                      clear hK K
                      refine wpAnyH_ready (rs := [4]) (by kernel_rfl) (by simp) ?_
                      refine AllReadyH.cons rfl (fun K hK => ?_) AllReadyH.nil
                      refine wp_append_step (s := .tmp 93) (x := .tmp 96) (t := 26) rfl rfl rfl rfl HR1.out ?_
                      go_simp
                      refine hK.out _ _ trivial (fun _ => ?_)
                      clear hK K
                      refine wpAnyH_ready (rs := [9]) (by kernel_rfl) (by simp) ?_
                      refine AllReadyH.cons rfl (fun K hK => ?_) AllReadyH.nil
                      obtain ⟨A3, c3, W3, hrun3, hS3⟩ := HX2.out (some ⟨gf, 0, none⟩) 0 (fun hlt => by have := HKK.out; omega)
                      rw [HKK.out, Nat.sub_self] at hrun3
                      refine wp_append_step (s := .tmp 97) (x := .tmp 101) (t := 26) rfl rfl rfl rfl hrun3 ?_
                      have HS3 := Lib.hid hS3
                      go_simp
                      refine hK.out _ _ trivial (fun _ => ?_)
                      clear hK K hrun3 hS3
                      refine wpAnyH_takeAt (i := 10) (d := 10) (v := ?_) rfl rfl (by kernel_rfl) (by kernel_rfl) (by kernel_rfl) (fun _ _ _ h => h) (Or.inl ⟨by rfl, ?_⟩) hHeld ?_
                      rotate_left
                      · (intro _ hSw; go_simp; try with_reducible rfl)
                      simp only [List.setIfInBounds_toArray, List.set_cons_zero, List.set_cons_succ]
                      refine wpAnyH_done (by kernel_rfl) ?_ _
                      have k3 : W3.cell? ⟨g, 3, none⟩ = some (.bool true) := cell_of_row W3 g 3 _ _ _ HS3.out.pk
                      have hle := HS3.out.le_
                      obtain ⟨mm, hmm, hWt⟩ := HS3.out.waits
                      have HUP := Lib.hid HS3.out.upto
                      have HWT := Lib.hid hWt
                      have e1 : decide (se < lt) = false := by simp; omega
                      have e2 : decide (se < mm) = false := by simp; omega
                      clear hWt
                      go_wp2_with fail
                      refine HUP.out.mono ?_
                      rintro e w' ⟨rfl, rfl⟩
                      go_wp2_with fail
                      refine HWT.out.mono ?_
                      rintro e w' ⟨rfl, rfl⟩
                      go_wp2_with fail
                      go_roundw
                      case rel => exact ⟨i + 1, _, _, _, _, _, _, se, lt, by omega, by go_num, rfl, rfl, rfl, rfl, by omega, HS3.out.head (by omega) (by omega)⟩
                      case measure => simp [intOf]; omega
                    · have hck2 : k + 1 < cb := by omega
                      generalize hkk : k + 1 = kk at *
                      have HKK := Lib.hid hkk
                      have hadd : (k : Int) + 1 = (kk : Int) := by omega
                      clear hkk
                      have hkc : k ≤ cb := by omega
                      have hwr : IntKind.i64.wrap (kk : Int) = (kk : Int) := IntWalk.i64_in _ (by omega)
                      have hkk1 : kk ≤ nb := by omega
                      have hc0 : ¬ cb = 0 := by omega
                      have hkk2 : kk ≤ cb := by omega
                      have hck3 : ¬ cb = kk := by omega
                      obtain ⟨A1, c1, W2, hrun1, hX⟩ := (HSU.out.on (drewB U)).lostB hkn (by omega)
                      have HR1 := Lib.hid hrun1
                      have HX2 := Lib.hid hX
                      clear hrun1 hX
                      refine wp_region_held_drew (S := fun _ => True) (by kernel_rfl) trivial (fun hHeld => ?_)
                      have hHeld : True := trivial
                      generalize World.drew U = X0 at HR1 HX2 ⊢
                      refine wpAnyH_takeAt (i := 1) (d := 94) (v := ?_) rfl rfl (by kernel_rfl) (by kernel_rfl) (by kernel_rfl) (fun _ _ _ h => h) (Or.inl ⟨by rfl, ?_⟩) hHeld ?_
                      rotate_left
                      · (intro _ hSw; go_simp; try with_reducible rfl)
                      simp only [List.setIfInBounds_toArray, List.set_cons_zero, List.set_cons_succ]
                      refine wpAnyH_takeAt (i := 2) (d := 95) (v := ?_) rfl rfl (by kernel_rfl) (by kernel_rfl) (by kernel_rfl) (fun _ _ _ h => h) (Or.inl ⟨by rfl, ?_⟩) hHeld ?_
                      rotate_left
                      · (intro _ hSw; go_simp; try with_reducible rfl)
                      simp only [List.setIfInBounds_toArray, List.set_cons_zero, List.set_cons_succ]
                      refine wpAnyH_takeAt (i := 3) (d := 96) (v := ?_) rfl rfl (by kernel_rfl) (by kernel_rfl) (by kernel_rfl) (fun _ _ _ h => h) (Or.inl ⟨by rfl, ?_⟩) hHeld ?_
                      rotate_left
                      · (intro _ hSw; go_simp; try with_reducible rfl)
                      simp only [List.setIfInBounds_toArray, List.set_cons_zero, List.set_cons_succ]
                      refine wpAnyH_takeAt (i := 5) (d := 98) (v := ?_) rfl rfl (by kernel_rfl) (by kernel_rfl) (by kernel_rfl) (fun _ _ _ h => h) (Or.inl ⟨by rfl, ?_⟩) hHeld ?_
                      rotate_left
                      · (intro _ hSw; go_simp; try with_reducible rfl)
                      simp only [List.setIfInBounds_toArray, List.set_cons_zero, List.set_cons_succ]
                      refine wpAnyH_takeAt (i := 6) (d := 99) (v := ?_) rfl rfl (by kernel_rfl) (by kernel_rfl) (by kernel_rfl) (fun _ _ _ h => h) (Or.inl ⟨by rfl, ?_⟩) hHeld ?_
                      rotate_left
                      · (intro _ hSw; go_simp; try with_reducible rfl)
                      simp only [List.setIfInBounds_toArray, List.set_cons_zero, List.set_cons_succ]
                      refine wpAnyH_takeAt (i := 7) (d := 100) (v := ?_) rfl rfl (by kernel_rfl) (by kernel_rfl) (by kernel_rfl) (fun _ _ _ h => h) (Or.inl ⟨by rfl, ?_⟩) hHeld ?_
                      rotate_left
                      · (intro _ hSw; go_simp; try with_reducible rfl)
                      simp only [List.setIfInBounds_toArray, List.set_cons_zero, List.set_cons_succ]
                      refine wpAnyH_takeAt (i := 8) (d := 101) (v := ?_) rfl rfl (by kernel_rfl) (by kernel_rfl) (by kernel_rfl) (fun _ _ _ h => h) (Or.inl ⟨by rfl, ?_⟩) hHeld ?_
                      rotate_left
                      · (intro _ hSw; go_simp; try with_reducible rfl)
                      simp only [List.setIfInBounds_toArray, List.set_cons_zero, List.set_cons_succ]
                      refine wpAnyH_ready (rs := [0]) (by kernel_rfl) (by simp) ?_
                      refine AllReadyH.cons rfl (fun K hK => ?_) AllReadyH.nil
                      go_simp
                      refine hK.out _ _ trivial (fun _ => ?_)
                      clear hK K
                      refine wpAnyH_ready (rs := [4]) (by kernel_rfl) (by simp) ?_
                      refine AllReadyH.cons rfl (fun K hK => ?_) AllReadyH.nil
                      refine wp_append_step (s := .tmp 93) (x := .tmp 96) (t := 26) rfl rfl rfl rfl HR1.out ?_
                      go_simp
                      refine hK.out _ _ trivial (fun _ => ?_)
                      clear hK K
                      refine wpAnyH_ready (rs := [9]) (by kernel_rfl) (by simp) ?_
                      refine AllReadyH.cons rfl (fun K hK => ?_) AllReadyH.nil
                      obtain ⟨A3, c3, W3, hrun3, hS3⟩ := HX2.out (some ⟨gf, kk * 16, none⟩) (cb - kk) (fun hlt => ⟨_, rfl, by rw [HKK.out]⟩)
                      rw [HKK.out] at hrun3
                      refine wp_append_step (s := .tmp 97) (x := .tmp 101) (t := 26) rfl rfl rfl rfl hrun3 ?_
                      have HS3 := Lib.hid hS3
                      go_simp
                      refine hK.out _ _ trivial (fun _ => ?_)
                      clear hK K hrun3 hS3
                      refine wpAnyH_takeAt (i := 10) (d := 10) (v := ?_) rfl rfl (by kernel_rfl) (by kernel_rfl) (by kernel_rfl) (fun _ _ _ h => h) (Or.inl ⟨by rfl, ?_⟩) hHeld ?_
                      rotate_left
                      · (intro _ hSw; go_simp; try with_reducible rfl)
                      simp only [List.setIfInBounds_toArray, List.set_cons_zero, List.set_cons_succ]
                      refine wpAnyH_done (by kernel_rfl) ?_ _
                      have k3 : W3.cell? ⟨g, 3, none⟩ = some (.bool true) := cell_of_row W3 g 3 _ _ _ HS3.out.pk
                      have hle := HS3.out.le_
                      obtain ⟨mm, hmm, hWt⟩ := HS3.out.waits
                      have HUP := Lib.hid HS3.out.upto
                      have HWT := Lib.hid hWt
                      have e1 : decide (se < lt) = false := by simp; omega
                      have e2 : decide (se < mm) = false := by simp; omega
                      clear hWt
                      go_wp2_with fail
                      refine HUP.out.mono ?_
                      rintro e w' ⟨rfl, rfl⟩
                      go_wp2_with fail
                      refine HWT.out.mono ?_
                      rintro e w' ⟨rfl, rfl⟩
                      go_wp2_with fail
                      go_roundw
                      case rel => exact ⟨i + 1, _, _, _, _, _, _, se, lt, by omega, by go_num, rfl, rfl, rfl, rfl, by omega, HS3.out.head (by omega) (by omega)⟩
                      case measure => simp [intOf]; omega
                  · 
                    have hle := HSU.out.le_
                    obtain ⟨mm, hmm, hWt⟩ := HSU.out.waits
                    have HUP := Lib.hid HSU.out.upto
                    have HWT := Lib.hid hWt
                    have e1 : decide (se < lt) = false := by simp; omega
                    have e2 : decide (se < mm) = false := by simp; omega
                    clear hWt
                    go_wp2_with fail
                    refine HUP.out.mono ?_
                    rintro e w' ⟨rfl, rfl⟩
                    go_wp2_with fail
                    refine HWT.out.mono ?_
                    rintro e w' ⟨rfl, rfl⟩
                    go_wp2_with fail
                    go_roundw
                    case rel => exact ⟨i + 1, _, _, _, _, _, _, se, lt, by omega, by go_num, rfl, rfl, rfl, rfl, by omega, HSU.out.head (by omega) (by omega)⟩
                    case measure => simp [intOf]; omega
    · obtain rfl : i = n := by omega
      obtain ⟨T, la, s, T', lb, s', D, fw, bkl, hbW, -⟩ := hH
      have HBW := Lib.hid hbW
      clear hbW hlt
      go_wp2_with (go_at_call 9; refine (awake_any _).mono ?_; rintro e w' ⟨rfl, hb'⟩)
      go_ret
      exact ⟨rfl, HBW.out.trans (hb'.mono HBW.out.size)⟩

theorem linkFifo_many (r again : Value) (A : Option Addr) (n c : Nat) (w : World) (hn : 150 < n) :
    Calls Try.prog 4 #[r, again, .slice A n c] w fun e w' => e = .returned (.bool true) ∧ Below w.heap.size w w' := by
  have hd : decide (150 < (n : Int)) = true := by simp; omega
  go_enter Try.func4, Try.ntmps4
  go_wp2_with (go_at_call 9; refine (awake_any _).mono ?_; rintro e w' ⟨rfl, hb⟩)
  go_ret
  exact ⟨rfl, hb⟩

theorem own : ownKnob Try.prog.godebug = none := by kernel_rfl
theorem laidOut : laidOutB Try.prog = true := by kernel_rfl

set_option maxRecDepth 100000 in
theorem linkFifo_lifted (os : Os) (started : os.Started) (H : Type) (enc : TypeId × Value → H) :
    ReturnsInHanded {} Try.checked os 4 .any (Rows.linkFifoSpec.pre6 enc Try.prog Try.f4 Rows.linkFifoRow.domain false) (Rows.linkFifoSpec.post enc Try.prog Try.f4 false true false false) := by
  refine returnsInHanded_of_change (C := Try.checked) own started (by kernel_rfl) Try.func4
    (ChangeSpec.witness6 (enc := enc) (C := Try.checked) false ⟨#[], #[.int .i64 0, .int .i64 0, .slice none 0 0], []⟩ 8 (by kernel_rfl) (by kernel_rfl) (by kernel_rfl) (by kernel_rfl)) ?_
  intro W base args ds gs before hval0 hW _ _
  have hval : ∀ (j : Nat) t v, Try.f4.params[j]? = some t → args[j]? = some v → Value.okWide Try.prog W .any base t v := hval0
  have hW' := hW
  obtain ⟨p, q, hA0, hV, rfl, _, _⟩ := hW
  have hA : DataW.TrodAll enc Try.prog W 0 (fun _ => true) true Try.f4.params.toList args.toList ds p := hA0
  rw [Try.params4] at hA hval
  obtain ⟨v0, vs0, d0, ds0, p0, q0, hargs, rfl, rfl, h0, r0⟩ := trodAll_cons hA
  obtain ⟨v1, vs1, d1, ds1, p1, q1, rfl, rfl, rfl, h1, r1⟩ := trodAll_cons r0
  obtain ⟨v2, vs2, d2, ds2, p2, q2, rfl, rfl, rfl, h2, r2⟩ := trodAll_cons r1
  obtain ⟨rfl, rfl, rfl⟩ := trodAll_nil r2
  obtain rfl : args = #[v0, v1, v2] := by cases args; simp_all
  obtain ⟨rfl, rfl⟩ := trodVars_none hV
  have k0 := h0
  have lt0 : ∀ x ∈ p0, x.block < W.heap.size := by obtain ⟨m, hm⟩ := k0; exact DataW.trod_lt m _ _ _ hm
  have k1 := h1
  have lt1 : ∀ x ∈ p1, x.block < W.heap.size := by obtain ⟨m, hm⟩ := k1; exact DataW.trod_lt m _ _ _ hm
  have k2 := h2
  have lt2 : ∀ x ∈ p2, x.block < W.heap.size := by obtain ⟨m, hm⟩ := k2; exact DataW.trod_lt m _ _ _ hm
  obtain ⟨a0, rfl, _, _, wf0⟩ := open_int Try.underlying3 (hval 0 3 v0 rfl rfl) h0
  obtain ⟨a1, rfl, _, _, wf1⟩ := open_int Try.underlying2 (hval 1 2 v1 rfl rfl) h1
  have hwalk : Calls Try.prog 4 #[.int .i64 a0, .int .i64 a1, v2] W fun e w' => e = .returned (.bool true) ∧ Below W.heap.size W w' := by
    obtain ⟨x2, len2, cap2, rfl⟩ := okWide_slice Try.underlying63 (hval 2 63 v2 rfl rfl)
    obtain ⟨fuel2, hf2⟩ := h2
    obtain ⟨l, A, n, c, hv, hl, hc, hcm, hL, hok⟩ := open_picks (by simpa [Value.cells] using hf2)
    injection hv with e1 e2 e3
    subst e1 e2 e3
    by_cases hn : 150 < len2
    · exact linkFifo_many _ _ x2 len2 cap2 W hn
    · have b0 := bounds_i64 wf0
      have b1 := bounds_i64 wf1
      exact linkFifo_walk a0 a1 x2 len2 cap2 l W hl (by omega) hL hok (by omega) (by omega) (by omega) (by omega)
  clear hA0 hval0
  refine hwalk.mono fun e W' ⟨he, bel⟩ => ?_
  subst he
  exact ⟨_, rfl, _, _, _, [], _, [], hW', trodAll_mk1 (shut_bool Try.underlying4 _), (trodAll_cons_mk (Below.trod laidOut (by kernel_rfl) (of_decide_eq_true (by kernel_rfl)) k0 bel lt0) (trodAll_cons_mk (Below.trod laidOut (by kernel_rfl) (of_decide_eq_true (by kernel_rfl)) k1 bel lt1) (trodAll_cons_mk (Below.trod laidOut (by kernel_rfl) (of_decide_eq_true (by kernel_rfl)) k2 bel lt2) trodAll_mk0))), rfl, bel.frame _, fun h => by cases h⟩

theorem linkFifo_proved : Rows.LinkFifoSaid :=
  OpenClaim.holds_of_wide 4 Try.f4 rfl rfl rfl rfl rfl rfl rfl ⟨rfl, rfl, rfl, rfl, rfl⟩ rfl rfl rfl rfl rfl (by kernel_rfl) Try.func4 (by kernel_rfl)
    (of_decide_eq_true (by kernel_rfl)) (by unfold Func.isWrapper; first | (rw [if_pos (by decide +kernel)]; kernel_rfl) | (rw [if_neg (by decide +kernel)]; exact ⟨rfl, rfl⟩))
    (fun os started H enc _ => linkFifo_lifted os started H enc)

end Go.Proofs.Ytbkkpimhoeagdaa
