/- LinkAll: for every width, every span and every list of picks the call returns true (if all that goes out on both sides comes, each tick, all that was sent is let in, and acknowledged, within again ticks and three, whatever was lost ahead), and changes nothing that was there. No conditions. -/
import Derived.Test.YtbkkpimhoeagdaaLkS
import Derived.ChangeOld
import Derived.Deep.CutBlock
namespace Go.Proofs.Ytbkkpimhoeagdaa
open Go.ChangeShapes Go.WideShapes Go.ChangeAt Go.RowKit

set_option maxRecDepth 20000 in
set_option maxHeartbeats 12800000 in
theorem linkAll_walk (r again : Int) (A : Option Addr) (n c : Nat) (l : List Pk) (w : World) (hl : l.length = n) (hn : n ≤ 60) (ha : again ≤ 20) (hA : Lies w w.heap.size A (flat encPk l)) (hok : ∀ x ∈ l, PkOk x) (h1 : -9223372036854775808 ≤ r) (h2 : r ≤ 9223372036854775807) (h3 : -9223372036854775808 ≤ again) (h4 : again ≤ 9223372036854775807) :
    Calls Try.prog 5 #[.int .i64 r, .int .i64 again, .slice A n c] w fun e w' => e = .returned (.bool true) ∧ Below w.heap.size w w' := by
  have hd : decide (60 < (n : Int)) = false := by simp; omega
  have hd2 : decide (20 < again) = false := by simp; omega
  have HL := Lib.hid hl
  have HA := Lib.hid hA
  have HOK := Lib.hid hok
  have hN := link_new 0 1 r again w w.heap.size (fun _ => False) (Nat.le_refl _) (fun _ h => h.elim) h1 h2 h3 h4 (by decide) (by decide)
  have HB : Hid (∀ (W : World) (D0 : Nat → Prop), w.heap.size ≤ W.heap.size → (∀ b, D0 b → w.heap.size ≤ b ∧ b < W.heap.size) → Calls Try.prog 10 #[.int .u8 1, .int .u8 0, .int .i64 r, .int .i64 again] W fun e w' =>
      ∃ p pw pg : Nat, e = .returned (.pointer (some ⟨p, 0, none⟩)) ∧ LinkB w' w.heap.size p pw pg (.slice none 0 0) [] (newLs 1 0 r again) (fun k => D0 k ∨ k = p ∨ k = pw ∨ k = pg) ∧ RowKit.Below W.heap.size W w' ∧ W.heap.size ≤ p ∧ W.heap.size ≤ pw ∧ W.heap.size ≤ pg) := fun W D0 hb hD => link_new 1 0 r again W w.heap.size D0 hb hD h1 h2 h3 h4 (by decide) (by decide)
  have hmx : max 1 again = (againN again : Int) := by unfold againN; omega
  have hR1 : 1 ≤ againN again := by unfold againN; omega
  have hR2 : againN again ≤ 20 := by unfold againN; omega
  have HAL := Lib.hid (al_new r again)
  clear hl hA hok h1 h2 h3 h4 ha
  go_enter Try.func5, Try.ntmps5
  go_wp2_with fail
  refine hN.mono ?_
  rintro e w1 ⟨p, pw, pg, rfl, hL, hb1, -, -, -⟩
  have HL1 := Lib.hid hL
  have HB1 := Lib.hid hb1
  clear hN hL hb1
  go_wp2_with fail
  refine (HB.out w1 _ HB1.out.size (fun b hb => HL1.out.win.din b hb)).mono ?_
  rintro e w2 ⟨p', pw', pg', rfl, hL2, hb2, q1, q2, q3⟩
  have HS : Hid (AlS w ⟨p, pw, pg⟩ ⟨p', pw', pg'⟩ (.slice none 0 0) (.slice none 0 0) [] [] (newLs 0 1 r again) (newLs 1 0 r again) w2) := AlS.start HL1.out HB1.out hL2 hb2 q1 q2 q3
  have HSD : Hid ((newLs 0 1 r again).sent = (newLs 0 1 r again).last ∧ (newLs 1 0 r again).g.u = 0) := ⟨rfl, rfl⟩
  clear hL2 hb2 q1 q2 q3 HB HL1 HB1
  generalize newLs 0 1 r again = s0 at HS HSD HAL
  generalize newLs 1 0 r again = t0 at HS HSD HAL
  generalize againN again = R at hmx hR1 hR2 HAL
  go_upto_block 0 with fail
  go_cut [9, 10, 11] from 12 (fun v9 v10 v11 wx => ∃ (sent lt : Nat) (s s' : Ls), v11 = .int .i64 n ∧ v9 = .int .u32 sent ∧ v10 = .int .u32 lt ∧ sent ≤ 3 * n ∧ s'.g.u = lt ∧ s.sent = s.last ∧ Al s s' sent (65 * n) R n ∧ AlS w ⟨p, pw, pg⟩ ⟨p', pw', pg'⟩ (.slice none 0 0) (.slice none 0 0) [] [] s s' wx)
  case first =>
   go_wp2_with fail
   go_loopw [9, 10, 11, 12] (fun v9 v10 v11 v12 wr => ∃ (i sent lt : Nat) (s s' : Ls), i ≤ n ∧ v12 = .int .i64 i ∧ v11 = .int .i64 i ∧ v9 = .int .u32 sent ∧ v10 = .int .u32 lt ∧ sent ≤ 3 * i ∧ s'.g.u = lt ∧ s.sent = s.last ∧ Al s s' sent (65 * i) R i ∧ AlS w ⟨p, pw, pg⟩ ⟨p', pw', pg'⟩ (.slice none 0 0) (.slice none 0 0) [] [] s s' wr) (fun _ _ _ v12 _ => n - (intOf v12).toNat)
   case atStart => exact ⟨0, 0, 0, s0, t0, Nat.zero_le _, rfl, rfl, rfl, rfl, Nat.zero_le _, HSD.out.2, HSD.out.1, HAL.out, HS.out⟩
   case round =>
     clear HS HSD HAL
     obtain ⟨i, sent, lt, s, s', hi, rfl, rfl, rfl, rfl, hsent, hu, hsd, hal, hS⟩ := hrel
     have HU := Lib.hid hu
     have HSD := Lib.hid hsd
     have HAL := Lib.hid hal
     have HS := Lib.hid hS
     clear hu hsd hal hS
     by_cases hlt : i < n
     · have hil : i < l.length := by rw [HL.out]; exact hlt
       obtain ⟨b, off, rfl, hbw, hc⟩ := pick_at HA.out hil
       have hx := HOK.out l[i] (List.getElem_mem hil)
       generalize l[i] = x at hc hx
       obtain ⟨sn, z, st, bk, ak⟩ := x
       have HG : Hid (∀ W, Below w.heap.size w W → W.cell? ⟨b, off + i * 5, none⟩ = some (.int .u8 (sn : Int)) ∧ W.cell? ⟨b, off + i * 5 + 2, none⟩ = some (.bool st) ∧ W.cell? ⟨b, off + i * 5 + 3, none⟩ = some (.bool bk)) := fun W hW =>
         ⟨(hW.cell (p := ⟨b, off + i * 5, none⟩) hbw).trans (hc 0 _ rfl), (hW.cell (p := ⟨b, off + i * 5 + 2, none⟩) hbw).trans (hc 2 _ rfl), (hW.cell (p := ⟨b, off + i * 5 + 3, none⟩) hbw).trans (hc 3 _ rfl)⟩
       clear hc hx hil hbw
       generalize hti : i + 1 = t
       have hadd : (i : Int) + 1 = (t : Int) := by omega
       have htn : t ≤ n := by omega
       have hwr : IntKind.i64.wrap (t : Int) = (t : Int) := IntWalk.i64_in _ (by omega)
       have HTI := Lib.hid hti
       clear hti
       have hmod : (sn : Int) % 4 = ((sn % 4 : Nat) : Int) := by omega
       have hmtm : Int.tmod (sn : Int) 4 = ((sn % 4 : Nat) : Int) := rfl
       have hm4 : sn % 4 ≤ 3 := by omega
       generalize sn % 4 = m at hmod hmtm hm4
       go_wp2_with fail
       go_loopw [9, 13] (fun v9 v13 wr => ∃ (q se : Nat) (s : Ls), q ≤ m ∧ v13 = .int .u8 q ∧ v9 = .int .u32 se ∧ se ≤ 3 * i + q ∧ Al s s' se (65 * i) R i ∧ AlS w ⟨p, pw, pg⟩ ⟨p', pw', pg'⟩ (.slice none 0 0) (.slice none 0 0) [] [] s s' wr) (fun _ v13 _ => m - (intOf v13).toNat)
       case atStart => exact ⟨0, sent, s, Nat.zero_le _, rfl, rfl, hsent, HAL.out, HS.out⟩
       case round =>
         clear HS HAL HSD hsent
         obtain ⟨q, se, s, hq, rfl, rfl, hse, hal, hS⟩ := hrel
         obtain ⟨k0, -, -⟩ := HG.out _ hS.below
         by_cases hqm : q < m
         · have hcall := hS.send (sent := se) (by omega) hal.sa.last
           have hal2 := hal.send (by omega) hS.small.1 hS.small.2.1
           have hsN : s.sendN ≤ 1 := by unfold Ls.sendN; split <;> omega
           generalize s.sendN = sN at hcall hal2 hsN
           have HC := Lib.hid hcall
           have HAL2 := Lib.hid hal2
           clear hS hcall hal hal2
           go_wp2_with fail
           refine HC.out.mono ?_
           rintro e w5 ⟨rfl, hS5⟩
           have HS5 := Lib.hid hS5
           clear hS5 k0
           go_wp2
           go_roundw
           case rel => exact ⟨q + 1, se + sN, _, by omega, by go_num, by go_num, by omega, HAL2.out, HS5.out⟩
           case measure => simp [intOf]; omega
         · obtain rfl : m = q := by omega
           have HAL := Lib.hid hal
           have HS := Lib.hid hS
           clear hqm hq hal hS
           go_upto_region 14 with fail
           clear k0 hmod hmtm
           go_wp2_with fail
           refine (HS.out.outA (t : Int)).mono ?_
           rintro e w5 ⟨A1, n1, c1, rfl, hn1, hS5⟩
           have HS5 := Lib.hid hS5
           clear hS5
           go_wp2_with fail
           refine (HS5.out.outB (t : Int)).mono ?_
           rintro e w6 ⟨A2, n2, c2, rfl, hn2, hS6⟩
           have HO : Hid (Al (s.outS (t : Int)) (s'.outS (t : Int)) se (65 * i) R t) := HAL.out.outs HTI.out.symm (by omega)
           have HCF : Hid (∀ F ∈ s.outF (t : Int), Chk se F) := HAL.out.sa.outF _
           have HCB : Hid (∀ G ∈ s'.outF (t : Int), Wrd (s'.outS (t : Int)).g.u G) := HAL.out.words HS.out.small.2.2.1 HS.out.small.2.2.2.1 (by omega) _
           have HU1 : Hid ((s'.outS (t : Int)).g.u = lt) := (outS_u _ _).trans HU.out
           have HSD1 : Hid ((s.outS (t : Int)).sent = (s.outS (t : Int)).last) := outS_sent _ _
           have hn66 : n2 ≤ 65 := hn2.out ▸ HS.out.outNb _
           have hn65 : n1 ≤ 65 := hn1.out ▸ HS.out.outN _
           have HS6 := Lib.hid hS6
           clear hS6 HS5 HS HAL HU
           generalize s.outS (t : Int) = s1 at HO HSD1 HS6 
           generalize s'.outS (t : Int) = s1' at HO HCB HU1 HS6 
           generalize s.outF (t : Int) = Fs at hn1 HCF HS6 
           generalize s'.outF (t : Int) = Gs at hn2 HCB HS6 
           go_upto_block 4 with fail
           go_cut [10, 16, 17, 18] from 41 to 116 (fun v10 _ _ _ wx => ∃ (lt : Nat) (s3 : Ls), v10 = .int .u32 lt ∧ s3.g.u = lt ∧ Al s1 s3 se (65 * t) R t ∧ (∀ G ∈ Gs, Wrd s3.g.u G) ∧ AlS w ⟨p, pw, pg⟩ ⟨p', pw', pg'⟩ (.slice A1 n1 c1) (.slice A2 n2 c2) Fs Gs s1 s3 wx)
           case first =>
             go_wp2_with fail
             go_loopw [10, 16] (fun v10 v16 wr => ∃ (k lt : Nat), k ≤ n1 ∧ v16 = .int .i64 k ∧ v10 = .int .u32 lt ∧ (comeN s1' Fs k).g.u = lt ∧ AlS w ⟨p, pw, pg⟩ ⟨p', pw', pg'⟩ (.slice A1 n1 c1) (.slice A2 n2 c2) Fs Gs s1 (comeN s1' Fs k) wr) (fun _ v16 _ => n1 - (intOf v16).toNat)
             case atStart => exact ⟨0, lt, Nat.zero_le _, rfl, rfl, HU1.out, HS6.out⟩
             case round =>
               clear HS6 HU1
               obtain ⟨k, lt, hk, rfl, rfl, hu, hS⟩ := hrel
               obtain ⟨-, k2, -⟩ := HG.out _ hS.below
               have hkl : k ≤ Fs.length := by rw [hn1.out]; exact hk
               obtain ⟨hc1, hc2⟩ := come_some HCF.out HO.out k hkl
               have hlse : lt ≤ se := by have := hc1.le; rw [hu] at this; exact this
               by_cases hkn : k < n1
               · cases st
                 ·
                   have HX3 := Lib.hid (And.intro hu (And.intro (hc1.mono (show 65 * i + k ≤ 65 * t by have := HTI.out; omega) (Nat.le_refl t)) (And.intro (show ∀ G ∈ Gs, Wrd (comeN s1' Fs k).g.u G from fun G hG => (HCB.out G hG).mono hc2) hS)))
                   clear hu hc1 hc2 hS
                   go_wp2_with fail
                   go_meet
                   exact ⟨lt, comeN s1' Fs k, rfl, HX3.out.1, HX3.out.2.1, HX3.out.2.2.1, HX3.out.2.2.2⟩
                 · obtain ⟨gb, y, e, hc, hcall⟩ := hS.comeB hn1.out hkn (fun F hF => ⟨(HCF.out F hF).bare, (HCF.out F hF).ok⟩) (by have := hc1.sb.sum; omega)
                   subst e
                   have hkl2 : k < Fs.length := by rw [hn1.out]; exact hkn
                   have hstep := comeN_succ s1' Fs hkl2
                   obtain ⟨hc3, hc4, hc5⟩ := hc1.comeB (HCF.out _ (List.getElem_mem hkl2))
                   rw [← hstep] at hcall hc4
                   have HC := Lib.hid hcall
                   have HC4 := Lib.hid hc4
                   have HC5 := Lib.hid hc5
                   have HUU := Lib.hid hu
                   clear hcall hc1 hc2 hc3 hc4 hc5 hstep hu hS
                   go_wp2_with (first | (refine load_elem (.tmp 90) rfl hc ?_) | fail)
                   refine HC.out.mono ?_
                   rintro e w7 ⟨y2, rfl, hy2, hS7⟩
                   have HSU : Hid (AlS w ⟨p, pw, pg⟩ ⟨p', pw', pg'⟩ (.slice (some ⟨gb, 0, none⟩) n1 c1) (.slice A2 n2 c2) Fs Gs s1 (comeN s1' Fs (k + 1)) (w7.alloc (.cells y2.cs 44))) := hS7.on ((Below.refl _ _).alloc (Nat.le_refl _) _)
                   have hr6 : (w7.alloc (.cells y2.cs 44)).cell? ⟨w7.heap.size, 6, none⟩ = some (.int .u32 (y2.F.at_ : Int)) := cell_of_row _ w7.heap.size 6 _ _ _ (heap_alloc_new w7 _)
                   have HY2 := Lib.hid hy2
                   clear hS7 hc HC hy2
                   generalize (comeN s1' Fs k).comes Fs[k] = ok at HC4 HC5 HY2 ⊢
                   have HR6 := Lib.hid hr6
                   clear hr6
                   go_upto_region 19 with (first | (refine store_frame_new (.tmp 17) (.tmp 93) rfl rfl rfl rfl (Pf.size y2) (Pf.one y2) ?_) | fail)
                   generalize w7.alloc (.cells y2.cs 44) = U at HSU HR6 ⊢
                   cases ok
                   · have HU2 : Hid ((comeN s1' Fs (k + 1)).g.u = lt) := by have h1 := HC4.out; rw [HUU.out] at h1; exact h1
                     clear HC4 HC5 HY2 HR6
                     go_wp2
                     go_roundw
                     case rel => exact ⟨k + 1, lt, by omega, by go_num, rfl, HU2.out, HSU.out⟩
                     case measure => simp [intOf]; omega
                   · have HU2 : Hid ((comeN s1' Fs (k + 1)).g.u = lt + 1) := by have h1 := HC4.out; rw [HUU.out] at h1; exact h1
                     have hat : y2.F.at_ = lt := by rw [HY2.out rfl, HC5.out rfl, HUU.out]
                     have hr6 := HR6.out
                     rw [hat] at hr6
                     clear HC4 HC5 HY2 HR6 hat
                     generalize hl1 : lt + 1 = lt1 at HU2
                     have hadd1 : (lt : Int) + 1 = (lt1 : Int) := by omega
                     have hl2 : lt1 ≤ 100000 := by omega
                     clear hl1
                     go_wp2
                     go_roundw
                     case rel => exact ⟨k + 1, lt1, by omega, by go_num, rfl, HU2.out, HSU.out⟩
                     case measure => simp [intOf]; omega
               ·
                 have HX3 := Lib.hid (And.intro hu (And.intro (hc1.mono (show 65 * i + k ≤ 65 * t by have := HTI.out; omega) (Nat.le_refl t)) (And.intro (show ∀ G ∈ Gs, Wrd (comeN s1' Fs k).g.u G from fun G hG => (HCB.out G hG).mono hc2) hS)))
                 clear hu hc1 hc2 hS
                 go_wp2_with fail
                 go_meet
                 exact ⟨lt, comeN s1' Fs k, rfl, HX3.out.1, HX3.out.2.1, HX3.out.2.2.1, HX3.out.2.2.2⟩
           case rest =>
             clear HS6 HU1 HCB
             obtain ⟨lt, s3, rfl, hu3, hal3, hcb3, hs3⟩ := hcut
             have HAL3 := Lib.hid hal3
             have HCB3 := Lib.hid hcb3
             have HU3 := Lib.hid hu3
             have HF2 := Lib.hid hs3.fit2
             have HS3 := Lib.hid hs3
             have hlse : lt ≤ se := by have := hal3.le; rw [hu3] at this; exact this
             clear hal3 hcb3 hu3 hs3
             go_wp2_with fail
             go_loopw [19] (fun v19 wr => ∃ j : Nat, j ≤ n2 ∧ v19 = .int .i64 j ∧ AlS w ⟨p, pw, pg⟩ ⟨p', pw', pg'⟩ (.slice A1 n1 c1) (.slice A2 n2 c2) Fs Gs (comeN s1 Gs j) s3 wr) (fun v19 _ => n2 - (intOf v19).toNat)
             case atStart => exact ⟨0, Nat.zero_le _, rfl, HS3.out⟩
             case round =>
               clear HS3
               obtain ⟨j, hj, rfl, hS⟩ := hrel
               obtain ⟨-, -, k3⟩ := HG.out _ hS.below
               have hjl : j ≤ Gs.length := by rw [hn2.out]; exact hj
               obtain ⟨hw1, hw2, hw3, hw4⟩ := word_some HCB3.out HAL3.out HF2.out j hjl
               by_cases hjn : j < n2
               · cases bk
                 ·
                   have HW : Hid (Al (comeN s1 Gs j) s3 se (65 * t) R t) := hw1
                   have HW2 : Hid ((comeN s1 Gs j).sent = (comeN s1 Gs j).last) := by show _ = _; rw [hw3, hw4]; exact HSD1.out
                   have HSX := Lib.hid hS.drop
                   have hst3 : se ≤ 3 * t := by have := HTI.out; omega
                   clear hw1 hw2 hw3 hw4 hS
                   go_wp2
                   go_roundw
                   case rel => exact ⟨t, se, lt, _, s3, htn, rfl, rfl, rfl, rfl, hst3, HU3.out, HW2.out, HW.out, HSX.out⟩
                   case measure => have := HTI.out; simp [intOf]; omega
                 · obtain ⟨gb, y, e, hc, hcall⟩ := hS.comeA hn2.out hjn (fun F hF => ⟨(HCB3.out F hF).bare, (HCB3.out F hF).ok⟩) (by rw [hw1.sa.g]; decide)
                   subst e
                   have hjl2 : j < Gs.length := by rw [hn2.out]; exact hjn
                   rw [← comeN_succ s1 Gs hjl2] at hcall
                   have HC := Lib.hid hcall
                   clear hcall hw1 hw2 hw3 hw4 hS
                   go_wp2_with (first | (refine load_elem (.tmp 114) rfl hc ?_) | fail)
                   refine HC.out.mono ?_
                   rintro e w8 ⟨⟨v, rfl⟩, hS8⟩
                   have HS8 := Lib.hid hS8
                   clear hS8 hc HC
                   go_wp2
                   go_roundw
                   case rel => exact ⟨j + 1, by omega, by go_num, HS8.out⟩
                   case measure => simp [intOf]; omega
               ·
                 have HW : Hid (Al (comeN s1 Gs j) s3 se (65 * t) R t) := hw1
                 have HW2 : Hid ((comeN s1 Gs j).sent = (comeN s1 Gs j).last) := by show _ = _; rw [hw3, hw4]; exact HSD1.out
                 have HSX := Lib.hid hS.drop
                 have hst3 : se ≤ 3 * t := by have := HTI.out; omega
                 clear hw1 hw2 hw3 hw4 hS
                 go_wp2
                 go_roundw
                 case rel => exact ⟨t, se, lt, _, s3, htn, rfl, rfl, rfl, rfl, hst3, HU3.out, HW2.out, HW.out, HSX.out⟩
                 case measure => have := HTI.out; simp [intOf]; omega
     · obtain rfl : i = n := by omega
       clear hlt
       go_wp2_with fail
       go_meet
       exact ⟨sent, lt, s, s', rfl, rfl, rfl, hsent, HU.out, HSD.out, HAL.out, HS.out⟩
  case rest =>
      clear HS HSD HAL
      obtain ⟨sent, lt, s, s', rfl, rfl, rfl, hsent, hu, hsd, hal, hS⟩ := hcut
      have HU := Lib.hid hu
      have HSD := Lib.hid hsd
      have HAL := Lib.hid hal
      have HS := Lib.hid hS
      clear hu hsd hal hS
      have HPH : Hid (Ph s s' sent R n 0) := ⟨HSD.out, .inr (.inr ⟨Nat.zero_le _, fun _ => rfl, by have := HAL.out.tk; omega⟩)⟩
      have hsb : sent ≤ 180 := by omega
      generalize hz1 : n + R = z1
      have q1 : (n : Int) + (R : Int) = (z1 : Int) := by omega
      generalize hz2 : z1 + 3 = z2
      have q2 : (z1 : Int) + 3 = (z2 : Int) := by omega
      have hz3 : z2 = n + (R + 3) := by omega
      have hz4 : z2 ≤ 83 := by omega
      have hwz1 : IntKind.i64.wrap (z1 : Int) = (z1 : Int) := IntWalk.i64_in _ (by omega)
      have hwz2 : IntKind.i64.wrap (z2 : Int) = (z2 : Int) := IntWalk.i64_in _ (by omega)
      have HZ := Lib.hid hz3
      clear hz1 hz2 hz3 hsent
      go_wp2_with fail
      go_loopw [10, 11] (fun v10 v11 wr => ∃ (t lt : Nat) (s s' : Ls), n ≤ t ∧ t ≤ z2 ∧ v11 = .int .i64 t ∧ v10 = .int .u32 lt ∧ s'.g.u = lt ∧ Al s s' sent (65 * t) R t ∧ Ph s s' sent R n (t - n) ∧ AlS w ⟨p, pw, pg⟩ ⟨p', pw', pg'⟩ (.slice none 0 0) (.slice none 0 0) [] [] s s' wr) (fun _ v11 _ => z2 - (intOf v11).toNat)
      case atStart => exact ⟨n, lt, s, s', Nat.le_refl _, by have := HZ.out; omega, rfl, rfl, HU.out, HAL.out, by rw [Nat.sub_self]; exact HPH.out, HS.out⟩
      case round =>
        clear HS HAL HU HPH HSD q1 q2 hmx
        obtain ⟨t0, lt, s, s', hit, htz, rfl, rfl, hu, hal, hph, hS⟩ := hrel
        have HU := Lib.hid hu
        have HAL := Lib.hid hal
        have HPH := Lib.hid hph
        have HS := Lib.hid hS
        clear hu hal hph hS
        by_cases hkt : t0 < z2
        · generalize hti : t0 + 1 = t
          have hadd : (t0 : Int) + 1 = (t : Int) := by omega
          have htn : t ≤ z2 := by omega
          have hwr : IntKind.i64.wrap (t : Int) = (t : Int) := IntWalk.i64_in _ (by omega)
          have HTI := Lib.hid hti
          clear hti
          go_upto_region 28 with fail
          go_wp2_with fail
          refine (HS.out.outA (t : Int)).mono ?_
          rintro e w5 ⟨A1, n1, c1, rfl, hn1, hS5⟩
          have HS5 := Lib.hid hS5
          clear hS5
          go_wp2_with fail
          refine (HS5.out.outB (t : Int)).mono ?_
          rintro e w6 ⟨A2, n2, c2, rfl, hn2, hS6⟩
          have HO : Hid (Al (s.outS (t : Int)) (s'.outS (t : Int)) sent (65 * t0) R t) := HAL.out.outs HTI.out.symm (by omega)
          have HCF : Hid (∀ F ∈ s.outF (t : Int), Chk sent F) := HAL.out.sa.outF _
          have HCB : Hid (∀ G ∈ s'.outF (t : Int), Wrd (s'.outS (t : Int)).g.u G) := HAL.out.words HS.out.small.2.2.1 HS.out.small.2.2.2.1 (by omega) _
          have HU1 : Hid ((s'.outS (t : Int)).g.u = lt) := (outS_u _ _).trans HU.out
          have HSD1 : Hid ((s.outS (t : Int)).sent = (s.outS (t : Int)).last) := outS_sent _ _
          have hn66 : n2 ≤ 65 := hn2.out ▸ HS.out.outNb _
          have hn65 : n1 ≤ 65 := hn1.out ▸ HS.out.outN _
          have HS6 := Lib.hid hS6
          have HPT : Hid (Ph (comeN (s.outS (t : Int)) (s'.outF (t : Int)) n2) (comeN (s'.outS (t : Int)) (s.outF (t : Int)) n1) sent R n (t0 - n + 1)) := HPH.out.tick (N := 65 * t0) (by rw [show n + (t0 - n) = t0 by omega]; exact HAL.out) HS.out.fit2 HS.out.seqs (by have := HTI.out; omega) (by omega) rfl rfl hn1.out.symm hn2.out.symm HCB.out
          clear HPH
          clear hS6 HS5 HS HAL HU
          generalize s.outS (t : Int) = s1 at HO HSD1 HS6 HPT
          generalize s'.outS (t : Int) = s1' at HO HCB HU1 HS6 HPT
          generalize s.outF (t : Int) = Fs at hn1 HCF HS6 HPT
          generalize s'.outF (t : Int) = Gs at hn2 HCB HS6 HPT
          go_wp2_with fail
          go_loopw [10, 23] (fun v10 v23 wr => ∃ (k lt : Nat), k ≤ n1 ∧ v23 = .int .i64 k ∧ v10 = .int .u32 lt ∧ (comeN s1' Fs k).g.u = lt ∧ AlS w ⟨p, pw, pg⟩ ⟨p', pw', pg'⟩ (.slice A1 n1 c1) (.slice A2 n2 c2) Fs Gs s1 (comeN s1' Fs k) wr) (fun _ v23 _ => n1 - (intOf v23).toNat)
          case atStart => exact ⟨0, lt, Nat.zero_le _, rfl, rfl, HU1.out, HS6.out⟩
          case round =>
            clear HS6 HU1
            obtain ⟨k, lt, hk, rfl, rfl, hu, hS⟩ := hrel
            have hkl : k ≤ Fs.length := by rw [hn1.out]; exact hk
            obtain ⟨hc1, hc2⟩ := come_some HCF.out HO.out k hkl
            have hlse : lt ≤ sent := by have := hc1.le; rw [hu] at this; exact this
            by_cases hkn : k < n1
            · obtain ⟨gb, y, e, hc, hcall⟩ := hS.comeB hn1.out hkn (fun F hF => ⟨(HCF.out F hF).bare, (HCF.out F hF).ok⟩) (by have := hc1.sb.sum; omega)
              subst e
              have hkl2 : k < Fs.length := by rw [hn1.out]; exact hkn
              have hstep := comeN_succ s1' Fs hkl2
              obtain ⟨hc3, hc4, hc5⟩ := hc1.comeB (HCF.out _ (List.getElem_mem hkl2))
              rw [← hstep] at hcall hc4
              have HC := Lib.hid hcall
              have HC4 := Lib.hid hc4
              have HC5 := Lib.hid hc5
              have HUU := Lib.hid hu
              clear hcall hc1 hc2 hc3 hc4 hc5 hstep hu hS
              go_wp2_with (first | (refine load_elem (.tmp 143) rfl hc ?_) | fail)
              refine HC.out.mono ?_
              rintro e w7 ⟨y2, rfl, hy2, hS7⟩
              have HSU : Hid (AlS w ⟨p, pw, pg⟩ ⟨p', pw', pg'⟩ (.slice (some ⟨gb, 0, none⟩) n1 c1) (.slice A2 n2 c2) Fs Gs s1 (comeN s1' Fs (k + 1)) (w7.alloc (.cells y2.cs 44))) := hS7.on ((Below.refl _ _).alloc (Nat.le_refl _) _)
              have hr6 : (w7.alloc (.cells y2.cs 44)).cell? ⟨w7.heap.size, 6, none⟩ = some (.int .u32 (y2.F.at_ : Int)) := cell_of_row _ w7.heap.size 6 _ _ _ (heap_alloc_new w7 _)
              have HY2 := Lib.hid hy2
              clear hS7 hc HC hy2
              generalize (comeN s1' Fs k).comes Fs[k] = ok at HC4 HC5 HY2 ⊢
              have HR6 := Lib.hid hr6
              clear hr6
              go_upto_region 33 with (first | (refine store_frame_new (.tmp 24) (.tmp 146) rfl rfl rfl rfl (Pf.size y2) (Pf.one y2) ?_) | fail)
              generalize w7.alloc (.cells y2.cs 44) = U at HSU HR6 ⊢
              cases ok
              · have HU2 : Hid ((comeN s1' Fs (k + 1)).g.u = lt) := by have h1 := HC4.out; rw [HUU.out] at h1; exact h1
                clear HC4 HC5 HY2 HR6
                go_wp2
                go_roundw
                case rel => exact ⟨k + 1, lt, by omega, by go_num, rfl, HU2.out, HSU.out⟩
                case measure => simp [intOf]; omega
              · have HU2 : Hid ((comeN s1' Fs (k + 1)).g.u = lt + 1) := by have h1 := HC4.out; rw [HUU.out] at h1; exact h1
                have hat : y2.F.at_ = lt := by rw [HY2.out rfl, HC5.out rfl, HUU.out]
                have hr6 := HR6.out
                rw [hat] at hr6
                clear HC4 HC5 HY2 HR6 hat
                generalize hl1 : lt + 1 = lt1 at HU2
                have hadd1 : (lt : Int) + 1 = (lt1 : Int) := by omega
                have hl2 : lt1 ≤ 100000 := by omega
                clear hl1
                go_wp2
                go_roundw
                case rel => exact ⟨k + 1, lt1, by omega, by go_num, rfl, HU2.out, HSU.out⟩
                case measure => simp [intOf]; omega
            ·
              obtain rfl : n1 = k := by omega
              have HAL3 : Hid (Al s1 (comeN s1' Fs n1) sent (65 * t0 + n1) R t) := hc1
              have HCB3 : Hid (∀ G ∈ Gs, Wrd (comeN s1' Fs n1).g.u G) := fun G hG => (HCB.out G hG).mono hc2
              have HU3 := Lib.hid hu
              have HF2 := Lib.hid hS.fit2
              have HS3 : Hid (AlS w ⟨p, pw, pg⟩ ⟨p', pw', pg'⟩ (.slice A1 n1 c1) (.slice A2 n2 c2) Fs Gs s1 (comeN s1' Fs n1) wr) := hS
              clear hc1 hc2 hu hS HCB
              generalize comeN s1' Fs n1 = s3 at HAL3 HCB3 HU3 HS3 HPT
              go_wp2_with fail
              go_loopw [26] (fun v26 wr => ∃ j : Nat, j ≤ n2 ∧ v26 = .int .i64 j ∧ AlS w ⟨p, pw, pg⟩ ⟨p', pw', pg'⟩ (.slice A1 n1 c1) (.slice A2 n2 c2) Fs Gs (comeN s1 Gs j) s3 wr) (fun v26 _ => n2 - (intOf v26).toNat)
              case atStart => exact ⟨0, Nat.zero_le _, rfl, HS3.out⟩
              case round =>
                clear HS3
                obtain ⟨j, hj, rfl, hS⟩ := hrel
                have hjl : j ≤ Gs.length := by rw [hn2.out]; exact hj
                obtain ⟨hw1, hw2, hw3, hw4⟩ := word_some HCB3.out HAL3.out HF2.out j hjl
                by_cases hjn : j < n2
                · obtain ⟨gb, y, e, hc, hcall⟩ := hS.comeA hn2.out hjn (fun F hF => ⟨(HCB3.out F hF).bare, (HCB3.out F hF).ok⟩) (by rw [hw1.sa.g]; decide)
                  subst e
                  have hjl2 : j < Gs.length := by rw [hn2.out]; exact hjn
                  rw [← comeN_succ s1 Gs hjl2] at hcall
                  have HC := Lib.hid hcall
                  clear hcall hw1 hw2 hw3 hw4 hS
                  go_wp2_with (first | (refine load_elem (.tmp 164) rfl hc ?_) | fail)
                  refine HC.out.mono ?_
                  rintro e w8 ⟨⟨v, rfl⟩, hS8⟩
                  have HS8 := Lib.hid hS8
                  clear hS8 hc HC
                  go_wp2
                  go_roundw
                  case rel => exact ⟨j + 1, by omega, by go_num, HS8.out⟩
                  case measure => simp [intOf]; omega
                ·
                  obtain rfl : n2 = j := by omega
                  have HW : Hid (Al (comeN s1 Gs n2) s3 sent (65 * t) R t) := hw1.mono (by have := HTI.out; omega) (Nat.le_refl _)
                  have HSX := Lib.hid hS.drop
                  have HPX : Hid (Ph (comeN s1 Gs n2) s3 sent R n (t - n)) := by
                    have h1 := HPT.out
                    rw [show t0 - n + 1 = t - n by have := HTI.out; omega] at h1
                    exact h1
                  clear hw1 hw2 hw3 hw4 hS HPT
                  go_wp2
                  go_roundw
                  case rel => exact ⟨t, lt, _, s3, by have := HTI.out; omega, htn, rfl, rfl, HU3.out, HW.out, HPX.out, HSX.out⟩
                  case measure => have := HTI.out; simp [intOf]; omega
        · obtain rfl : t0 = z2 := by omega
          have hfs := HPH.out.done (by have := HZ.out; omega)
          have hall := HAL.out.all hfs
          rw [HU.out] at hall
          have hwt := HS.out.waits
          rw [hfs] at hwt
          have HW := Lib.hid hwt
          have HBW := Lib.hid HS.out.below
          subst hall
          clear hwt hfs HPH HAL HU HS
          go_wp2_with fail
          refine HW.out.mono ?_
          rintro e w5 ⟨rfl, rfl⟩
          go_wp2_with (go_at_call 9; refine (awake_any _).mono ?_; rintro e w' ⟨rfl, hb'⟩)
          go_ret
          exact ⟨rfl, HBW.out.trans (hb'.mono HBW.out.size)⟩
set_option maxRecDepth 20000 in
theorem linkAll_many (r : Value) (again : Int) (A : Option Addr) (n c : Nat) (w : World) (hn : 60 < n) :
    Calls Try.prog 5 #[r, .int .i64 again, .slice A n c] w fun e w' => e = .returned (.bool true) ∧ Below w.heap.size w w' := by
  have hd : decide (60 < (n : Int)) = true := by simp; omega
  go_enter Try.func5, Try.ntmps5
  go_wp2_with (go_at_call 9; refine (awake_any _).mono ?_; rintro e w' ⟨rfl, hb⟩)
  go_ret
  exact ⟨rfl, hb⟩
set_option maxRecDepth 20000 in
theorem linkAll_long (r : Value) (again : Int) (A : Option Addr) (n c : Nat) (w : World) (hn : ¬ 60 < n) (ha : 20 < again) :
    Calls Try.prog 5 #[r, .int .i64 again, .slice A n c] w fun e w' => e = .returned (.bool true) ∧ Below w.heap.size w w' := by
  have hd : decide (60 < (n : Int)) = false := by simp; omega
  have hd2 : decide (20 < again) = true := by simp; omega
  go_enter Try.func5, Try.ntmps5
  go_wp2_with (go_at_call 9; refine (awake_any _).mono ?_; rintro e w' ⟨rfl, hb⟩)
  go_ret
  exact ⟨rfl, hb⟩

theorem own : ownKnob Try.prog.godebug = none := by kernel_rfl
theorem laidOut : laidOutB Try.prog = true := by kernel_rfl

set_option maxRecDepth 100000 in
theorem linkAll_lifted (os : Os) (started : os.Started) (H : Type) (enc : TypeId × Value → H) :
    ReturnsInHanded {} Try.checked os 5 .any (Rows.linkAllSpec.pre6 enc Try.prog Try.f5 Rows.linkAllRow.domain false) (Rows.linkAllSpec.post enc Try.prog Try.f5 false true false false) := by
  refine returnsInHanded_of_change (C := Try.checked) own started (by kernel_rfl) Try.func5
    (ChangeSpec.witness6 (enc := enc) (C := Try.checked) false ⟨#[], #[.int .i64 0, .int .i64 0, .slice none 0 0], []⟩ 8 (by kernel_rfl) (by kernel_rfl) (by kernel_rfl) (by kernel_rfl)) ?_
  intro W base args ds gs before hval0 hW _ _
  have hval : ∀ (j : Nat) t v, Try.f5.params[j]? = some t → args[j]? = some v → Value.okWide Try.prog W .any base t v := hval0
  have hW' := hW
  obtain ⟨p, q, hA0, hV, rfl, _, _⟩ := hW
  have hA : DataW.TrodAll enc Try.prog W 0 (fun _ => true) true Try.f5.params.toList args.toList ds p := hA0
  rw [Try.params5] at hA hval
  obtain ⟨v0, vs0, d0, ds0, p0, q0, hargs, rfl, rfl, h0, r0⟩ := trodAll_cons hA
  obtain ⟨v1, vs1, d1, ds1, p1, q1, rfl, rfl, rfl, h1, r1⟩ := trodAll_cons r0
  obtain ⟨v2, vs2, d2, ds2, p2, q2, rfl, rfl, rfl, h2, r2⟩ := trodAll_cons r1
  obtain ⟨rfl, rfl, rfl⟩ := trodAll_nil r2
  obtain rfl : args = #[v0, v1, v2] := by cases args; simp_all
  obtain ⟨rfl, rfl⟩ := trodVars_none hV
  have k0 := h0
  have lt0 : ∀ x ∈ p0, x.block < W.heap.size := by obtain ⟨m, hm⟩ := k0; exact DataW.trod_lt m _ _ _ hm
  have k1 := h1
  have lt1 : ∀ x ∈ p1, x.block < W.heap.size := by obtain ⟨m, hm⟩ := k1; exact DataW.trod_lt m _ _ _ hm
  have k2 := h2
  have lt2 : ∀ x ∈ p2, x.block < W.heap.size := by obtain ⟨m, hm⟩ := k2; exact DataW.trod_lt m _ _ _ hm
  obtain ⟨a0, rfl, _, _, wf0⟩ := open_int Try.underlying3 (hval 0 3 v0 rfl rfl) h0
  obtain ⟨a1, rfl, _, _, wf1⟩ := open_int Try.underlying2 (hval 1 2 v1 rfl rfl) h1
  have hwalk : Calls Try.prog 5 #[.int .i64 a0, .int .i64 a1, v2] W fun e w' => e = .returned (.bool true) ∧ Below W.heap.size W w' := by
    obtain ⟨x2, len2, cap2, rfl⟩ := okWide_slice Try.underlying63 (hval 2 63 v2 rfl rfl)
    obtain ⟨fuel2, hf2⟩ := h2
    obtain ⟨l, A, n, c, hv, hl, hc, hcm, hL, hok⟩ := open_picks (by simpa [Value.cells] using hf2)
    injection hv with e1 e2 e3
    subst e1 e2 e3
    by_cases hn : 60 < len2
    · exact linkAll_many _ _ x2 len2 cap2 W hn
    · by_cases ha : 20 < a1
      · exact linkAll_long _ _ x2 len2 cap2 W hn ha
      · have b0 := bounds_i64 wf0
        have b1 := bounds_i64 wf1
        exact linkAll_walk a0 a1 x2 len2 cap2 l W hl (by omega) (by omega) hL hok (by omega) (by omega) (by omega) (by omega)
  clear hA0 hval0
  refine hwalk.mono fun e W' ⟨he, bel⟩ => ?_
  subst he
  exact ⟨_, rfl, _, _, _, [], _, [], hW', trodAll_mk1 (shut_bool Try.underlying4 _), (trodAll_cons_mk (Below.trod laidOut (by kernel_rfl) (of_decide_eq_true (by kernel_rfl)) k0 bel lt0) (trodAll_cons_mk (Below.trod laidOut (by kernel_rfl) (of_decide_eq_true (by kernel_rfl)) k1 bel lt1) (trodAll_cons_mk (Below.trod laidOut (by kernel_rfl) (of_decide_eq_true (by kernel_rfl)) k2 bel lt2) trodAll_mk0))), rfl, bel.frame _, fun h => by cases h⟩

theorem linkAll_proved : Rows.LinkAllSaid :=
  OpenClaim.holds_of_wide 5 Try.f5 rfl rfl rfl rfl rfl rfl rfl ⟨rfl, rfl, rfl, rfl, rfl⟩ rfl rfl rfl rfl rfl (by kernel_rfl) Try.func5 (by kernel_rfl)
    (of_decide_eq_true (by kernel_rfl)) (by unfold Func.isWrapper; first | (rw [if_pos (by decide +kernel)]; kernel_rfl) | (rw [if_neg (by decide +kernel)]; exact ⟨rfl, rfl⟩))
    (fun os started H enc _ => linkAll_lifted os started H enc)

end Go.Proofs.Ytbkkpimhoeagdaa
