/- SlideGoes: for every width, list of 32-bit numbers and bytes the call returns true (of frames that are put in as there is room, some of which are acknowledged now and then, each is told with its own number, none left out), and changes nothing that was there. No conditions. -/
import Derived.Test.YtohlgjkblcopoaaSlO
import Derived.Test.YtohlgjkblcopoaaSlN
import Derived.ChangeOld
namespace Go.Proofs.Ytohlgjkblcopoaa
open Go.ChangeShapes Go.WideShapes Go.ChangeAt Go.RowKit

/-- The list that Waiting answers of a window. -/
theorem wait_fronts {lw : List Pf} {l : List Nat} {next f : Nat} (h : lw.map Pf.F = fronts l next lw.length) (h64 : lw.length ≤ 64) : waitF (lw.map Pf.F) f 0 100 = fronts l next lw.length := by
  unfold waitF
  rw [Nat.zero_sub, List.drop_zero, List.take_of_length_le (by rw [List.length_map]; show _ ≤ 100; omega), h]

set_option maxRecDepth 20000 in
set_option maxHeartbeats 12800000 in
theorem slideGoes_walk (r : Int) (A : Option Addr) (n c : Nat) (l : List Nat) (Ab : Option Addr) (nb cb : Nat) (bs : List UInt8) (w : World) (h1 : -9223372036854775808 ≤ r) (h2 : r ≤ 9223372036854775807) (hl : l.length = n) (hn : n ≤ 300) (hA : Lies w w.heap.size A (u3vs l)) (hls : ∀ x ∈ l, x < 4294967296) (hb : bs.length = nb) (hB : Lies w w.heap.size Ab (bvs bs)) :
    Calls Try.prog 4 #[.int .i64 r, .slice A n c, .slice Ab nb cb] w fun e w' => e = .returned (.bool true) ∧ Below w.heap.size w w' := by
  have mixed := mixedOrders
  have hd : decide (300 < (n : Int)) = false := by simp; omega
  have hN := new_any r w w.heap.size (Nat.le_refl _) h1 h2
  have hw1 : 1 ≤ widthN r := by unfold widthN; omega
  have hw2 : widthN r ≤ 64 := by unfold widthN; omega
  generalize widthN r = width at hN hw1 hw2
  have HL := Lib.hid hl
  have HA := Lib.hid hA
  have HLS := Lib.hid hls
  have HBL := Lib.hid hb
  have HBS := Lib.hid hB
  clear hl hA hls hb hB h1 h2
  go_enter Try.func4, Try.ntmps4
  go_wp2_with fail
  refine hN.mono ?_
  rintro e w1 ⟨rfl, hW, hb1⟩
  have HS : Hid (GoI w w.heap.size width l 0 0 (.slice none 0 0) [] (fun k => k = w.heap.size) w1) := ⟨hW, by simp [fronts], Nat.zero_le _, Nat.zero_le _, hb1⟩
  clear hN hW hb1
  go_wp2_with fail
  go_loopw [8, 9, 10, 11, 12, 13, 14] (fun s8 s9 _ _ _ _ _ wr => ∃ (next i : Nat) (T : Value) (lw : List Pf) (D : Nat → Prop), s8 = .int .i64 next ∧ s9 = .int .i64 i ∧ GoI w w.heap.size width l next i T lw D wr) (fun _ s9 _ _ _ _ _ _ => 700 - (intOf s9).toNat)
  case atStart => exact ⟨0, 0, _, _, _, rfl, rfl, HS.out⟩
  case round =>
    clear HS
    obtain ⟨next, i, T, lw, D, rfl, rfl, hG⟩ := hrel
    have hnx : next ≤ n := by rw [← HL.out]; exact hG.le
    have hi : i ≤ 600 := by have := hG.pot; omega
    have HG := Lib.hid hG
    clear hG
    by_cases hlt : next < n
    · have hnl : next < l.length := by rw [HL.out]; exact hlt
      obtain ⟨bL, oL, rfl, hbL, hcL⟩ := (HA.out.below HG.out.below).at_ (k := next) (u := u3 l[next]) (by unfold u3vs; rw [List.getElem?_map, List.getElem?_eq_getElem hnl]; rfl)
      unfold u3 at hcL
      have hv := HLS.out l[next] (List.getElem_mem hnl)
      have HV : Hid (∀ W', PutIn wr w.heap.size w.heap.size T width next lw D [atF l[next]] W' → ∃ T' lw' D', (∀ k, k ≤ lw'.length → GoM w w.heap.size width l (next + 1) i k T' lw' D' W') ∧ lw'.length = lw.length + 1) := fun W' h => HG.out.put hnl h
      have HP1 : Hid (lw.length < width → Calls Try.prog 14 #[.pointer (some ⟨w.heap.size, 0, none⟩), .slice (some ⟨wr.heap.size, 0, none⟩) 1 1] (wr.alloc (.cells (atP l[next]).cs 40)) fun e w' => e = .returned (.int .i64 1) ∧ PutIn wr w.heap.size w.heap.size T width next lw D [atF l[next]] w') :=
        fun hr => put_one_room HG.out.win (atP l[next]) (atP_X _ _ _) (atF_ok hv) (by omega) hr
      have HP0 : Hid (¬ lw.length < width → Calls Try.prog 14 #[.pointer (some ⟨w.heap.size, 0, none⟩), .slice (some ⟨wr.heap.size, 0, none⟩) 1 1] (wr.alloc (.cells (atP l[next]).cs 40)) fun e w' => e = .returned (.int .i64 0) ∧ PutIn wr w.heap.size w.heap.size T width next lw D [] w') :=
        fun hr => put_one_full HG.out.win (atP l[next]) (atP_X _ _ _) (atF_ok hv) (by omega) hr
      generalize l[next] = v at hcL hv HV HP1 HP0
      have hi7 : i < 700 := by omega
      have hwid := HG.out.win.wid2
      have hfit := HG.out.win.fit
      clear hnl
      by_cases hr : lw.length < width
      · have hp := HP1.out hr
        have e8 : (next : Int) + 1 = ((next + 1 : Nat) : Int) := rfl
        have hnx1 : next + 1 ≤ n := hlt
        generalize hNX : next + 1 = nx at e8 hnx1 HV
        have HNX := Lib.hid hNX
        clear HP0 HP1 hNX
        go_wp2_with fail
        refine hp.mono ?_
        rintro e w2 ⟨rfl, hP⟩
        obtain ⟨T2, lw2, D2, hM, hlen⟩ := HV.out w2 hP
        have HM := Lib.hid hM
        have hlw : 1 ≤ lw2.length := by omega
        have hlw2 : lw2.length ≤ 65 := by omega
        clear hp hP hM HV hcL hlen
        have hwt : ∀ W, RowKit.Below w2.heap.size w2 W → Calls Try.prog 15 #[.pointer (some ⟨w.heap.size, 0, none⟩)] W fun e w' => e = .returned (.int .i64 (lw2.length : Int)) ∧ w' = W := fun W hW => waits_any ((HM.out 0 (Nat.zero_le _)).win.on hW)
        generalize hNW : lw2.length = nw at hwt hlw hlw2
        have HNW := Lib.hid hNW
        have HWT := Lib.hid hwt
        clear hNW hwt
        by_cases hia : i < nb
        · have hib : i < bs.length := by rw [HBL.out]; exact hia
          obtain ⟨bB, oB, rfl, hbB, hcB⟩ := (HBS.out.below (HM.out 0 (Nat.zero_le _)).below).at_ (bvs_at hib)
          unfold bv at hcB
          have hx8 := (bs[i]).toNat_lt
          generalize (bs[i]).toNat = x at hcB hx8
          have hbB2 : bB < w2.heap.size := Nat.lt_of_lt_of_le hbB (HM.out 0 (Nat.zero_le _)).below.size
          clear hib
          go_wp2_with fail
          refine (HWT.out w2 (RowKit.Below.refl _ _)).mono ?_
          rintro e w3 ⟨rfl, he⟩
          subst he
          go_wp2_with fail
          have x1 := later_cell (w0 := w3) (b := bB) hbB2 hcB
          have hwl : ∀ p : Later w3, Calls Try.prog 15 #[.pointer (some ⟨w.heap.size, 0, none⟩)] p.w fun e w' => e = .returned (.int .i64 (nw : Int)) ∧ RowKit.Below p.w.heap.size p.w w' := fun p => (HWT.out p.w p.hb).mono fun e w' ⟨h1, h2⟩ => ⟨h1, h2 ▸ RowKit.Below.refl _ _⟩
          have hmx : ((x : Int) % 4) = ((x % 4 : Nat) : Int) := by omega
          generalize x % 4 = y at hmx
          have hmn : min (nw : Int) (y : Int) = ((min nw y : Nat) : Int) := by omega
          have hkn : min nw y ≤ nw := Nat.min_le_left _ _
          generalize min nw y = k at hmn hkn
          refine wp_region_later mixed (by kernel_rfl) ?_
          repeat (go_big_quiet_step ((go_at_call 15; exact later_of (hwl _))))
          refine wpQuiet_nil ?_
          intro _ hw'
          obtain ⟨pm, rfl⟩ := hw'
          have hnxn : nx ≤ n := hnx1
          have HMK : Hid (GoM w w.heap.size width l nx i k T2 lw2 D2 pm.w) := (HM.out k (by rw [HNW.out]; exact hkn)).on pm.hb
          generalize pm.w = wm at HMK ⊢
          clear x1 hwl hmx hmn HM HWT
          have hnw2 : nw ≤ nx := by rw [← HNW.out]; exact HMK.out.win.fit2
          have HFI : Hid (∀ W, RowKit.Below wm.heap.size wm W → Calls Try.prog 17 #[.pointer (some ⟨w.heap.size, 0, none⟩)] W fun e w' => e = .returned (.int .u64 (firstN nx nw : Int)) ∧ RowKit.Below W.heap.size W w') := fun W hW => by
            have := first_any (HMK.out.win.on hW)
            rw [HNW.out] at this
            exact this
          have HAK : Hid (∀ W, RowKit.Below wm.heap.size wm W → Calls Try.prog 12 #[.pointer (some ⟨w.heap.size, 0, none⟩), .int .u64 ((firstN nx nw + k - 1 : Nat) : Int)] W fun e w' => e = .returned (.int .i64 ((k : Nat) : Int)) ∧ AckedW W w.heap.size w.heap.size T2 width nx (lw2.drop k) D2 w') := fun W hW => by
            have := acked_any (HMK.out.win.on hW) (firstN nx nw + k - 1)
            rw [HNW.out, ackN_first nx nw k hnw2 hkn] at this
            exact this
          have hfs1 : 1 ≤ firstN nx nw := by unfold firstN; omega
          have hfs2 : firstN nx nw ≤ 301 := by unfold firstN; omega
          generalize firstN nx nw = fs at HFI HAK hfs1 hfs2
          have esu : (fs : Int) + (k : Int) - 1 = ((fs + k - 1 : Nat) : Int) := by omega
          have hu2 : fs + k - 1 ≤ 400 := by omega
          generalize fs + k - 1 = u at HAK esu hu2
          go_wp2_with fail
          refine (HFI.out wm (RowKit.Below.refl _ _)).mono ?_
          rintro e w5 ⟨rfl, hb5⟩
          have HB5 := Lib.hid hb5
          clear hb5 HFI
          go_wp2_with fail
          refine (HAK.out w5 HB5.out).mono ?_
          rintro e w6 ⟨rfl, hA⟩
          obtain ⟨T6, lw6, hG6, -⟩ := HMK.out.acked HB5.out hA
          have HG6 := Lib.hid hG6
          have h64 : lw6.length ≤ 64 := Nat.le_trans hG6.win.fit hG6.win.wid2
          have hf26 : lw6.length ≤ nx := hG6.win.fit2
          have hwt6 : Calls Try.prog 21 #[.pointer (some ⟨w.heap.size, 0, none⟩), .int .u64 0, .int .i64 100] w6 (Waited w6 (fronts l nx lw6.length)) := by
            have := waiting_all HG6.out.win 0 100 (by decide) (by decide)
            rw [wait_fronts HG6.out.eq h64] at this
            exact this
          clear hA hG6 HAK esu hu2 hfs1 hfs2 HB5 HMK HNW
          generalize hN6 : lw6.length = n6 at hwt6 h64 hf26
          have HN6 := Lib.hid hN6
          clear hN6
          go_wp2_with fail
          refine hwt6.mono ?_
          rintro e w7 ⟨A7, n7, c7, rfl, hn7, hO7, hb7⟩
          have hn76 : n6 = n7 := by have := hn7.out; rw [fronts_len l nx n6 (by rw [HL.out]; exact hnxn) hf26] at this; exact this
          subst hn76
          have HG7 := Lib.hid (HG6.out.on hb7)
          have HO7 := Lib.hid hO7
          clear hwt6 hn7 hO7 hb7 HG6
          have HWA : Hid (∀ W, RowKit.Below w7.heap.size w7 W → Calls Try.prog 15 #[.pointer (some ⟨w.heap.size, 0, none⟩)] W fun e w' => e = .returned (.int .i64 (n6 : Int)) ∧ w' = W) := fun W hW => by
            have := waits_any (HG7.out.win.on hW)
            rw [HN6.out] at this
            exact this
          have HFI : Hid (∀ W, RowKit.Below w7.heap.size w7 W → Calls Try.prog 17 #[.pointer (some ⟨w.heap.size, 0, none⟩)] W fun e w' => e = .returned (.int .u64 (firstN nx n6 : Int)) ∧ RowKit.Below W.heap.size W w') := fun W hW => by
            have := first_any (HG7.out.win.on hW)
            rw [HN6.out] at this
            exact this
          have HLA : Hid (∀ W, RowKit.Below w7.heap.size w7 W → Calls Try.prog 19 #[.pointer (some ⟨w.heap.size, 0, none⟩)] W fun e w' => e = .returned (.int .u64 (nx : Int)) ∧ w' = W) := fun W hW => last_any (HG7.out.win.on hW)
          have HF6 : Hid (firstN nx n6 = nx + 1 - n6) := rfl
          have hf6 : firstN nx n6 ≤ 301 := by unfold firstN; omega
          have e19 : ((firstN nx n6 : Nat) : Int) + (n6 : Int) = (nx : Int) + 1 := by unfold firstN; omega
          generalize firstN nx n6 = fs at HFI HF6 hf6 e19
          go_wp2_with fail
          refine (HWA.out w7 (RowKit.Below.refl _ _)).mono ?_
          rintro e w8 ⟨rfl, he⟩
          subst he
          go_wp2_with fail
          refine (HFI.out w8 (RowKit.Below.refl _ _)).mono ?_
          rintro e w9 ⟨rfl, hb9⟩
          have HB9 := Lib.hid hb9
          clear hb9
          go_wp2_with fail
          refine (HLA.out w9 HB9.out).mono ?_
          rintro e w10 ⟨rfl, he⟩
          subst he
          go_wp2_with fail
          refine (HLA.out w10 HB9.out).mono ?_
          rintro e w11 ⟨rfl, he⟩
          subst he
          clear e19 HWA HLA
          go_wp2_with fail
          go_loopw [13, 14] (fun s13 _ wi => ∃ j : Nat, j ≤ n6 ∧ s13 = .int .i64 j ∧ RowKit.Below w8.heap.size w8 wi) (fun s13 _ _ => n6 - (intOf s13).toNat)
          case atStart => exact ⟨0, Nat.zero_le _, rfl, HB9.out⟩
          case round =>
            obtain ⟨j, hj, rfl, hbi⟩ := hrel
            have HBI := Lib.hid hbi
            clear hbi
            by_cases hjn : j < n6
            · have hq : nx - n6 + j < l.length := by rw [HL.out]; omega
              obtain ⟨g, y, rfl, hy, -, -, hg, hr7⟩ := HO7.out.at_ j (by rw [fronts_len l nx n6 (by rw [HL.out]; exact hnxn) hf26]; exact hjn)
              have hy2 : y.F = seqd (atF l[nx - n6 + j]) (nx - n6 + j + 1) := by
                have h1 := fronts_at l nx n6 j hf26 hjn hq
                rw [List.getElem?_eq_getElem (by rw [fronts_len l nx n6 (by rw [HL.out]; exact hnxn) hf26]; exact hjn)] at h1
                rw [hy]
                exact Option.some.inj h1
              have s1 := range_seq hr7
              have s2 := range_at hr7
              rw [hy2] at s1 s2
              obtain ⟨bL2, oL2, e, hbL2, hcL2⟩ := (HA.out.below HG7.out.below).at_ (k := nx - n6 + j) (u := u3 l[nx - n6 + j]) (by unfold u3vs; rw [List.getElem?_map, List.getElem?_eq_getElem hq]; rfl)
              injection e with e
              injection e with e1 e2
              subst e1 e2
              unfold u3 at hcL2
              have s1' : w8.cell? ⟨g, j * 16 + 5, none⟩ = some (.int .u64 ((nx - n6 + j + 1 : Nat) : Int)) := s1
              have s2' : w8.cell? ⟨g, j * 16 + 6, none⟩ = some (.int .u32 ((l[nx - n6 + j] : Nat) : Int)) := s2
              generalize l[nx - n6 + j] = v2 at s2' hcL2
              have hfj : fs + j = nx - n6 + j + 1 := by have := HF6.out; omega
              have hqn : nx - n6 + j < n := by omega
              clear s1 s2 hy hy2 hr7 hq
              generalize hqq : nx - n6 + j = q at s1' s2' hcL2 hfj hqn
              have emq : (fs : Int) + (j : Int) = ((q + 1 : Nat) : Int) := by omega
              have hm1 : 1 ≤ q + 1 := by omega
              have hmn2 : q + 1 ≤ n := by omega
              have emm : ((q + 1 : Nat) : Int) - 1 = (q : Int) := by omega
              clear hqq hfj
              generalize q + 1 = m at s1' emq hm1 hmn2 emm
              have d1 : decide ((m : Int) < 1) = false := by simp; omega
              have d2 : decide (n < m) = false := by simp; omega
              have hm4 : m ≤ 400 := by omega
              have hbL3 : bL < w8.heap.size := Nat.lt_of_lt_of_le hbL2 HG7.out.below.size
              go_wp2_with fail
              refine (HFI.out _ HBI.out).mono ?_
              rintro e w12 ⟨rfl, hb12⟩
              have hb8 : RowKit.Below w8.heap.size w8 w12 := HBI.out.trans (hb12.mono HBI.out.size)
              have x1 := later_cell (w0 := w12) (b := g) (Nat.lt_of_lt_of_le hg hb8.size) ((hb8.cell (p := ⟨g, j * 16 + 5, none⟩) hg).trans s1')
              have x2 := later_cell (w0 := w12) (b := g) (Nat.lt_of_lt_of_le hg hb8.size) ((hb8.cell (p := ⟨g, j * 16 + 6, none⟩) hg).trans s2')
              have x3 := later_cell (w0 := w12) (b := bL) (Nat.lt_of_lt_of_le hbL3 hb8.size) ((hb8.cell (p := ⟨bL, oL + q, none⟩) hbL3).trans hcL2)
              have HB12 := Lib.hid hb8
              clear s1' s2' hcL2 hb12 hb8
              go_wp2_with fail
              refine wp_region_later mixed (by kernel_rfl) ?_
              repeat (go_big_quiet_step (fail))
              refine wpQuiet_nil ?_
              intro _ hw'
              obtain ⟨p12, rfl⟩ := hw'
              clear x1 x2 x3
              go_wp2
              go_roundw
              case rel => exact ⟨j + 1, by omega, by go_num, HB12.out.trans (p12.hb.mono HB12.out.size)⟩
              case measure => simp [intOf]; omega
            · have hjn2 : ¬ (j : Int) < (n6 : Int) := by omega
              go_wp2
              go_roundw
              case rel => exact ⟨nx, i + 1, T6, lw6, D2, by rfl, by go_num, HG7.out.on HBI.out⟩
              case measure => simp [intOf]; omega
        · have hia2 : ¬ (i : Int) < (nb : Int) := by omega
          go_wp2_with fail
          refine (HWT.out w2 (RowKit.Below.refl _ _)).mono ?_
          rintro e wm ⟨rfl, he⟩
          subst he
          have hnxn : nx ≤ n := hnx1
          have hkn : 0 ≤ nw := Nat.zero_le _
          have HMK : Hid (GoM w w.heap.size width l nx i 0 T2 lw2 D2 wm) := HM.out 0 (Nat.zero_le _)
          clear HM HWT
          have hnw2 : nw ≤ nx := by rw [← HNW.out]; exact HMK.out.win.fit2
          have HFI : Hid (∀ W, RowKit.Below wm.heap.size wm W → Calls Try.prog 17 #[.pointer (some ⟨w.heap.size, 0, none⟩)] W fun e w' => e = .returned (.int .u64 (firstN nx nw : Int)) ∧ RowKit.Below W.heap.size W w') := fun W hW => by
            have := first_any (HMK.out.win.on hW)
            rw [HNW.out] at this
            exact this
          have HAK : Hid (∀ W, RowKit.Below wm.heap.size wm W → Calls Try.prog 12 #[.pointer (some ⟨w.heap.size, 0, none⟩), .int .u64 ((firstN nx nw + 0 - 1 : Nat) : Int)] W fun e w' => e = .returned (.int .i64 ((0 : Nat) : Int)) ∧ AckedW W w.heap.size w.heap.size T2 width nx (lw2.drop 0) D2 w') := fun W hW => by
            have := acked_any (HMK.out.win.on hW) (firstN nx nw + 0 - 1)
            rw [HNW.out, ackN_first nx nw 0 hnw2 hkn] at this
            exact this
          have hfs1 : 1 ≤ firstN nx nw := by unfold firstN; omega
          have hfs2 : firstN nx nw ≤ 301 := by unfold firstN; omega
          generalize firstN nx nw = fs at HFI HAK hfs1 hfs2
          have esu : (fs : Int) - 1 = ((fs + 0 - 1 : Nat) : Int) := by omega
          have hu2 : fs + 0 - 1 ≤ 400 := by omega
          generalize fs + 0 - 1 = u at HAK esu hu2
          go_wp2_with fail
          refine (HFI.out wm (RowKit.Below.refl _ _)).mono ?_
          rintro e w5 ⟨rfl, hb5⟩
          have HB5 := Lib.hid hb5
          clear hb5 HFI
          go_wp2_with fail
          refine (HAK.out w5 HB5.out).mono ?_
          rintro e w6 ⟨rfl, hA⟩
          obtain ⟨T6, lw6, hG6, -⟩ := HMK.out.acked HB5.out hA
          have HG6 := Lib.hid hG6
          have h64 : lw6.length ≤ 64 := Nat.le_trans hG6.win.fit hG6.win.wid2
          have hf26 : lw6.length ≤ nx := hG6.win.fit2
          have hwt6 : Calls Try.prog 21 #[.pointer (some ⟨w.heap.size, 0, none⟩), .int .u64 0, .int .i64 100] w6 (Waited w6 (fronts l nx lw6.length)) := by
            have := waiting_all HG6.out.win 0 100 (by decide) (by decide)
            rw [wait_fronts HG6.out.eq h64] at this
            exact this
          clear hA hG6 HAK esu hu2 hfs1 hfs2 HB5 HMK HNW
          generalize hN6 : lw6.length = n6 at hwt6 h64 hf26
          have HN6 := Lib.hid hN6
          clear hN6
          go_wp2_with fail
          refine hwt6.mono ?_
          rintro e w7 ⟨A7, n7, c7, rfl, hn7, hO7, hb7⟩
          have hn76 : n6 = n7 := by have := hn7.out; rw [fronts_len l nx n6 (by rw [HL.out]; exact hnxn) hf26] at this; exact this
          subst hn76
          have HG7 := Lib.hid (HG6.out.on hb7)
          have HO7 := Lib.hid hO7
          clear hwt6 hn7 hO7 hb7 HG6
          have HWA : Hid (∀ W, RowKit.Below w7.heap.size w7 W → Calls Try.prog 15 #[.pointer (some ⟨w.heap.size, 0, none⟩)] W fun e w' => e = .returned (.int .i64 (n6 : Int)) ∧ w' = W) := fun W hW => by
            have := waits_any (HG7.out.win.on hW)
            rw [HN6.out] at this
            exact this
          have HFI : Hid (∀ W, RowKit.Below w7.heap.size w7 W → Calls Try.prog 17 #[.pointer (some ⟨w.heap.size, 0, none⟩)] W fun e w' => e = .returned (.int .u64 (firstN nx n6 : Int)) ∧ RowKit.Below W.heap.size W w') := fun W hW => by
            have := first_any (HG7.out.win.on hW)
            rw [HN6.out] at this
            exact this
          have HLA : Hid (∀ W, RowKit.Below w7.heap.size w7 W → Calls Try.prog 19 #[.pointer (some ⟨w.heap.size, 0, none⟩)] W fun e w' => e = .returned (.int .u64 (nx : Int)) ∧ w' = W) := fun W hW => last_any (HG7.out.win.on hW)
          have HF6 : Hid (firstN nx n6 = nx + 1 - n6) := rfl
          have hf6 : firstN nx n6 ≤ 301 := by unfold firstN; omega
          have e19 : ((firstN nx n6 : Nat) : Int) + (n6 : Int) = (nx : Int) + 1 := by unfold firstN; omega
          generalize firstN nx n6 = fs at HFI HF6 hf6 e19
          go_wp2_with fail
          refine (HWA.out w7 (RowKit.Below.refl _ _)).mono ?_
          rintro e w8 ⟨rfl, he⟩
          subst he
          go_wp2_with fail
          refine (HFI.out w8 (RowKit.Below.refl _ _)).mono ?_
          rintro e w9 ⟨rfl, hb9⟩
          have HB9 := Lib.hid hb9
          clear hb9
          go_wp2_with fail
          refine (HLA.out w9 HB9.out).mono ?_
          rintro e w10 ⟨rfl, he⟩
          subst he
          go_wp2_with fail
          refine (HLA.out w10 HB9.out).mono ?_
          rintro e w11 ⟨rfl, he⟩
          subst he
          clear e19 HWA HLA
          go_wp2_with fail
          go_loopw [13, 14] (fun s13 _ wi => ∃ j : Nat, j ≤ n6 ∧ s13 = .int .i64 j ∧ RowKit.Below w8.heap.size w8 wi) (fun s13 _ _ => n6 - (intOf s13).toNat)
          case atStart => exact ⟨0, Nat.zero_le _, rfl, HB9.out⟩
          case round =>
            obtain ⟨j, hj, rfl, hbi⟩ := hrel
            have HBI := Lib.hid hbi
            clear hbi
            by_cases hjn : j < n6
            · have hq : nx - n6 + j < l.length := by rw [HL.out]; omega
              obtain ⟨g, y, rfl, hy, -, -, hg, hr7⟩ := HO7.out.at_ j (by rw [fronts_len l nx n6 (by rw [HL.out]; exact hnxn) hf26]; exact hjn)
              have hy2 : y.F = seqd (atF l[nx - n6 + j]) (nx - n6 + j + 1) := by
                have h1 := fronts_at l nx n6 j hf26 hjn hq
                rw [List.getElem?_eq_getElem (by rw [fronts_len l nx n6 (by rw [HL.out]; exact hnxn) hf26]; exact hjn)] at h1
                rw [hy]
                exact Option.some.inj h1
              have s1 := range_seq hr7
              have s2 := range_at hr7
              rw [hy2] at s1 s2
              obtain ⟨bL2, oL2, e, hbL2, hcL2⟩ := (HA.out.below HG7.out.below).at_ (k := nx - n6 + j) (u := u3 l[nx - n6 + j]) (by unfold u3vs; rw [List.getElem?_map, List.getElem?_eq_getElem hq]; rfl)
              injection e with e
              injection e with e1 e2
              subst e1 e2
              unfold u3 at hcL2
              have s1' : w8.cell? ⟨g, j * 16 + 5, none⟩ = some (.int .u64 ((nx - n6 + j + 1 : Nat) : Int)) := s1
              have s2' : w8.cell? ⟨g, j * 16 + 6, none⟩ = some (.int .u32 ((l[nx - n6 + j] : Nat) : Int)) := s2
              generalize l[nx - n6 + j] = v2 at s2' hcL2
              have hfj : fs + j = nx - n6 + j + 1 := by have := HF6.out; omega
              have hqn : nx - n6 + j < n := by omega
              clear s1 s2 hy hy2 hr7 hq
              generalize hqq : nx - n6 + j = q at s1' s2' hcL2 hfj hqn
              have emq : (fs : Int) + (j : Int) = ((q + 1 : Nat) : Int) := by omega
              have hm1 : 1 ≤ q + 1 := by omega
              have hmn2 : q + 1 ≤ n := by omega
              have emm : ((q + 1 : Nat) : Int) - 1 = (q : Int) := by omega
              clear hqq hfj
              generalize q + 1 = m at s1' emq hm1 hmn2 emm
              have d1 : decide ((m : Int) < 1) = false := by simp; omega
              have d2 : decide (n < m) = false := by simp; omega
              have hm4 : m ≤ 400 := by omega
              have hbL3 : bL < w8.heap.size := Nat.lt_of_lt_of_le hbL2 HG7.out.below.size
              go_wp2_with fail
              refine (HFI.out _ HBI.out).mono ?_
              rintro e w12 ⟨rfl, hb12⟩
              have hb8 : RowKit.Below w8.heap.size w8 w12 := HBI.out.trans (hb12.mono HBI.out.size)
              have x1 := later_cell (w0 := w12) (b := g) (Nat.lt_of_lt_of_le hg hb8.size) ((hb8.cell (p := ⟨g, j * 16 + 5, none⟩) hg).trans s1')
              have x2 := later_cell (w0 := w12) (b := g) (Nat.lt_of_lt_of_le hg hb8.size) ((hb8.cell (p := ⟨g, j * 16 + 6, none⟩) hg).trans s2')
              have x3 := later_cell (w0 := w12) (b := bL) (Nat.lt_of_lt_of_le hbL3 hb8.size) ((hb8.cell (p := ⟨bL, oL + q, none⟩) hbL3).trans hcL2)
              have HB12 := Lib.hid hb8
              clear s1' s2' hcL2 hb12 hb8
              go_wp2_with fail
              refine wp_region_later mixed (by kernel_rfl) ?_
              repeat (go_big_quiet_step (fail))
              refine wpQuiet_nil ?_
              intro _ hw'
              obtain ⟨p12, rfl⟩ := hw'
              clear x1 x2 x3
              go_wp2
              go_roundw
              case rel => exact ⟨j + 1, by omega, by go_num, HB12.out.trans (p12.hb.mono HB12.out.size)⟩
              case measure => simp [intOf]; omega
            · have hjn2 : ¬ (j : Int) < (n6 : Int) := by omega
              go_wp2
              go_roundw
              case rel => exact ⟨nx, i + 1, T6, lw6, D2, by rfl, by go_num, HG7.out.on HBI.out⟩
              case measure => simp [intOf]; omega
      · have hp := HP0.out hr
        clear HP0 HP1
        go_wp2_with fail
        refine hp.mono ?_
        rintro e w2 ⟨rfl, hP⟩
        obtain ⟨T2, lw2, D2, hM⟩ := HG.out.full hr hP
        have hkn0 : lw2.length ≤ lw2.length := Nat.le_refl _
        have hlw2 : lw2.length ≤ 64 := Nat.le_trans hM.win.fit hM.win.wid2
        have hwt := waits_any hM.win
        clear hp hP HV hcL
        generalize hNW : lw2.length = nw at hwt hM hkn0 hlw2
        have HNW := Lib.hid hNW
        have HMK := Lib.hid hM
        have hkn : nw ≤ nw := hkn0
        have hnxn : next ≤ n := hnx
        clear hNW hM hkn0
        go_wp2_with fail
        refine hwt.mono ?_
        rintro e wm ⟨rfl, he⟩
        subst he
        clear hwt
        have hnw2 : nw ≤ next := by rw [← HNW.out]; exact HMK.out.win.fit2
        have HFI : Hid (∀ W, RowKit.Below wm.heap.size wm W → Calls Try.prog 17 #[.pointer (some ⟨w.heap.size, 0, none⟩)] W fun e w' => e = .returned (.int .u64 (firstN next nw : Int)) ∧ RowKit.Below W.heap.size W w') := fun W hW => by
          have := first_any (HMK.out.win.on hW)
          rw [HNW.out] at this
          exact this
        have HAK : Hid (∀ W, RowKit.Below wm.heap.size wm W → Calls Try.prog 12 #[.pointer (some ⟨w.heap.size, 0, none⟩), .int .u64 ((firstN next nw + nw - 1 : Nat) : Int)] W fun e w' => e = .returned (.int .i64 ((nw : Nat) : Int)) ∧ AckedW W w.heap.size w.heap.size T2 width next (lw2.drop nw) D2 w') := fun W hW => by
          have := acked_any (HMK.out.win.on hW) (firstN next nw + nw - 1)
          rw [HNW.out, ackN_first next nw nw hnw2 hkn] at this
          exact this
        have hfs1 : 1 ≤ firstN next nw := by unfold firstN; omega
        have hfs2 : firstN next nw ≤ 301 := by unfold firstN; omega
        generalize firstN next nw = fs at HFI HAK hfs1 hfs2
        have esu : (fs : Int) + (nw : Int) - 1 = ((fs + nw - 1 : Nat) : Int) := by omega
        have hu2 : fs + nw - 1 ≤ 400 := by omega
        generalize fs + nw - 1 = u at HAK esu hu2
        go_wp2_with fail
        refine (HFI.out wm (RowKit.Below.refl _ _)).mono ?_
        rintro e w5 ⟨rfl, hb5⟩
        have HB5 := Lib.hid hb5
        clear hb5 HFI
        go_wp2_with fail
        refine (HAK.out w5 HB5.out).mono ?_
        rintro e w6 ⟨rfl, hA⟩
        obtain ⟨T6, lw6, hG6, -⟩ := HMK.out.acked HB5.out hA
        have HG6 := Lib.hid hG6
        have h64 : lw6.length ≤ 64 := Nat.le_trans hG6.win.fit hG6.win.wid2
        have hf26 : lw6.length ≤ next := hG6.win.fit2
        have hwt6 : Calls Try.prog 21 #[.pointer (some ⟨w.heap.size, 0, none⟩), .int .u64 0, .int .i64 100] w6 (Waited w6 (fronts l next lw6.length)) := by
          have := waiting_all HG6.out.win 0 100 (by decide) (by decide)
          rw [wait_fronts HG6.out.eq h64] at this
          exact this
        clear hA hG6 HAK esu hu2 hfs1 hfs2 HB5 HMK HNW
        generalize hN6 : lw6.length = n6 at hwt6 h64 hf26
        have HN6 := Lib.hid hN6
        clear hN6
        go_wp2_with fail
        refine hwt6.mono ?_
        rintro e w7 ⟨A7, n7, c7, rfl, hn7, hO7, hb7⟩
        have hn76 : n6 = n7 := by have := hn7.out; rw [fronts_len l next n6 (by rw [HL.out]; exact hnxn) hf26] at this; exact this
        subst hn76
        have HG7 := Lib.hid (HG6.out.on hb7)
        have HO7 := Lib.hid hO7
        clear hwt6 hn7 hO7 hb7 HG6
        have HWA : Hid (∀ W, RowKit.Below w7.heap.size w7 W → Calls Try.prog 15 #[.pointer (some ⟨w.heap.size, 0, none⟩)] W fun e w' => e = .returned (.int .i64 (n6 : Int)) ∧ w' = W) := fun W hW => by
          have := waits_any (HG7.out.win.on hW)
          rw [HN6.out] at this
          exact this
        have HFI : Hid (∀ W, RowKit.Below w7.heap.size w7 W → Calls Try.prog 17 #[.pointer (some ⟨w.heap.size, 0, none⟩)] W fun e w' => e = .returned (.int .u64 (firstN next n6 : Int)) ∧ RowKit.Below W.heap.size W w') := fun W hW => by
          have := first_any (HG7.out.win.on hW)
          rw [HN6.out] at this
          exact this
        have HLA : Hid (∀ W, RowKit.Below w7.heap.size w7 W → Calls Try.prog 19 #[.pointer (some ⟨w.heap.size, 0, none⟩)] W fun e w' => e = .returned (.int .u64 (next : Int)) ∧ w' = W) := fun W hW => last_any (HG7.out.win.on hW)
        have HF6 : Hid (firstN next n6 = next + 1 - n6) := rfl
        have hf6 : firstN next n6 ≤ 301 := by unfold firstN; omega
        have e19 : ((firstN next n6 : Nat) : Int) + (n6 : Int) = (next : Int) + 1 := by unfold firstN; omega
        generalize firstN next n6 = fs at HFI HF6 hf6 e19
        go_wp2_with fail
        refine (HWA.out w7 (RowKit.Below.refl _ _)).mono ?_
        rintro e w8 ⟨rfl, he⟩
        subst he
        go_wp2_with fail
        refine (HFI.out w8 (RowKit.Below.refl _ _)).mono ?_
        rintro e w9 ⟨rfl, hb9⟩
        have HB9 := Lib.hid hb9
        clear hb9
        go_wp2_with fail
        refine (HLA.out w9 HB9.out).mono ?_
        rintro e w10 ⟨rfl, he⟩
        subst he
        go_wp2_with fail
        refine (HLA.out w10 HB9.out).mono ?_
        rintro e w11 ⟨rfl, he⟩
        subst he
        clear e19 HWA HLA
        go_wp2_with fail
        go_loopw [13, 14] (fun s13 _ wi => ∃ j : Nat, j ≤ n6 ∧ s13 = .int .i64 j ∧ RowKit.Below w8.heap.size w8 wi) (fun s13 _ _ => n6 - (intOf s13).toNat)
        case atStart => exact ⟨0, Nat.zero_le _, rfl, HB9.out⟩
        case round =>
          obtain ⟨j, hj, rfl, hbi⟩ := hrel
          have HBI := Lib.hid hbi
          clear hbi
          by_cases hjn : j < n6
          · have hq : next - n6 + j < l.length := by rw [HL.out]; omega
            obtain ⟨g, y, rfl, hy, -, -, hg, hr7⟩ := HO7.out.at_ j (by rw [fronts_len l next n6 (by rw [HL.out]; exact hnxn) hf26]; exact hjn)
            have hy2 : y.F = seqd (atF l[next - n6 + j]) (next - n6 + j + 1) := by
              have h1 := fronts_at l next n6 j hf26 hjn hq
              rw [List.getElem?_eq_getElem (by rw [fronts_len l next n6 (by rw [HL.out]; exact hnxn) hf26]; exact hjn)] at h1
              rw [hy]
              exact Option.some.inj h1
            have s1 := range_seq hr7
            have s2 := range_at hr7
            rw [hy2] at s1 s2
            obtain ⟨bL2, oL2, e, hbL2, hcL2⟩ := (HA.out.below HG7.out.below).at_ (k := next - n6 + j) (u := u3 l[next - n6 + j]) (by unfold u3vs; rw [List.getElem?_map, List.getElem?_eq_getElem hq]; rfl)
            injection e with e
            injection e with e1 e2
            subst e1 e2
            unfold u3 at hcL2
            have s1' : w8.cell? ⟨g, j * 16 + 5, none⟩ = some (.int .u64 ((next - n6 + j + 1 : Nat) : Int)) := s1
            have s2' : w8.cell? ⟨g, j * 16 + 6, none⟩ = some (.int .u32 ((l[next - n6 + j] : Nat) : Int)) := s2
            generalize l[next - n6 + j] = v2 at s2' hcL2
            have hfj : fs + j = next - n6 + j + 1 := by have := HF6.out; omega
            have hqn : next - n6 + j < n := by omega
            clear s1 s2 hy hy2 hr7 hq
            generalize hqq : next - n6 + j = q at s1' s2' hcL2 hfj hqn
            have emq : (fs : Int) + (j : Int) = ((q + 1 : Nat) : Int) := by omega
            have hm1 : 1 ≤ q + 1 := by omega
            have hmn2 : q + 1 ≤ n := by omega
            have emm : ((q + 1 : Nat) : Int) - 1 = (q : Int) := by omega
            clear hqq hfj
            generalize q + 1 = m at s1' emq hm1 hmn2 emm
            have d1 : decide ((m : Int) < 1) = false := by simp; omega
            have d2 : decide (n < m) = false := by simp; omega
            have hm4 : m ≤ 400 := by omega
            have hbL3 : bL < w8.heap.size := Nat.lt_of_lt_of_le hbL2 HG7.out.below.size
            go_wp2_with fail
            refine (HFI.out _ HBI.out).mono ?_
            rintro e w12 ⟨rfl, hb12⟩
            have hb8 : RowKit.Below w8.heap.size w8 w12 := HBI.out.trans (hb12.mono HBI.out.size)
            have x1 := later_cell (w0 := w12) (b := g) (Nat.lt_of_lt_of_le hg hb8.size) ((hb8.cell (p := ⟨g, j * 16 + 5, none⟩) hg).trans s1')
            have x2 := later_cell (w0 := w12) (b := g) (Nat.lt_of_lt_of_le hg hb8.size) ((hb8.cell (p := ⟨g, j * 16 + 6, none⟩) hg).trans s2')
            have x3 := later_cell (w0 := w12) (b := bL) (Nat.lt_of_lt_of_le hbL3 hb8.size) ((hb8.cell (p := ⟨bL, oL + q, none⟩) hbL3).trans hcL2)
            have HB12 := Lib.hid hb8
            clear s1' s2' hcL2 hb12 hb8
            go_wp2_with fail
            refine wp_region_later mixed (by kernel_rfl) ?_
            repeat (go_big_quiet_step (fail))
            refine wpQuiet_nil ?_
            intro _ hw'
            obtain ⟨p12, rfl⟩ := hw'
            clear x1 x2 x3
            go_wp2
            go_roundw
            case rel => exact ⟨j + 1, by omega, by go_num, HB12.out.trans (p12.hb.mono HB12.out.size)⟩
            case measure => simp [intOf]; omega
          · have hjn2 : ¬ (j : Int) < (n6 : Int) := by omega
            go_wp2
            go_roundw
            case rel => exact ⟨next, i + 1, T6, lw6, D2, by rfl, by go_num, HG7.out.on HBI.out⟩
            case measure => simp [intOf]; omega
    · obtain rfl : next = n := by omega
      have HB := Lib.hid HG.out.below
      clear HG
      go_wp2_with (go_at_call 7; refine (awake_any _).mono ?_; rintro e w' ⟨rfl, hb⟩)
      go_ret
      exact ⟨rfl, HB.out.trans (hb.mono HB.out.size)⟩

theorem slideGoes_many (A : Option Addr) (n c : Nat) (Ab : Option Addr) (nb cb : Nat) (r : Int) (w : World) (hn : 300 < n) :
    Calls Try.prog 4 #[.int .i64 r, .slice A n c, .slice Ab nb cb] w fun e w' => e = .returned (.bool true) ∧ Below w.heap.size w w' := by
  have hd : decide (300 < (n : Int)) = true := by simp; omega
  go_enter Try.func4, Try.ntmps4
  go_wp2_with (go_at_call 7; refine (awake_any _).mono ?_; rintro e w' ⟨rfl, hb⟩)
  go_ret
  exact ⟨rfl, hb⟩

theorem own : ownKnob Try.prog.godebug = none := by kernel_rfl
theorem laidOut : laidOutB Try.prog = true := by kernel_rfl

set_option maxRecDepth 100000 in
theorem slideGoes_lifted (os : Os) (started : os.Started) (H : Type) (enc : TypeId × Value → H) :
    ReturnsInHanded {} Try.checked os 4 .any (Rows.slideGoesSpec.pre6 enc Try.prog Try.f4 Rows.slideGoesRow.domain false) (Rows.slideGoesSpec.post enc Try.prog Try.f4 false true false false) := by
  refine returnsInHanded_of_change (C := Try.checked) own started (by kernel_rfl) Try.func4
    (ChangeSpec.witness6 (enc := enc) (C := Try.checked) false ⟨#[], #[.int .i64 0, .slice none 0 0, .slice none 0 0], []⟩ 8 (by kernel_rfl) (by kernel_rfl) (by kernel_rfl) (by kernel_rfl)) ?_
  intro W base args ds gs before hval0 hW _ _
  have hval : ∀ (j : Nat) t v, Try.f4.params[j]? = some t → args[j]? = some v → Value.okWide Try.prog W .any base t v := hval0
  have hW' := hW
  obtain ⟨p, q, hA0, hV, rfl, _, _⟩ := hW
  have hA : DataW.TrodAll enc Try.prog W 0 (fun _ => true) true Try.f4.params.toList args.toList ds p := hA0
  rw [Try.params4] at hA hval
  obtain ⟨v0, vs0, d0, ds0, p0, q0, hargs, rfl, rfl, h0, r0⟩ := trodAll_cons hA
  obtain ⟨v1, vs1, d1, ds1, p1, q1, rfl, rfl, rfl, h1, r1⟩ := trodAll_cons r0
  obtain ⟨v2, vs2, d2, ds2, p2, q2, rfl, rfl, rfl, h2, r2⟩ := trodAll_cons r1
  obtain ⟨rfl, rfl, rfl⟩ := trodAll_nil r2
  obtain rfl : args = #[v0, v1, v2] := by cases args; simp_all
  obtain ⟨rfl, rfl⟩ := trodVars_none hV
  have k0 := h0
  have lt0 : ∀ x ∈ p0, x.block < W.heap.size := by obtain ⟨m, hm⟩ := k0; exact DataW.trod_lt m _ _ _ hm
  have k1 := h1
  have lt1 : ∀ x ∈ p1, x.block < W.heap.size := by obtain ⟨m, hm⟩ := k1; exact DataW.trod_lt m _ _ _ hm
  have k2 := h2
  have lt2 : ∀ x ∈ p2, x.block < W.heap.size := by obtain ⟨m, hm⟩ := k2; exact DataW.trod_lt m _ _ _ hm
  obtain ⟨a0, rfl, _, _, wf0⟩ := open_int Try.underlying3 (hval 0 3 v0 rfl rfl) h0
  have hwalk : Calls Try.prog 4 #[.int .i64 a0, v1, v2] W fun e w' => e = .returned (.bool true) ∧ Below W.heap.size W w' := by
    obtain ⟨a1, len1, cap1, rfl⟩ := okWide_slice Try.underlying54 (hval 1 54 v1 rfl rfl)
    obtain ⟨a2, len2, cap2, rfl⟩ := okWide_slice Try.underlying38 (hval 2 38 v2 rfl rfl)
    obtain ⟨fuel1, hf1⟩ := h1
    obtain ⟨fuel2, hf2⟩ := h2
    obtain ⟨l, A, n, c, hv, hl, hc, hcm, hL, hls⟩ := open_nums32 Try.underlying54 Try.underlying35 (by kernel_rfl) (by simpa [Value.cells] using hf1)
    injection hv with e1 e2 e3
    subst e1 e2 e3
    obtain ⟨bs, Ab, nb, cb, hv, hb, hcb, hcmb, hB⟩ := open_bytes Try.underlying38 Try.underlying5 (by kernel_rfl) (by simpa [Value.cells] using hf2)
    injection hv with e1 e2 e3
    subst e1 e2 e3
    by_cases hn : 300 < len1
    · exact slideGoes_many a1 len1 cap1 a2 len2 cap2 a0 W hn
    · have hbd := bounds_i64 wf0
      exact slideGoes_walk a0 a1 len1 cap1 l a2 len2 cap2 bs W (by omega) (by omega) hl (by omega) hL hls hb hB
  clear hA0 hval0
  refine hwalk.mono fun e W' ⟨he, bel⟩ => ?_
  subst he
  exact ⟨_, rfl, _, _, _, [], _, [], hW', trodAll_mk1 (shut_bool Try.underlying4 _), (trodAll_cons_mk (Below.trod laidOut (by kernel_rfl) (of_decide_eq_true (by kernel_rfl)) k0 bel lt0) (trodAll_cons_mk (Below.trod laidOut (by kernel_rfl) (of_decide_eq_true (by kernel_rfl)) k1 bel lt1) (trodAll_cons_mk (Below.trod laidOut (by kernel_rfl) (of_decide_eq_true (by kernel_rfl)) k2 bel lt2) trodAll_mk0))), rfl, bel.frame _, fun h => by cases h⟩

theorem slideGoes_proved : Rows.SlideGoesSaid :=
  OpenClaim.holds_of_wide 4 Try.f4 rfl rfl rfl rfl rfl rfl rfl ⟨rfl, rfl, rfl, rfl, rfl⟩ rfl rfl rfl rfl rfl (by kernel_rfl) Try.func4 (by kernel_rfl)
    (of_decide_eq_true (by kernel_rfl)) (by unfold Func.isWrapper; first | (rw [if_pos (by decide +kernel)]; kernel_rfl) | (rw [if_neg (by decide +kernel)]; exact ⟨rfl, rfl⟩))
    (fun os started H enc _ => slideGoes_lifted os started H enc)

end Go.Proofs.Ytohlgjkblcopoaa
