/- RelayPlays: for every int and every list of acts the call returns true (any row of acts is answered as the document says, and leaves as many chunks), and changes nothing that was there. No conditions. -/
import Derived.Test.YtmnjedpnhilndaaReV
import Derived.ChangeOld
import Derived.Deep.CutBlock
namespace Go.Proofs.Ytmnjedpnhilndaa
open Go.ChangeShapes Go.WideShapes Go.ChangeAt Go.RowKit

set_option maxRecDepth 20000 in
theorem plays_many (r : Int) (A : Option Addr) (n c : Nat) (w : World) (hn : 100 < n) : Calls Try.prog 3 #[.int .i64 r, .slice A n c] w fun e w' => e = .returned (.bool true) ∧ RowKit.Below w.heap.size w w' := by
  have hd : decide ((100 : Int) < (n : Int)) = true := decide_eq_true (by omega)
  go_enter Try.func3, Try.ntmps3
  go_wp2_with fail
  refine (awake_any w).mono ?_
  rintro e w4 ⟨rfl, hb4⟩
  go_wp2
  go_ret
  exact ⟨rfl, hb4⟩

set_option maxRecDepth 100000 in
set_option maxHeartbeats 6400000 in
theorem plays_walk (r : Int) (A : Option Addr) (n c : Nat) (l : List Ra) (w : World) (hl : l.length = n) (hL : Lies w w.heap.size A (flat encRa l)) (hO : ∀ y ∈ l, RaOk w w.heap.size y) (hn : n ≤ 100) : Calls Try.prog 3 #[.int .i64 r, .slice A n c] w fun e w' => e = .returned (.bool true) ∧ RowKit.Below w.heap.size w w' := by
  have mixed := mixedOrders
  have hd : decide ((100 : Int) < (n : Int)) = false := decide_eq_false (by omega)
  have HL := Lib.hid hl
  have HLI := Lib.hid hL
  have HOK := Lib.hid hO
  have hN := new_any r w w.heap.size (Nat.le_refl _)
  have hNN : roomN r ≤ 4096 := by unfold roomN; omega
  have HRN : Hid (∀ W, Calls Try.prog 9 #[.int .i64 r] W fun e w' => e = .returned (.agg #[.int .i64 (roomN r : Int), .slice none 0 0, .int .i64 0]) ∧ RowKit.Below W.heap.size W w') := fun W => refNew_any r W
  generalize roomN r = N at hN hNN HRN
  clear hl hL hO
  go_enter Try.func3, Try.ntmps3
  go_wp2_with fail
  refine hN.mono ?_
  rintro e w1 ⟨g, mb, rfl, hQ, -, -, hb1⟩
  unfold qptr
  go_wp2_with fail
  refine (HRN.out w1).mono ?_
  rintro e w2 ⟨rfl, hb2⟩
  have HST := Lib.hid (RpE.start hQ hb1 hb2)
  clear hN HRN hQ hb1 hb2
  go_wp2_with fail
  generalize w2.alloc _ = w3 at HST ⊢
  generalize w2.heap.size = mp at HST ⊢
  go_loopw [7] (fun s7 wr => ∃ i : Nat, i ≤ n ∧ s7 = .int .i64 (i : Int) ∧ Hid (RpE w g mb mp N i wr)) (fun s7 _ => n - (intOf s7).toNat)
  case atStart => exact ⟨0, Nat.zero_le _, rfl, HST⟩
  case round =>
    clear HST
    obtain ⟨i, hi, rfl, HP⟩ := hrel
    by_cases hlt : i < n
    · have hil : i < l.length := by rw [HL.out]; exact hlt
      have hbw := HP.out.below
      obtain ⟨b, off, rfl, hbl, hrg⟩ := ra_at (HLI.out.later hbw) hil
      have hym := List.getElem_mem hil
      obtain ⟨y, hye⟩ : ∃ y, l[i] = y := ⟨_, rfl⟩
      rw [hye] at hrg hym
      have HX := Lib.hid (HOK.out y hym)
      have hbA := alloc_below wr (.cells #[.int .i64 0, .int .u8 0, .int .u8 0, .int .u8 0, .int .u8 0, .int .u64 0, .int .u64 0, .int .u32 0, .int .u32 0, .int .u32 0, .int .u64 0, .int .u64 0, .slice none 0 0, .slice none 0 0, .slice none 0 0, .slice none 0 0, .slice none 0 0, .int .i64 0, .slice none 0 0, .slice none 0 0] 43)
      have hro : (wr.alloc (.cells #[.int .i64 0, .int .u8 0, .int .u8 0, .int .u8 0, .int .u8 0, .int .u64 0, .int .u64 0, .int .u32 0, .int .u32 0, .int .u32 0, .int .u64 0, .int .u64 0, .slice none 0 0, .slice none 0 0, .slice none 0 0, .slice none 0 0, .slice none 0 0, .int .i64 0, .slice none 0 0, .slice none 0 0] 43)).heap[wr.heap.size]? = some (.cells #[.int .i64 0, .int .u8 0, .int .u8 0, .int .u8 0, .int .u8 0, .int .u64 0, .int .u64 0, .int .u32 0, .int .u32 0, .int .u32 0, .int .u64 0, .int .u64 0, .slice none 0 0, .slice none 0 0, .slice none 0 0, .slice none 0 0, .slice none 0 0, .int .i64 0, .slice none 0 0, .slice none 0 0] 43 (0, 0)) := heap_alloc_new _ _
      obtain ⟨ac, hac⟩ : ∃ ac, (encRa y).toArray = ac := ⟨_, rfl⟩
      have HAC := Lib.hid hac
      have HAZ : Hid (ac.size = 20) := by show ac.size = 20; rw [← hac, List.size_toArray, encRa_len]
      have HA1 : Hid (ac.all (·.oneCell') = true) := by show ac.all (·.oneCell') = true; rw [← hac]; exact encRa_one y
      obtain ⟨w4, hw4⟩ : ∃ w4, w4 = (wr.alloc (.cells #[.int .i64 0, .int .u8 0, .int .u8 0, .int .u8 0, .int .u8 0, .int .u64 0, .int .u64 0, .int .u32 0, .int .u32 0, .int .u32 0, .int .u64 0, .int .u64 0, .slice none 0 0, .slice none 0 0, .slice none 0 0, .slice none 0 0, .slice none 0 0, .int .i64 0, .slice none 0 0, .slice none 0 0] 43)).setRow wr.heap.size ac := ⟨_, rfl⟩
      have hab : w4.heap[wr.heap.size]? = some (.cells ac 43 (0, 0)) := by rw [hw4]; exact setRow_heap _ _ _ _ _ (0, 0) hro
      have hO4 : OnlyE (wr.alloc (.cells #[.int .i64 0, .int .u8 0, .int .u8 0, .int .u8 0, .int .u8 0, .int .u64 0, .int .u64 0, .int .u32 0, .int .u32 0, .int .u32 0, .int .u64 0, .int .u64 0, .slice none 0 0, .slice none 0 0, .slice none 0 0, .slice none 0 0, .slice none 0 0, .int .i64 0, .slice none 0 0, .slice none 0 0] 43)) w4 (fun k => k = wr.heap.size) := by rw [hw4]; exact OnlyE.of_grown (grown_setRow _ _ _) rfl
      have hb4 : RowKit.Below wr.heap.size wr w4 := hbA.trans (hO4.below (fun k hk => by omega) (by simp))
      have HP4 := Lib.hid (HP.out.on hb4)
      have HAB : Hid (ABox wr.heap.size y w4) := by show _ = _; rw [hac]; exact hab
      have HAL := Lib.hid hab
      have HMA : Hid (mp < wr.heap.size) := by show _ < _; obtain ⟨T, l1, lost, D, A1, c1, ds, h1, -⟩ := HP.out; exact h1.lt
      have HW4 := Lib.hid hw4
      have HRO := Lib.hid hro
      have HRG := Lib.hid hrg
      have hi2 : (i : Int) ≤ 100 := by omega
      clear hbw hrg hym hye hbA hro hac hw4 hbl hab hO4 hb4
      go_upto_region 8 with (first | ((with_reducible_and_instances refine load_Ra (.tmp 31) ?_ HRG.out HAC.out ?_); exact rfl) | ((with_reducible_and_instances refine store_Ra (.tmp 8) (.tmp 32) ?_ ?_ HRO.out ?_ HAZ.out HA1.out ?_); exact rfl; exact rfl; exact rfl) | fail)
      rw [← HW4.out]
      clear HRG HRO HW4 HA1
      generalize wr.heap.size = ab at HAB HAL HMA ⊢
      have HG : Hid (Calls Try.prog 10 #[.agg ac] w4 fun e w' => e = .returned (.bool (greatR y)) ∧ RowKit.Below w4.heap.size w4 w') := by
        have := great_any y w4 ((HX.out.on HP4.out.below).more HP4.out.below.size)
        rwa [HAC.out] at this
      generalize hgb : greatR y = gb at HG
      have HGB := Lib.hid hgb
      clear hgb
      go_wp2_with (first | ((with_reducible_and_instances refine load_RaBox (.tmp 8) ?_ HAL.out HAZ.out ?_); exact rfl) | fail)
      refine HG.out.mono ?_
      rintro e w5 ⟨rfl, hb5⟩
      have HP5 := Lib.hid (HP4.out.on hb5)
      have HAB5 := Lib.hid (HAB.out.on hb5)
      clear HP4 HAB HAL HAC HAZ hb5 HP HG
      cases gb with
      | true =>
        go_wp2_with fail
        refine (awake_any _).mono ?_
        rintro e w9 ⟨rfl, hb9⟩
        go_wp2
        go_ret
        exact ⟨rfl, HP5.out.below.trans (hb9.mono HP5.out.below.size)⟩
      | false =>
        have hno := greatR_no HGB.out
        have HOKF := Lib.hid (great_ok hno.1 HX.out.x.wf)
        have HNB : Hid (y.but.length ≤ 1000) := by show _ ≤ _; omega
        have HNU : Hid (y.ls.length ≤ 1000) := by show _ ≤ _; omega
        have hi1000 : i ≤ 100 := by omega
        clear hno HGB
        have z0 := HAB5.out.kind
        go_upto_block 2 with fail
        go_cut [9, 10, 11, 12, 13, 14] from 38 to 89 (fun _ _ _ _ _ _ wx => Hid (RpE w g mb mp N (i + 1) wx))
        case first =>
          by_cases hk0 : y.k = 0
          · skip
            have d0 : (y.k == 0) = true := by simpa using hk0
            clear hk0
            obtain ⟨T, l1, lost, D, A1, c1, ds, h1, hs, hd1, hd2, hd3⟩ := HP5.out
            have m0 := h1.c0
            have m1 := h1.c1
            have m2 := h1.c2
            have hlt5 := h1.lt
            have HH1 := Lib.hid h1
            have HSS := Lib.hid (And.intro hs (And.intro hd1 (And.intro hd2 hd3)))
            have HMP := Lib.hid (h1.mput HX.out HOKF.out (by omega) (by omega))
            have HFR5 := Lib.hid HAB5.out.fr
            clear h1 hs hd1 hd2 hd3 HP5
            go_wp2_with (first | ((with_reducible_and_instances refine load_elem (.tmp 56) ?_ HFR5.out ?_); exact rfl) | fail)
            refine HMP.out.mono ?_
            rintro e V1 ⟨A', c', n', lost', r', rfl, hM⟩
            clear HMP HFR5
            have hq := HH1.out.on hM.out.1
            have q0 := hq.c0
            have q1 := hq.c1
            have q2 := hq.c2
            have qf0 := hq.fr 0
            have qf1 := hq.fr 1
            have qf2 := hq.fr 2
            have hltq := hq.lt
            have hneq : mp ≠ V1.heap.size := by omega
            clear hq m0 m1 m2 hlt5
            obtain ⟨V3, hV3⟩ : ∃ V3, V3 = (((V1.alloc (.cells #[.int .i64 (N : Int), .slice A' n' c', .int .i64 (lost' : Int)] 28)).setCell ⟨mp, 0, none⟩ (.int .i64 (N : Int))).setCell ⟨mp, 1, none⟩ (.slice A' n' c')).setCell ⟨mp, 2, none⟩ (.int .i64 (lost' : Int)) := ⟨_, rfl⟩
            have HQ := Lib.hid (HH1.out.qput hM.out HSS.out.1 HSS.out.2.1 HSS.out.2.2.1 HSS.out.2.2.2 hNN hi1000 HX.out HOKF.out hV3)
            have HAB6 : Hid (ABox ab y V3) := by
              have h9 := ((HAB5.out.on hM.out.1).on (alloc_below V1 (.cells #[.int .i64 (N : Int), .slice A' n' c', .int .i64 (lost' : Int)] 28))).only (OnlyE.set3 (D := fun b => b = mp) (g := mp) rfl 0 1 2 (.int .i64 (N : Int)) (.slice A' n' c') (.int .i64 (lost' : Int))) (fun e => by have := HMA.out; omega)
              rw [hV3]
              exact h9
            have hV4 := hV3
            rw [World.setCell_alloc_past _ _ _ _ hltq, World.setCell_alloc_past _ _ _ _ (by simpa using hltq), World.setCell_alloc_past _ _ _ _ (by simpa using hltq)] at hV4
            go_upto_region 18 with fail
            rw [← hV4]
            clear q0 q1 q2 qf0 qf1 qf2 hltq hneq hV3 hV4 hM HH1 HSS HAB5
            have HFR6 := Lib.hid HAB6.out.fr
            go_wp2_with (first | ((with_reducible_and_instances refine load_elem (.tmp 63) ?_ HFR6.out ?_); exact rfl) | (refine wpList_build1 rfl (x := .tmp 64) (y := y.x) rfl rfl ?_) | fail)
            refine HQ.out.mono ?_
            rintro e V5 ⟨rfl, hE⟩
            clear HQ HFR6 HAB6
            have dn : (r' != r') = false := by simp
            go_wp2
            go_meet
            case rel => exact hE
          · by_cases hk1 : y.k = 1
            · skip
              have d0 : (y.k == 0) = false := by simpa using hk0
              have d1 : (y.k == 1) = true := by simpa using hk1
              clear hk0 hk1
              obtain ⟨T, l1, lost, D, A1, c1, ds, h1, hs, hd1, hd2, hd3⟩ := HP5.out
              have m0 := h1.c0
              have m1 := h1.c1
              have m2 := h1.c2
              have hlt5 := h1.lt
              have HH1 := Lib.hid h1
              have HSS := Lib.hid (And.intro hs (And.intro hd1 (And.intro hd2 hd3)))
              have HMP := Lib.hid (h1.mtake HX.out (by omega) HNB.out)
              have z17 := HAB5.out.most
              have z18 := HAB5.out.buts
              clear h1 hs hd1 hd2 hd3 HP5
              go_wp2_with fail
              refine HMP.out.mono ?_
              rintro e V1 ⟨A', c', n', A2, n2, c2, rfl, hM⟩
              clear HMP z17 z18
              have hq := HH1.out.on hM.out.1
              have q0 := hq.c0
              have q1 := hq.c1
              have q2 := hq.c2
              have qf0 := hq.fr 0
              have qf1 := hq.fr 1
              have qf2 := hq.fr 2
              have hltq := hq.lt
              have hneq : mp ≠ V1.heap.size := by omega
              clear hq m0 m1 m2 hlt5
              obtain ⟨V3, hV3⟩ : ∃ V3, V3 = (((V1.alloc (.cells #[.int .i64 (N : Int), .slice A' n' c', .int .i64 (lost : Int)] 28)).setCell ⟨mp, 0, none⟩ (.int .i64 (N : Int))).setCell ⟨mp, 1, none⟩ (.slice A' n' c')).setCell ⟨mp, 2, none⟩ (.int .i64 (lost : Int)) := ⟨_, rfl⟩
              have HQ := Lib.hid (HH1.out.qtake hM.out HSS.out.1 HSS.out.2.1 HSS.out.2.2.1 HSS.out.2.2.2 hi1000 HX.out HNB.out hV3)
              have HAB6 : Hid (ABox ab y V3) := by
                have h9 := ((HAB5.out.on hM.out.1).on (alloc_below V1 (.cells #[.int .i64 (N : Int), .slice A' n' c', .int .i64 (lost : Int)] 28))).only (OnlyE.set3 (D := fun b => b = mp) (g := mp) rfl 0 1 2 (.int .i64 (N : Int)) (.slice A' n' c') (.int .i64 (lost : Int))) (fun e => by have := HMA.out; omega)
                rw [hV3]
                exact h9
              have hV4 := hV3
              rw [World.setCell_alloc_past _ _ _ _ hltq, World.setCell_alloc_past _ _ _ _ (by simpa using hltq), World.setCell_alloc_past _ _ _ _ (by simpa using hltq)] at hV4
              go_upto_region 23 with fail
              rw [← hV4]
              clear q0 q1 q2 qf0 qf1 qf2 hltq hneq hV3 hV4 hM HH1 HSS HAB5
              have z17 := HAB6.out.most
              have z18 := HAB6.out.buts
              go_wp2_with fail
              refine HQ.out.mono ?_
              rintro e V5 ⟨A5, c5, rfl, hE, hS⟩
              clear HQ HAB6 z17 z18
              go_wp2_with fail
              refine hS.out.mono ?_
              rintro e V6 ⟨rfl, hb6⟩
              have hE6 := Lib.hid (hE.out.on hb6)
              clear hE hS hb6
              go_wp2
              go_meet
              case rel => exact hE6
            · skip
              have d0 : (y.k == 0) = false := by simpa using hk0
              have d1 : (y.k == 1) = false := by simpa using hk1
              clear hk0 hk1
              obtain ⟨T, l1, lost, D, A1, c1, ds, h1, hs, hd1, hd2, hd3⟩ := HP5.out
              have m0 := h1.c0
              have m1 := h1.c1
              have m2 := h1.c2
              have hlt5 := h1.lt
              have HH1 := Lib.hid h1
              have HSS := Lib.hid (And.intro hs (And.intro hd1 (And.intro hd2 hd3)))
              have HMP := Lib.hid (h1.mdrop HX.out (by omega) HNU.out)
              have z19 := HAB5.out.upto
              clear h1 hs hd1 hd2 hd3 HP5
              go_wp2_with fail
              refine HMP.out.mono ?_
              rintro e V1 ⟨A', c', n', r', rfl, hM⟩
              clear HMP z19
              have hq := HH1.out.on hM.out.1
              have q0 := hq.c0
              have q1 := hq.c1
              have q2 := hq.c2
              have qf0 := hq.fr 0
              have qf1 := hq.fr 1
              have qf2 := hq.fr 2
              have hltq := hq.lt
              have hneq : mp ≠ V1.heap.size := by omega
              clear hq m0 m1 m2 hlt5
              obtain ⟨V3, hV3⟩ : ∃ V3, V3 = (((V1.alloc (.cells #[.int .i64 (N : Int), .slice A' n' c', .int .i64 (lost : Int)] 28)).setCell ⟨mp, 0, none⟩ (.int .i64 (N : Int))).setCell ⟨mp, 1, none⟩ (.slice A' n' c')).setCell ⟨mp, 2, none⟩ (.int .i64 (lost : Int)) := ⟨_, rfl⟩
              have HQ := Lib.hid (HH1.out.qdrop hM.out HSS.out.1 HSS.out.2.1 HSS.out.2.2.1 HSS.out.2.2.2 hi1000 HX.out HNU.out hV3)
              have HAB6 : Hid (ABox ab y V3) := by
                have h9 := ((HAB5.out.on hM.out.1).on (alloc_below V1 (.cells #[.int .i64 (N : Int), .slice A' n' c', .int .i64 (lost : Int)] 28))).only (OnlyE.set3 (D := fun b => b = mp) (g := mp) rfl 0 1 2 (.int .i64 (N : Int)) (.slice A' n' c') (.int .i64 (lost : Int))) (fun e => by have := HMA.out; omega)
                rw [hV3]
                exact h9
              have hV4 := hV3
              rw [World.setCell_alloc_past _ _ _ _ hltq, World.setCell_alloc_past _ _ _ _ (by simpa using hltq), World.setCell_alloc_past _ _ _ _ (by simpa using hltq)] at hV4
              go_upto_region 13 with fail
              rw [← hV4]
              clear q0 q1 q2 qf0 qf1 qf2 hltq hneq hV3 hV4 hM HH1 HSS HAB5
              have z19 := HAB6.out.upto
              go_wp2_with fail
              refine HQ.out.mono ?_
              rintro e V5 ⟨rfl, hE⟩
              clear HQ HAB6 z19
              have dn : (r' != r') = false := by simp
              go_wp2
              go_meet
              case rel => exact hE
        case rest =>
          obtain ⟨A2, n2, c2, lost2, m1, m2, hlt2, hn2, hl2, hK2⟩ := hcut.out.look (by omega)
          have x1 := later_cell (b := mp) hlt2 m1
          have x2 := later_cell (b := mp) hlt2 m2
          have hlen : ∀ p : Later wc, Calls Try.prog 18 #[.pointer (some ⟨g, 0, none⟩)] p.w fun e w' => e = .returned (.int .i64 (n2 : Int)) ∧ RowKit.Below p.w.heap.size p.w w' := fun p => (hK2.out _ p.hb).1
          have hlos : ∀ p : Later wc, Calls Try.prog 19 #[.pointer (some ⟨g, 0, none⟩)] p.w fun e w' => e = .returned (.int .i64 (lost2 : Int)) ∧ RowKit.Below p.w.heap.size p.w w' := fun p => (hK2.out _ p.hb).2
          have e1 : ((n2 : Int) != (n2 : Int)) = false := by simp
          have e2 : ((lost2 : Int) != (lost2 : Int)) = false := by simp
          clear m1 m2 hlt2 hK2 HP5 HAB5 HOKF HNB HNU z0 HX
          go_wp2_with fail
          refine wp_region_later mixed (by kernel_rfl) ?_
          repeat (go_big_quiet_step (first | (go_at_call 18; exact later_of (hlen _)) | (go_at_call 19; exact later_of (hlos _))))
          refine wpQuiet_nil ?_
          intro _ hw'
          obtain ⟨p, rfl⟩ := hw'
          have HN9 := Lib.hid (hcut.out.on p.hb)
          generalize p.w = wm at HN9 ⊢
          clear x1 x2 hlen hlos hcut
          go_wp2
          go_roundw
          case rel => exact ⟨i + 1, by omega, by go_num, HN9⟩
          case measure => simp [intOf]; omega
    · skip
      obtain rfl : i = n := by omega
      obtain ⟨A9, n9, c9, m1, hlt9, hL9⟩ := HP.out.last (by omega) hNN
      have hHD : wr.drew.cell? ⟨mp, 1, none⟩ = some (.slice A9 n9 c9) := (hL9.out _ ((RowKit.Below.refl _ _).drew)).1
      have hTK := Lib.hid (hL9.out _ ((RowKit.Below.refl _ _).drew)).2
      clear m1 hlt9 hL9 HP
      go_upto_region 27 with fail
      refine wp_region_held_drew (S := fun V => V.cell? ⟨mp, 1, none⟩ = some (.slice A9 n9 c9)) (by kernel_rfl) hHD (fun hHeld => ?_)
      clear hHD
      have hHeld : wr.drew.cell? ⟨mp, 1, none⟩ = some (.slice A9 n9 c9) := hHeld
      generalize wr.drew = X0 at hHeld hTK ⊢
      refine wpAnyH_takeAt (i := 0) (d := 103) (v := ?_) rfl rfl (by kernel_rfl) (by kernel_rfl) (by kernel_rfl) (fun _ _ _ h => h) (Or.inl ⟨by rfl, ?_⟩) hHeld ?_
      rotate_left
      · (intro _ hSw; go_simp; try with_reducible rfl)
      simp only [List.setIfInBounds_toArray, List.set_cons_zero, List.set_cons_succ]
      refine wpAnyH_takeAt (i := 2) (d := 105) (v := ?_) rfl rfl (by kernel_rfl) (by kernel_rfl) (by kernel_rfl) (fun _ _ _ h => h) (Or.inl ⟨by rfl, ?_⟩) hHeld ?_
      rotate_left
      · (intro _ hSw; go_simp; try with_reducible rfl)
      simp only [List.setIfInBounds_toArray, List.set_cons_zero, List.set_cons_succ]
      refine wpAnyH_takeAt (i := 3) (d := 106) (v := ?_) rfl rfl (by kernel_rfl) (by kernel_rfl) (by kernel_rfl) (fun _ _ _ h => h) (Or.inl ⟨by rfl, ?_⟩) hHeld ?_
      rotate_left
      · (intro _ hSw; go_simp; try with_reducible rfl)
      simp only [List.setIfInBounds_toArray, List.set_cons_zero, List.set_cons_succ]
      refine wpAnyH_ready (rs := [1]) (by kernel_rfl) (by simp) ?_
      refine AllReadyH.cons rfl (fun K hK => ?_) AllReadyH.nil
      go_simp
      refine hTK.out.mono ?_
      rintro e V1 ⟨A5, c5, rfl, hb1, hc1, hS⟩
      refine hK.out _ _ hc1 (fun hHeld => ?_)
      clear hK K hTK
      refine wpAnyH_ready (rs := [4]) (by kernel_rfl) (by simp) ?_
      refine AllReadyH.cons rfl (fun K hK => ?_) AllReadyH.nil
      go_simp
      refine hS.out.mono ?_
      rintro e V2 ⟨rfl, hb2⟩
      have hc2 : V2.cell? ⟨mp, 1, none⟩ = some (.slice A9 n9 c9) := by
        have := World.block_lt_of_cell? V1 _ hc1
        exact later_cell this hc1 ⟨V2, hb2⟩
      have HB2 := Lib.hid (hb1.trans (hb2.mono hb1.size))
      refine hK.out _ _ hc2 (fun hHeld => ?_)
      clear hK K hS hc1 hb1 hb2 hc2
      refine wpAnyH_takeAt (i := 5) (d := 108) (v := ?_) rfl rfl (by kernel_rfl) (by kernel_rfl) (by kernel_rfl) (fun _ _ _ h => h) (Or.inl ⟨by rfl, ?_⟩) hHeld ?_
      rotate_left
      · (intro _ hSw; go_simp; try with_reducible rfl)
      simp only [List.setIfInBounds_toArray, List.set_cons_zero, List.set_cons_succ]
      refine wpAnyH_ready (rs := [6]) (by kernel_rfl) (by simp) ?_
      refine AllReadyH.cons rfl (fun K hK => ?_) AllReadyH.nil
      go_simp
      refine (awake_any _).mono ?_
      rintro e V3 ⟨rfl, hb3⟩
      have hc3 : V3.cell? ⟨mp, 1, none⟩ = some (.slice A9 n9 c9) := by
        have := World.block_lt_of_cell? V2 _ hHeld
        exact later_cell this hHeld ⟨V3, hb3⟩
      have HB3 := Lib.hid (HB2.out.trans (hb3.mono HB2.out.size))
      refine hK.out _ _ hc3 (fun hHeld => ?_)
      clear hK K HB2 hb3 hc3
      refine wpAnyH_takeAt (i := 7) (d := 110) (v := ?_) rfl rfl (by kernel_rfl) (by kernel_rfl) (by kernel_rfl) (fun _ _ _ h => h) (Or.inl ⟨by rfl, ?_⟩) hHeld ?_
      rotate_left
      · (intro _ hSw; go_simp; try with_reducible rfl)
      simp only [List.setIfInBounds_toArray, List.set_cons_zero, List.set_cons_succ]
      refine wpAnyH_takeAt (i := 8) (d := 4) (v := ?_) rfl rfl (by kernel_rfl) (by kernel_rfl) (by kernel_rfl) (fun _ _ _ h => h) (Or.inl ⟨by rfl, ?_⟩) hHeld ?_
      rotate_left
      · (intro _ hSw; go_simp; try with_reducible rfl)
      simp only [List.setIfInBounds_toArray, List.set_cons_zero, List.set_cons_succ]
      refine wpAnyH_done (by kernel_rfl) ?_ _
      go_wp2
      go_ret
      exact ⟨rfl, HB3.out⟩

theorem own : ownKnob Try.prog.godebug = none := by kernel_rfl
theorem laidOut : laidOutB Try.prog = true := by kernel_rfl

set_option maxRecDepth 100000 in
theorem relayPlays_lifted (os : Os) (started : os.Started) (H : Type) (enc : TypeId × Value → H) :
    ReturnsInHanded {} Try.checked os 3 .any (Rows.relayPlaysSpec.pre6 enc Try.prog Try.f3 Rows.relayPlaysRow.domain false) (Rows.relayPlaysSpec.post enc Try.prog Try.f3 false true false false) := by
  refine returnsInHanded_of_change (C := Try.checked) own started (by kernel_rfl) Try.func3
    (ChangeSpec.witness6 (enc := enc) (C := Try.checked) false ⟨#[], #[.int .i64 0, .slice none 0 0], []⟩ 8 (by kernel_rfl) (by kernel_rfl) (by kernel_rfl) (by kernel_rfl)) ?_
  intro W base args ds gs before hval0 hW _ _
  have hval : ∀ (j : Nat) t v, Try.f3.params[j]? = some t → args[j]? = some v → Value.okWide Try.prog W .any base t v := hval0
  have hW' := hW
  obtain ⟨p, q, hA0, hV, rfl, _, _⟩ := hW
  have hA : DataW.TrodAll enc Try.prog W 0 (fun _ => true) true Try.f3.params.toList args.toList ds p := hA0
  rw [Try.params3] at hA hval
  obtain ⟨v0, vs0, d0, ds0, p0, q0, hargs, rfl, rfl, h0, r0⟩ := trodAll_cons hA
  obtain ⟨v1, vs1, d1, ds1, p1, q1, rfl, rfl, rfl, h1, r1⟩ := trodAll_cons r0
  obtain ⟨rfl, rfl, rfl⟩ := trodAll_nil r1
  obtain rfl : args = #[v0, v1] := by cases args; simp_all
  obtain ⟨rfl, rfl⟩ := trodVars_none hV
  have k0 := h0
  have lt0 : ∀ x ∈ p0, x.block < W.heap.size := by obtain ⟨m, hm⟩ := k0; exact DataW.trod_lt m _ _ _ hm
  have k1 := h1
  have lt1 : ∀ x ∈ p1, x.block < W.heap.size := by obtain ⟨m, hm⟩ := k1; exact DataW.trod_lt m _ _ _ hm
  obtain ⟨a0, rfl, _, _, _⟩ := open_int Try.underlying3 (hval 0 3 v0 rfl rfl) h0
  have hwalk : Calls Try.prog 3 #[.int .i64 a0, v1] W fun e w' => e = .returned (.bool true) ∧ Below W.heap.size W w' := by
    obtain ⟨fuel1, hf1⟩ := h1
    obtain ⟨x1, len1, cap1, rfl⟩ := okWide_slice Try.underlying22 (hval 1 22 v1 rfl rfl)
    obtain ⟨l, A, n, c, hv, hl, hc, hm, hL, hO⟩ := open_ras (by simpa [Value.cells] using hf1)
    injection hv with e1 e2 e3
    subst e1 e2 e3
    by_cases hn : 100 < len1
    · exact plays_many a0 _ _ _ W hn
    · exact plays_walk a0 x1 len1 cap1 l W hl hL hO (by omega)
  clear hA0 hval0
  refine hwalk.mono fun e W' ⟨he, bel⟩ => ?_
  subst he
  exact ⟨_, rfl, _, _, _, [], _, [], hW', trodAll_mk1 (shut_bool Try.underlying4 _), (trodAll_cons_mk (Below.trod laidOut (by kernel_rfl) (of_decide_eq_true (by kernel_rfl)) k0 bel lt0) (trodAll_cons_mk (Below.trod laidOut (by kernel_rfl) (of_decide_eq_true (by kernel_rfl)) k1 bel lt1) trodAll_mk0)), rfl, bel.frame _, fun h => by cases h⟩

theorem relayPlays_proved : Rows.RelayPlaysSaid :=
  OpenClaim.holds_of_wide 3 Try.f3 rfl rfl rfl rfl rfl rfl rfl ⟨rfl, rfl, rfl, rfl, rfl⟩ rfl rfl rfl rfl rfl (by kernel_rfl) Try.func3 (by kernel_rfl)
    (of_decide_eq_true (by kernel_rfl)) (by unfold Func.isWrapper; first | (rw [if_pos (by decide +kernel)]; kernel_rfl) | (rw [if_neg (by decide +kernel)]; exact ⟨rfl, rfl⟩))
    (fun os started H enc _ => relayPlays_lifted os started H enc)

end Go.Proofs.Ytmnjedpnhilndaa
