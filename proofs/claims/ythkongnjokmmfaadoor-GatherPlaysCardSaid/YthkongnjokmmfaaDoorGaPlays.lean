/- GatherPlays: for every chunk's size, every most, every room, every row of acts, every id and every number of a kind the call returns true (any row of acts is answered, and leaves parts, room and counts, as the document says), and changes nothing that was there. Condition: the library's table lies as its initialiser lays it (the card ties that). -/
import Derived.Test.YthkongnjokmmfaaDoorGaQ
import Derived.Test.YthkongnjokmmfaaDoorGaK
import Derived.Deep.CutBlock
namespace Go.Proofs.YthkongnjokmmfaaDoor
open Go.ChangeShapes Go.WideShapes Go.ChangeAt Go.RowKit

set_option maxRecDepth 100000 in
set_option maxHeartbeats 6400000 in
theorem gatherPlays_walk (c m r : Int) (hr : r ≤ 9223372036854775807) (A : Option Addr) (n cc : Nat) (l : List Ga) (x : Id) (k : Nat) (hk : k < 256) (w : World) (hT : Tab w) (hl : l.length = n) (hL : Lies w w.heap.size A (flat encGa l)) (hO : ∀ y ∈ l, PfOk w w.heap.size y.x) (hn : n ≤ 100) : Calls Tryd.prog 3 #[.int .i64 c, .int .i64 m, .int .i64 r, .slice A n cc, valId x, .int .u8 (k : Int)] w fun e w' => e = .returned (.bool true) ∧ RowKit.Below w.heap.size w w' := by
  have HL := Lib.hid hl
  have HLI := Lib.hid hL
  have HOK := Lib.hid hO
  have HT := Lib.hid hT
  clear hl hL hO hT
  unfold valId
  go_enter Tryd.func3, Tryd.ntmps3
  go_wp2_with fail
  generalize hw0 : World.alloc w _ = w0
  obtain ⟨hs0, hG, -⟩ := box1 w w0 _ _ hw0
  have hr0 : w0.heap[w.heap.size]? = some (.cells (idc x) 25 (0, 0)) := by rw [← hw0]; exact heap_alloc_new w _
  have HI := Lib.hid (And.intro hs0 (And.intro (hG.below : RowKit.Below w.heap.size w w0) hr0))
  have HNW := Lib.hid (newG_any c m r hr w0)
  have HRN := Lib.hid (fun W => refNewG_any c m r W)
  have hp0 : w0.heap.size = w.heap.size + 1 := hs0
  clear hw0 hs0 hG hr0
  refine HNW.out.mono ?_
  rintro e w1 ⟨rfl, hg, hb1, hs1⟩
  rw [hp0]
  have HG1 := Lib.hid hg
  have HB1 := Lib.hid hb1
  have HS1 := Lib.hid hs1
  clear hg hb1 hs1 HNW hp0
  go_wp2_with fail
  refine (HRN.out w1).mono ?_
  rintro e w2 ⟨rfl, hb2⟩
  obtain ⟨hro, hst⟩ := PlL.start HI.out HG1.out HB1.out HS1.out hb2 #[.int .i64 0, .int .i64 0, .int .i64 0, .slice none 0 0, .int .u8 0, .int .u64 0, .int .i64 0, .int .i64 0, .int .i64 0, .int .i64 0, .int .i64 0, .int .i64 0]
  obtain ⟨gc0, hgc0⟩ : ∃ gc0, rgCells (.slice none 0 0) (newG c m r) = gc0 := ⟨_, rfl⟩
  have HZ0 : Hid (gc0.size = 12) := by show gc0.size = 12; rw [← hgc0]; exact rg_size _ _
  have HO0 : Hid (gc0.all (·.oneCell') = true) := by show gc0.all (·.oneCell') = true; rw [← hgc0]; exact rg_one _ _ _ _
  rw [hgc0] at hst ⊢
  obtain ⟨w3, hw3⟩ : ∃ w3, w3 = (w2.alloc (.cells #[.int .i64 0, .int .i64 0, .int .i64 0, .slice none 0 0, .int .u8 0, .int .u64 0, .int .i64 0, .int .i64 0, .int .i64 0, .int .i64 0, .int .i64 0, .int .i64 0] 32)).setRow w2.heap.size gc0 := ⟨_, rfl⟩
  rw [← hw3] at hst
  have HST := Lib.hid hst
  have HW3 := Lib.hid hw3
  have HRO := Lib.hid hro
  clear hgc0 hst hw3 hro hb2 HRN HG1 HB1 HS1 HI
  go_upto_region 4 with (first | ((with_reducible_and_instances refine store_Rg (.tmp 14) (.tmp 36) ?_ ?_ HRO.out ?_ HZ0.out HO0.out ?_); exact rfl; exact rfl; exact rfl) | fail)
  rw [← HW3.out]
  clear HRO HZ0 HO0 HW3
  generalize w2.heap.size = mp at HST ⊢
  go_wp2_with fail
  go_loopw [15] (fun s15 wr => ∃ i : Nat, i ≤ n ∧ s15 = .int .i64 (i : Int) ∧ Hid (PlL w mp x i wr)) (fun s15 _ => n - (intOf s15).toNat)
  case atStart => exact ⟨0, Nat.zero_le _, rfl, HST.out⟩
  case round =>
    obtain ⟨i, hi, rfl, HP⟩ := hrel
    clear HST
    by_cases hlt : i < n
    · have hil : i < l.length := by rw [HL.out]; exact hlt
      have hbw := HP.out.below
      obtain ⟨T, L, D, A1, n1, c1, R1, g, hPS, hok, hwt, hc0⟩ := HP.out
      obtain ⟨b, off, rfl, hbl, hrg⟩ := ga_at (HLI.out.later hbw) hil
      have hym := List.getElem_mem hil
      obtain ⟨y, hye⟩ : ∃ y, l[i] = y := ⟨_, rfl⟩
      rw [hye] at hrg hym
      have HX := Lib.hid (HOK.out y hym)
      obtain ⟨hro, hPA⟩ := hPS.act y #[.int .i64 0, .int .u8 0, .int .u8 0, .int .u8 0, .int .u8 0, .int .u64 0, .int .u64 0, .int .u32 0, .int .u32 0, .int .u32 0, .int .u64 0, .int .u64 0, .slice none 0 0, .slice none 0 0, .slice none 0 0, .slice none 0 0, .slice none 0 0]
      obtain ⟨ac, hac⟩ : ∃ ac, (encGa y).toArray = ac := ⟨_, rfl⟩
      have HAC := Lib.hid hac
      have HAZ : Hid (ac.size = 17) := by show ac.size = 17; rw [← hac]; rfl
      have HA1 : Hid (ac.all (·.oneCell') = true) := by show ac.all (·.oneCell') = true; rw [← hac]; exact encGa_one y
      obtain ⟨w4, hw4⟩ : ∃ w4, w4 = (wr.alloc (.cells #[.int .i64 0, .int .u8 0, .int .u8 0, .int .u8 0, .int .u8 0, .int .u64 0, .int .u64 0, .int .u32 0, .int .u32 0, .int .u32 0, .int .u64 0, .int .u64 0, .slice none 0 0, .slice none 0 0, .slice none 0 0, .slice none 0 0, .slice none 0 0] 43)).setRow wr.heap.size ac := ⟨_, rfl⟩
      rw [hac, ← hw4] at hPA
      have HW4 := Lib.hid hw4
      have HRO := Lib.hid hro
      have HRG := Lib.hid hrg
      have HPA := Lib.hid hPA
      have HFR := Lib.hid hPA.fr
      have HOKG := Lib.hid hok
      have HC0 := Lib.hid hc0
      have HRM := Lib.hid hPS.g.rm
      have hi2 : (i : Int) ≤ 100 := by omega
      clear hbw hPS hok hc0 hrg hym hye hro hPA hac hw4 hbl HP
      go_upto_region 8 with (first | ((with_reducible_and_instances refine load_Ga (.tmp 45) ?_ HRG.out HAC.out ?_); exact rfl) | ((with_reducible_and_instances refine store_Ga (.tmp 16) (.tmp 46) ?_ ?_ HRO.out ?_ HAZ.out HA1.out ?_); exact rfl; exact rfl; exact rfl) | fail)
      rw [← HW4.out]
      clear HRG HRO HW4
      generalize wr.heap.size = ab at HPA HFR ⊢
      have HG : Hid (Calls Tryd.prog 8 #[.agg y.x.cs] w4 fun e w' => e = .returned (.bool (greatB y.x.F)) ∧ RowKit.Below w4.heap.size w4 w') := refGreat_any y.x.F y.x.cs w4 ((HX.out.on HPA.out.s.below).x.frl)
      generalize hgb : greatB y.x.F = gb at HG
      clear hgb
      go_wp2_with (first | ((with_reducible_and_instances refine load_elem (.tmp 47) ?_ HFR.out ?_); exact rfl) | fail)
      refine HG.out.mono ?_
      rintro e w5 ⟨rfl, hb5⟩
      have HB4 := Lib.hid HPA.out.s.below
      have HP5 := Lib.hid (HPA.out.on hb5)
      have z9 := (HPA.out.on hb5).sz
      have hys : y.x.F.size < 4294967296 := HX.out.wf.size
      clear HFR HG HPA hb5
      cases gb with
      | true =>
        clear z9
        go_wp2_with (go_at_call 5; refine (awake_any _).mono ?_; rintro e w' ⟨rfl, hb⟩)
        go_ret
        exact ⟨rfl, HP5.out.s.below.trans (hb.mono HP5.out.s.below.size)⟩
      | false =>
        by_cases hsz : 5000 < y.x.F.size
        · have hd : decide ((5000 : Int) < (y.x.F.size : Int)) = true := decide_eq_true (by omega)
          clear hsz
          go_wp2_with (go_at_call 5; refine (awake_any _).mono ?_; rintro e w' ⟨rfl, hb⟩)
          go_ret
          exact ⟨rfl, HP5.out.s.below.trans (hb.mono HP5.out.s.below.size)⟩
        · have hd : decide ((5000 : Int) < (y.x.F.size : Int)) = false := decide_eq_false (by omega)
          clear hsz
          have z0 := HP5.out.kind
          go_upto_block 2 with fail
          clear z9 hd
          go_cut [17, 18, 19, 20, 21, 22, 23, 24] from 37 to 165 (fun _ _ _ _ _ _ _ _ wx => PlE w mp x ab y (i + 1) wx)
          case first =>
            by_cases hk0 : y.k = 0
            · skip
              have d0 : (y.k == 0) = true := by simpa using hk0
              clear hk0
              obtain ⟨gc, hgc⟩ : ∃ gc, rgCells (.slice A1 n1 c1) g = gc := ⟨_, rfl⟩
              have HGZ : Hid (gc.size = 12) := by show gc.size = 12; rw [← hgc]; exact rg_size _ _
              have HGR := Lib.hid (hgc ▸ HP5.out.s.row : w5.heap[mp]? = some (.cells gc 32 (0, 0)))
              have hpu := HP5.out.mput HOKG.out (by omega) HRM.out HX.out
              have hgp := fun V A' n' c' R' gm (h : PlA w mp x ab y T L D A' n' c' R' g gm V) => h.gput HOKG.out (by omega) HX.out
              have hfa : (g.put (mayB y.x.F.id) y.x.F).1.Ok ∧ (g.put (mayB y.x.F.id) y.x.F).1.weight ≤ 2 * (i + 1) ∧ (g.put (mayB y.x.F.id) y.x.F).1.counts.getD 0 0 = 0 := ⟨HOKG.out.put _ _, by have := put_weight (g := g) (mayB y.x.F.id) y.x.F HOKG.out.six; omega, by rw [put_c0]; exact HC0.out⟩
              generalize g.put (mayB y.x.F.id) y.x.F = pt at hpu hgp hfa
              obtain ⟨g2, sd, md⟩ := pt
              simp only [] at hpu hgp hfa
              rw [hgc] at hpu
              have HPU := Lib.hid hpu
              have HGP := Lib.hid hgp
              have HFA := Lib.hid hfa
              have HFR5 := Lib.hid HP5.out.fr
              clear hgc hpu hgp hfa z0
              go_wp2_with (first | ((with_reducible_and_instances refine load_Rg (.tmp 14) ?_ HGR.out HGZ.out ?_); exact rfl) | ((with_reducible_and_instances refine load_elem (.tmp 80) ?_ HFR5.out ?_); exact rfl) | fail)
              refine HPU.out.mono ?_
              rintro e w6 ⟨A', n', c', R', rfl, hR, hb⟩
              have hP6 := HP5.out.on hb
              obtain ⟨hro6, hV1⟩ := hP6.setM2 hR #[.int .i64 0, .int .i64 0, .int .i64 0, .slice none 0 0, .int .u8 0, .int .u64 0, .int .i64 0, .int .i64 0, .int .i64 0, .int .i64 0, .int .i64 0, .int .i64 0]
              obtain ⟨gd, hgd⟩ : ∃ gd, rgCells (.slice A' n' c') g2 = gd := ⟨_, rfl⟩
              have HDZ : Hid (gd.size = 12) := by show gd.size = 12; rw [← hgd]; exact rg_size _ _
              have HDO : Hid (gd.all (·.oneCell') = true) := by show gd.all (·.oneCell') = true; rw [← hgd]; exact rg_one _ _ _ _
              have hgc : ∃ ge, rgCells (.slice A1 n1 c1) g = ge ∧ ge.size = 12 := ⟨_, rfl, rg_size _ _⟩
              obtain ⟨ge, hge, hgez⟩ := hgc
              rw [hgd, hge] at hV1
              rw [hgd]
              obtain ⟨w7, hw7⟩ : ∃ w7, w7 = (w6.alloc (.cells #[.int .i64 0, .int .i64 0, .int .i64 0, .slice none 0 0, .int .u8 0, .int .u64 0, .int .i64 0, .int .i64 0, .int .i64 0, .int .i64 0, .int .i64 0, .int .i64 0] 32)).setRow w6.heap.size gd := ⟨_, rfl⟩
              obtain ⟨hr7, hrm7, hP8⟩ := hV1 w7 hw7
              have HGEZ := Lib.hid hgez
              have HRO6 := Lib.hid hro6
              have HW7 := Lib.hid hw7
              have HR7 := Lib.hid hr7
              have HRM7 := Lib.hid hrm7
              have HP8 := Lib.hid hP8
              clear hP6 hV1 hgd hge hgez hw7 hr7 hrm7 hP8 hro6 hb hR HPU HGR HGZ HFR5
              go_upto_region 17 with (first | ((with_reducible_and_instances refine store_Rg (.tmp 17) (.tmp 83) ?_ ?_ HRO6.out ?_ HDZ.out HDO.out ?_); exact rfl; exact rfl; exact rfl) | fail)
              rw [← HW7.out]
              clear HRO6 HW7
              go_upto_region 18 with (first | ((with_reducible_and_instances refine load_Rg (.tmp 17) ?_ HR7.out HDZ.out ?_); exact rfl) | ((with_reducible_and_instances refine store_Rg (.tmp 14) (.tmp 86) ?_ ?_ HRM7.out HGEZ.out HDZ.out HDO.out ?_); exact rfl; exact rfl) | fail)
              generalize w7.setRow mp gd = w8 at HP8 ⊢
              have HFR8 := Lib.hid HP8.out.fr
              have HG8 := Lib.hid (HGP.out w8 _ _ _ _ _ HP8.out)
              clear HR7 HRM7 HDZ HDO HGEZ HGP
              go_wp2_with (first | ((with_reducible_and_instances refine load_elem (.tmp 89) ?_ HFR8.out ?_); exact rfl) | fail)
              refine HG8.out.mono ?_
              rintro e w9 ⟨T', L', D', A9, n9, c9, rfl, hst, hP9⟩
              have hst := hst.out
              have HP9 := Lib.hid hP9
              clear hP9 HFR8 HG8 HP8
              generalize str sd = ss at hst
              go_wp2
              go_meet
              case rel => exact ⟨_, _, _, _, _, _, _, g2, HP9.out, HFA.out⟩
            · by_cases hk1 : y.k = 1
              · skip
                have d0 : (y.k == 0) = false := by simpa using hk0
                have d1 : (y.k == 1) = true := by simpa using hk1
                clear hk0 hk1
                have z4 := HP5.out.if_
                have z5 := HP5.out.is_
                have hs5 := HP5.out.s.row
                have m4 : w5.cell? ⟨mp, 4, none⟩ = some (.int .u8 (g.wanted.f : Int)) := cell_of_row w5 mp 4 _ _ _ hs5
                have m5 : w5.cell? ⟨mp, 5, none⟩ = some (.int .u64 (g.wanted.s : Int)) := cell_of_row w5 mp 5 _ _ _ hs5
                have f4 := frozen_of_row w5 mp 4 _ _ hs5
                have f5 := frozen_of_row w5 mp 5 _ _ hs5
                have HP6 := Lib.hid (HP5.out.mwant y.x.F.id)
                have ham : mp ≠ ab := by have := HP5.out.am; omega
                have ham2 : ab ≠ mp := fun e => ham e.symm
                clear hs5 z0
                go_upto_region 23 with fail
                generalize hw6 : World.setCell (World.setCell w5 _ _) _ _ = w6 at HP6 ⊢
                have HW := Lib.hid HP6.out.want
                have z4 := HP6.out.if_
                have z5 := HP6.out.is_
                unfold valId at HW
                clear m4 m5 f4 f5 hw6
                go_wp2_with fail
                refine HW.out.mono ?_
                rintro e w7 ⟨rfl, hP7⟩
                have HP7 := Lib.hid hP7
                have HFA : Hid (Gm.Ok { g with wanted := y.x.F.id } ∧ Gm.weight { g with wanted := y.x.F.id } ≤ 2 * (i + 1) ∧ ({ g with wanted := y.x.F.id } : Gm).counts.getD 0 0 = 0) := ⟨HOKG.out.want _, by show g.weight ≤ _; omega, HC0.out⟩
                clear hP7 HW z4 z5
                go_wp2
                go_meet
                case rel => exact ⟨_, _, _, _, _, _, _, _, HP7.out, HFA.out⟩
              · skip
                have d0 : (y.k == 0) = false := by simpa using hk0
                have d1 : (y.k == 1) = false := by simpa using hk1
                clear hk0 hk1
                obtain ⟨gc, hgc⟩ : ∃ gc, rgCells (.slice A1 n1 c1) g = gc := ⟨_, rfl⟩
                have HGZ : Hid (gc.size = 12) := by show gc.size = 12; rw [← hgc]; exact rg_size _ _
                have HGR := Lib.hid (hgc ▸ HP5.out.s.row : w5.heap[mp]? = some (.cells gc 32 (0, 0)))
                have hn1 : n1 ≤ 1000000 := by have h1 := HP5.out.s.r.mlen; unfold Gm.weight at hwt; omega
                have hpu := HP5.out.mdrop hn1
                have hgp := fun V A' n' c' R' gm B cc (h : PlA w mp x ab y T L D A' n' c' R' g gm V) (hB : LiesX V D B (flat encId [y.x.F.id])) => h.gdrop (by omega) B cc hB
                have hfa : (g.drop y.x.F.id).1.Ok ∧ (g.drop y.x.F.id).1.weight ≤ 2 * (i + 1) ∧ (g.drop y.x.F.id).1.counts.getD 0 0 = 0 := ⟨HOKG.out.drop _, by have := drop_weight (g := g) y.x.F.id; omega, by rw [drop_c0]; exact HC0.out⟩
                generalize g.drop y.x.F.id = pt at hpu hgp hfa
                obtain ⟨g2, md⟩ := pt
                simp only [] at hpu hgp hfa
                rw [hgc] at hpu
                unfold valId at hpu
                have HPU := Lib.hid hpu
                have HGP := Lib.hid hgp
                have HFA := Lib.hid hfa
                have z4 := HP5.out.if_
                have z5 := HP5.out.is_
                clear hgc hpu hgp hfa z0 hn1
                go_wp2_with (first | ((with_reducible_and_instances refine load_Rg (.tmp 14) ?_ HGR.out HGZ.out ?_); exact rfl) | fail)
                refine HPU.out.mono ?_
                rintro e w6 ⟨A', n', c', R', rfl, hR, hb⟩
                have hP6 := HP5.out.on hb
                obtain ⟨hro6, hV1⟩ := hP6.setM2 hR #[.int .i64 0, .int .i64 0, .int .i64 0, .slice none 0 0, .int .u8 0, .int .u64 0, .int .i64 0, .int .i64 0, .int .i64 0, .int .i64 0, .int .i64 0, .int .i64 0]
                obtain ⟨gd, hgd⟩ : ∃ gd, rgCells (.slice A' n' c') g2 = gd := ⟨_, rfl⟩
                have HDZ : Hid (gd.size = 12) := by show gd.size = 12; rw [← hgd]; exact rg_size _ _
                have HDO : Hid (gd.all (·.oneCell') = true) := by show gd.all (·.oneCell') = true; rw [← hgd]; exact rg_one _ _ _ _
                have hgc : ∃ ge, rgCells (.slice A1 n1 c1) g = ge ∧ ge.size = 12 := ⟨_, rfl, rg_size _ _⟩
                obtain ⟨ge, hge, hgez⟩ := hgc
                rw [hgd, hge] at hV1
                rw [hgd]
                obtain ⟨w7, hw7⟩ : ∃ w7, w7 = (w6.alloc (.cells #[.int .i64 0, .int .i64 0, .int .i64 0, .slice none 0 0, .int .u8 0, .int .u64 0, .int .i64 0, .int .i64 0, .int .i64 0, .int .i64 0, .int .i64 0, .int .i64 0] 32)).setRow w6.heap.size gd := ⟨_, rfl⟩
                obtain ⟨hr7, hrm7, hP8⟩ := hV1 w7 hw7
                have HGEZ := Lib.hid hgez
                have HRO6 := Lib.hid hro6
                have HW7 := Lib.hid hw7
                have HR7 := Lib.hid hr7
                have HRM7 := Lib.hid hrm7
                have HP8 := Lib.hid hP8
                clear hP6 hV1 hgd hge hgez hw7 hr7 hrm7 hP8 hro6 hb hR HPU HGR HGZ z4 z5
                go_upto_region 12 with (first | ((with_reducible_and_instances refine store_Rg (.tmp 22) (.tmp 65) ?_ ?_ HRO6.out ?_ HDZ.out HDO.out ?_); exact rfl; exact rfl; exact rfl) | fail)
                rw [← HW7.out]
                clear HRO6 HW7
                go_upto_region 13 with (first | ((with_reducible_and_instances refine load_Rg (.tmp 22) ?_ HR7.out HDZ.out ?_); exact rfl) | ((with_reducible_and_instances refine store_Rg (.tmp 14) (.tmp 67) ?_ ?_ HRM7.out HGEZ.out HDZ.out HDO.out ?_); exact rfl; exact rfl) | fail)
                generalize w7.setRow mp gd = w8 at HP8 ⊢
                have z4 := HP8.out.if_
                have z5 := HP8.out.is_
                have hbA : RowKit.Below w8.heap.size w8 (w8.alloc (.cells #[.int .u8 (y.x.F.id.f : Int), .int .u64 (y.x.F.id.s : Int)] 25)) := (RowKit.Below.refl _ _).alloc (Nat.le_refl _) _
                have hB9 : LiesX (w8.alloc (.cells #[.int .u8 (y.x.F.id.f : Int), .int .u64 (y.x.F.id.s : Int)] 25)) D (some ⟨w8.heap.size, 0, none⟩) (flat encId [y.x.F.id]) := LiesX.of_new #[.int .u8 (y.x.F.id.f : Int), .int .u64 (y.x.F.id.s : Int)] 25 (fun hk => by have := (HP8.out.s.g.din _ hk).2; omega)
                have HG8 := Lib.hid (HGP.out _ _ _ _ _ _ (some ⟨w8.heap.size, 0, none⟩) 1 (HP8.out.on hbA) hB9)
                clear HR7 HRM7 HDZ HDO HGEZ HGP hbA hB9
                go_wp2_with fail
                refine HG8.out.mono ?_
                rintro e w9 ⟨T', L', rfl, hP9⟩
                have HP9 := Lib.hid hP9
                clear hP9 HG8 HP8 z4 z5
                go_wp2
                go_meet
                case rel => exact ⟨_, _, _, _, _, _, _, g2, HP9.out, HFA.out⟩
          case rest =>
            obtain ⟨T2, L2, D2, A2, n2, c2, R2, g2, hPA, hok2, hwt2, hn2, hc02⟩ := hcut.parts (by omega)
            have HNX : Hid (∀ V, RowKit.Below wc.heap.size wc V → PlL w mp x (i + 1) V) := fun V hV => hcut.next hV
            clear hcut HP5 HB4 HOKG HC0 HRM z0 hys HX hwt
            generalize wc = U at hPA HNX ⊢
            obtain ⟨gc, hgc⟩ : ∃ gc, rgCells (.slice A2 n2 c2) g2 = gc := ⟨_, rfl⟩
            have HGZ : Hid (gc.size = 12) := by show gc.size = 12; rw [← hgc]; exact rg_size _ _
            have hYR : ∀ V, RowKit.Below U.heap.size U V → V.heap[mp]? = some (.cells gc 32 (0, 0)) := fun V hV => by rw [← hgc]; exact (hPA.on hV).s.row
            have HYR := Lib.hid hYR
            have y0 : ∀ V, RowKit.Below U.heap.size U V → V.cell? ⟨w.heap.size, 0, none⟩ = some (.int .u8 (x.f : Int)) := fun V hV => cell_of_row V w.heap.size 0 _ _ _ (hPA.on hV).s.idr
            have y1 : ∀ V, RowKit.Below U.heap.size U V → V.cell? ⟨w.heap.size, 1, none⟩ = some (.int .u64 (x.s : Int)) := fun V hV => cell_of_row V w.heap.size 1 _ _ _ (hPA.on hV).s.idr
            have z4 : ∀ V, RowKit.Below U.heap.size U V → V.cell? ⟨ab, 4, none⟩ = some (.int .u8 (y.x.F.id.f : Int)) := fun V hV => (hPA.on hV).if_
            have z5 : ∀ V, RowKit.Below U.heap.size U V → V.cell? ⟨ab, 5, none⟩ = some (.int .u64 (y.x.F.id.s : Int)) := fun V hV => (hPA.on hV).is_
            have cu1 := fun V hV => hPA.cu1 (V := V) hV
            have cu2 := fun V hV => hPA.cu2 (V := V) hok2 hV
            have cx1 := fun V hV => hPA.cf1 (V := V) hok2 hwt2 HT.out hV x
            have cx2 := fun V hV => hPA.cf2 (V := V) hok2 hn2 hV x
            have cy1 := fun V hV => hPA.cf1 (V := V) hok2 hwt2 HT.out hV y.x.F.id
            have cy2 := fun V hV => hPA.cf2 (V := V) hok2 hn2 hV y.x.F.id
            have ccn := fun V hV => hPA.cc (V := V) hV k hk
            have ci1 := fun V hV => hPA.ci1 (V := V) hwt2 hV
            have ci2 := fun V hV => hPA.ci2 (V := V) hn2 hV
            have hil2 : (g2.l.map Part.id).length ≤ 1000 := by rw [List.length_map]; unfold Gm.weight at hwt2; omega
            have xk : k < 6 → U.cell? ⟨mp, 6 + k, none⟩ = some (.int .i64 (cntOf g2 k : Int)) := fun h6 => by unfold cntOf; rw [if_pos h6]; exact hPA.cnt k h6
            have hk00 : ¬ (1 ≤ k ∧ k ≤ 5) → cntOf g2 k = 0 := fun hh => by
              unfold cntOf
              split
              · have : k = 0 := by omega
                rw [this]
                exact hc02
              · rfl
            rw [hgc] at cu2 cx2 cy2 ci2
            generalize usedL g2.l = us at cu1 cu2
            generalize g2.first x = fx at cx1 cx2
            generalize g2.first y.x.F.id = fy at cy1 cy2
            generalize g2.l.map Part.id = ids at ci1 ci2 hil2
            generalize cntOf g2 k = ck at ccn xk hk00
            have CU1 := Lib.hid cu1
            have CU2 := Lib.hid cu2
            have CX1 := Lib.hid cx1
            have CX2 := Lib.hid cx2
            have CY1 := Lib.hid cy1
            have CY2 := Lib.hid cy2
            have CI1 := Lib.hid ci1
            have CI2 := Lib.hid ci2
            have HIL := Lib.hid hil2
            generalize (y.x.F.id.f : Int) = yf at z4 CY1 CY2
            generalize (y.x.F.id.s : Int) = ys at z5 CY1 CY2
            clear hYR cu1 cu2 cx1 cx2 cy1 cy2 ci1 ci2 hil2 hgc hPA hok2 hwt2 hn2 hc02
            by_cases hkk : 1 ≤ k ∧ k ≤ 5
            · have e1 : decide ((1 : Int) ≤ (k : Int)) = true := decide_eq_true (by omega)
              have e2 : decide ((k : Int) ≤ 5) = true := decide_eq_true (by omega)
              have xk := xk (by omega)
              have hk6 : k < 6 := by omega
              have CC := Lib.hid ccn
              clear hk00 ccn hkk
              go_upto_region 27 with fail
              clear xk e1 e2
              have hHD : RowKit.Below U.heap.size U U.drew := (RowKit.Below.refl _ _).drew
              refine wp_region_held_drew (S := fun V => RowKit.Below U.heap.size U V) (by kernel_rfl) hHD (fun hHeld => ?_)
              clear hHD
              have hHeld : RowKit.Below U.heap.size U U.drew := (RowKit.Below.refl _ _).drew
              generalize U.drew = X0 at hHeld ⊢
              refine wpAnyH_takeAt (i := 0) (d := 124) (v := ?_) rfl rfl (by kernel_rfl) (by kernel_rfl) (by kernel_rfl) (fun _ _ _ h => h) (Or.inl ⟨by rfl, ?_⟩) hHeld ?_
              rotate_left
              · (intro _ hSw; go_simp; try with_reducible rfl)
              simp only [List.setIfInBounds_toArray, List.set_cons_zero, List.set_cons_succ]
              refine wpAnyH_takeAt (i := 2) (d := 126) (v := .agg gc) rfl rfl (by kernel_rfl) (by kernel_rfl) (by kernel_rfl) (fun _ _ _ h => h) (yields_Rg (S := fun V => RowKit.Below U.heap.size U V) (x := .tmp 14) (g := mp) rfl rfl rfl HGZ.out HYR.out) hHeld ?_
              simp only [List.setIfInBounds_toArray, List.set_cons_zero, List.set_cons_succ]
              refine wpAnyH_ready (rs := [1]) (by kernel_rfl) (by simp) ?_
              refine AllReadyH.cons rfl (fun K hK => ?_) AllReadyH.nil
              go_simp
              refine (CU1.out _ hHeld).mono ?_
              rintro e V' ⟨rfl, he⟩
              subst he
              refine hK.out _ _ hHeld (fun _ => ?_)
              clear hK K
              refine wpAnyH_ready (rs := [3]) (by kernel_rfl) (by simp) ?_
              refine AllReadyH.cons rfl (fun K hK => ?_) AllReadyH.nil
              go_simp
              refine (CU2.out _ hHeld).mono ?_
              rintro e V' ⟨rfl, hb⟩
              have hH : RowKit.Below U.heap.size U V' := hHeld.trans (hb.mono hHeld.size)
              refine hK.out _ _ hH (fun _ => ?_)
              clear hK K hb hHeld
              have hHeld := hH
              clear hH
              refine wpAnyH_takeAt (i := 4) (d := 128) (v := ?_) rfl rfl (by kernel_rfl) (by kernel_rfl) (by kernel_rfl) (fun _ _ _ h => h) (Or.inl ⟨by rfl, ?_⟩) hHeld ?_
              rotate_left
              · (intro _ hSw; go_simp; try with_reducible rfl)
              simp only [List.setIfInBounds_toArray, List.set_cons_zero, List.set_cons_succ]
              refine wpAnyH_takeAt (i := 5) (d := 129) (v := ?_) rfl rfl (by kernel_rfl) (by kernel_rfl) (by kernel_rfl) (fun _ _ _ h => h) (Or.inl ⟨by rfl, ?_⟩) hHeld ?_
              rotate_left
              · (intro _ hSw; go_simp; try with_reducible rfl)
              simp only [List.setIfInBounds_toArray, List.set_cons_zero, List.set_cons_succ]
              refine wpAnyH_takeAt (i := 6) (d := 130) (v := ?_) rfl rfl (by kernel_rfl) (by kernel_rfl) (by kernel_rfl) (fun _ _ _ h => h) (Or.inl ⟨by rfl, ?_⟩) hHeld ?_
              rotate_left
              · (intro _ hSw; go_simp; try with_reducible rfl)
              simp only [List.setIfInBounds_toArray, List.set_cons_zero, List.set_cons_succ]
              refine wpAnyH_takeAt (i := 7) (d := 131) (v := ?_) rfl rfl (by kernel_rfl) (by kernel_rfl) (by kernel_rfl) (fun _ _ _ h => h) (Or.inl ⟨by rfl, ?_⟩) hHeld ?_
              rotate_left
              · (intro _ hSw; go_simp; try with_reducible rfl)
              simp only [List.setIfInBounds_toArray, List.set_cons_zero, List.set_cons_succ]
              refine wpAnyH_takeAt (i := 9) (d := 133) (v := .agg gc) rfl rfl (by kernel_rfl) (by kernel_rfl) (by kernel_rfl) (fun _ _ _ h => h) (yields_Rg (S := fun V => RowKit.Below U.heap.size U V) (x := .tmp 14) (g := mp) rfl rfl rfl HGZ.out HYR.out) hHeld ?_
              simp only [List.setIfInBounds_toArray, List.set_cons_zero, List.set_cons_succ]
              refine wpAnyH_takeAt (i := 10) (d := 134) (v := ?_) rfl rfl (by kernel_rfl) (by kernel_rfl) (by kernel_rfl) (fun _ _ _ h => h) (Or.inl ⟨by rfl, ?_⟩) hHeld ?_
              rotate_left
              · (intro _ hSw; go_simp; try with_reducible rfl)
              simp only [List.setIfInBounds_toArray, List.set_cons_zero, List.set_cons_succ]
              refine wpAnyH_ready (rs := [8]) (by kernel_rfl) (by simp) ?_
              refine AllReadyH.cons rfl (fun K hK => ?_) AllReadyH.nil
              go_simp
              refine (CX1.out _ hHeld).mono ?_
              rintro e V' ⟨rfl, hb⟩
              have hH : RowKit.Below U.heap.size U V' := hHeld.trans (hb.mono hHeld.size)
              refine hK.out _ _ hH (fun _ => ?_)
              clear hK K hb hHeld
              have hHeld := hH
              clear hH
              refine wpAnyH_ready (rs := [11]) (by kernel_rfl) (by simp) ?_
              refine AllReadyH.cons rfl (fun K hK => ?_) AllReadyH.nil
              go_simp
              refine (CX2.out _ hHeld).mono ?_
              rintro e V' ⟨rfl, hb⟩
              have hH : RowKit.Below U.heap.size U V' := hHeld.trans (hb.mono hHeld.size)
              refine hK.out _ _ hH (fun _ => ?_)
              clear hK K hb hHeld
              have hHeld := hH
              clear hH
              refine wpAnyH_takeAt (i := 12) (d := 136) (v := ?_) rfl rfl (by kernel_rfl) (by kernel_rfl) (by kernel_rfl) (fun _ _ _ h => h) (Or.inl ⟨by rfl, ?_⟩) hHeld ?_
              rotate_left
              · (intro _ hSw; go_simp; try with_reducible rfl)
              simp only [List.setIfInBounds_toArray, List.set_cons_zero, List.set_cons_succ]
              refine wpAnyH_takeAt (i := 13) (d := 137) (v := ?_) rfl rfl (by kernel_rfl) (by kernel_rfl) (by kernel_rfl) (fun _ _ _ h => h) (Or.inl ⟨by rfl, ?_⟩) hHeld ?_
              rotate_left
              · (intro _ hSw; go_simp; try with_reducible rfl)
              simp only [List.setIfInBounds_toArray, List.set_cons_zero, List.set_cons_succ]
              refine wpAnyH_takeAt (i := 14) (d := 138) (v := ?_) rfl rfl (by kernel_rfl) (by kernel_rfl) (by kernel_rfl) (fun _ _ _ h => h) (Or.inl ⟨by rfl, ?_⟩) hHeld ?_
              rotate_left
              · (intro _ hSw; go_simp; try with_reducible rfl)
              simp only [List.setIfInBounds_toArray, List.set_cons_zero, List.set_cons_succ]
              refine wpAnyH_takeAt (i := 15) (d := 139) (v := ?_) rfl rfl (by kernel_rfl) (by kernel_rfl) (by kernel_rfl) (fun _ _ _ h => h) (Or.inl ⟨by rfl, ?_⟩) hHeld ?_
              rotate_left
              · (intro _ hSw; go_simp; try with_reducible rfl)
              simp only [List.setIfInBounds_toArray, List.set_cons_zero, List.set_cons_succ]
              refine wpAnyH_takeAt (i := 16) (d := 140) (v := ?_) rfl rfl (by kernel_rfl) (by kernel_rfl) (by kernel_rfl) (fun _ _ _ h => h) (Or.inl ⟨by rfl, ?_⟩) hHeld ?_
              rotate_left
              · (intro _ hSw; go_simp; try with_reducible rfl)
              simp only [List.setIfInBounds_toArray, List.set_cons_zero, List.set_cons_succ]
              refine wpAnyH_takeAt (i := 17) (d := 141) (v := ?_) rfl rfl (by kernel_rfl) (by kernel_rfl) (by kernel_rfl) (fun _ _ _ h => h) (Or.inl ⟨by rfl, ?_⟩) hHeld ?_
              rotate_left
              · (intro _ hSw; go_simp; try with_reducible rfl)
              simp only [List.setIfInBounds_toArray, List.set_cons_zero, List.set_cons_succ]
              refine wpAnyH_takeAt (i := 18) (d := 142) (v := ?_) rfl rfl (by kernel_rfl) (by kernel_rfl) (by kernel_rfl) (fun _ _ _ h => h) (Or.inl ⟨by rfl, ?_⟩) hHeld ?_
              rotate_left
              · (intro _ hSw; go_simp; try with_reducible rfl)
              simp only [List.setIfInBounds_toArray, List.set_cons_zero, List.set_cons_succ]
              refine wpAnyH_takeAt (i := 20) (d := 144) (v := .agg gc) rfl rfl (by kernel_rfl) (by kernel_rfl) (by kernel_rfl) (fun _ _ _ h => h) (yields_Rg (S := fun V => RowKit.Below U.heap.size U V) (x := .tmp 14) (g := mp) rfl rfl rfl HGZ.out HYR.out) hHeld ?_
              simp only [List.setIfInBounds_toArray, List.set_cons_zero, List.set_cons_succ]
              refine wpAnyH_takeAt (i := 21) (d := 145) (v := ?_) rfl rfl (by kernel_rfl) (by kernel_rfl) (by kernel_rfl) (fun _ _ _ h => h) (Or.inl ⟨by rfl, ?_⟩) hHeld ?_
              rotate_left
              · (intro _ hSw; go_simp; try with_reducible rfl)
              simp only [List.setIfInBounds_toArray, List.set_cons_zero, List.set_cons_succ]
              refine wpAnyH_takeAt (i := 22) (d := 146) (v := ?_) rfl rfl (by kernel_rfl) (by kernel_rfl) (by kernel_rfl) (fun _ _ _ h => h) (Or.inl ⟨by rfl, ?_⟩) hHeld ?_
              rotate_left
              · (intro _ hSw; go_simp; try with_reducible rfl)
              simp only [List.setIfInBounds_toArray, List.set_cons_zero, List.set_cons_succ]
              refine wpAnyH_takeAt (i := 23) (d := 147) (v := ?_) rfl rfl (by kernel_rfl) (by kernel_rfl) (by kernel_rfl) (fun _ _ _ h => h) (Or.inl ⟨by rfl, ?_⟩) hHeld ?_
              rotate_left
              · (intro _ hSw; go_simp; try with_reducible rfl)
              simp only [List.setIfInBounds_toArray, List.set_cons_zero, List.set_cons_succ]
              refine wpAnyH_ready (rs := [19]) (by kernel_rfl) (by simp) ?_
              refine AllReadyH.cons rfl (fun K hK => ?_) AllReadyH.nil
              go_simp
              refine (CY1.out _ hHeld).mono ?_
              rintro e V' ⟨rfl, hb⟩
              have hH : RowKit.Below U.heap.size U V' := hHeld.trans (hb.mono hHeld.size)
              refine hK.out _ _ hH (fun _ => ?_)
              clear hK K hb hHeld
              have hHeld := hH
              clear hH
              refine wpAnyH_ready (rs := [24]) (by kernel_rfl) (by simp) ?_
              refine AllReadyH.cons rfl (fun K hK => ?_) AllReadyH.nil
              go_simp
              refine (CY2.out _ hHeld).mono ?_
              rintro e V' ⟨rfl, hb⟩
              have hH : RowKit.Below U.heap.size U V' := hHeld.trans (hb.mono hHeld.size)
              refine hK.out _ _ hH (fun _ => ?_)
              clear hK K hb hHeld
              have hHeld := hH
              clear hH
              refine wpAnyH_takeAt (i := 25) (d := 149) (v := ?_) rfl rfl (by kernel_rfl) (by kernel_rfl) (by kernel_rfl) (fun _ _ _ h => h) (Or.inl ⟨by rfl, ?_⟩) hHeld ?_
              rotate_left
              · (intro _ hSw; go_simp; try with_reducible rfl)
              simp only [List.setIfInBounds_toArray, List.set_cons_zero, List.set_cons_succ]
              refine wpAnyH_takeAt (i := 26) (d := 150) (v := ?_) rfl rfl (by kernel_rfl) (by kernel_rfl) (by kernel_rfl) (fun _ _ _ h => h) (Or.inl ⟨by rfl, ?_⟩) hHeld ?_
              rotate_left
              · (intro _ hSw; go_simp; try with_reducible rfl)
              simp only [List.setIfInBounds_toArray, List.set_cons_zero, List.set_cons_succ]
              refine wpAnyH_takeAt (i := 27) (d := 151) (v := ?_) rfl rfl (by kernel_rfl) (by kernel_rfl) (by kernel_rfl) (fun _ _ _ h => h) (Or.inl ⟨by rfl, ?_⟩) hHeld ?_
              rotate_left
              · (intro _ hSw; go_simp; try with_reducible rfl)
              simp only [List.setIfInBounds_toArray, List.set_cons_zero, List.set_cons_succ]
              refine wpAnyH_takeAt (i := 28) (d := 152) (v := ?_) rfl rfl (by kernel_rfl) (by kernel_rfl) (by kernel_rfl) (fun _ _ _ h => h) (Or.inl ⟨by rfl, ?_⟩) hHeld ?_
              rotate_left
              · (intro _ hSw; go_simp; try with_reducible rfl)
              simp only [List.setIfInBounds_toArray, List.set_cons_zero, List.set_cons_succ]
              refine wpAnyH_takeAt (i := 29) (d := 153) (v := ?_) rfl rfl (by kernel_rfl) (by kernel_rfl) (by kernel_rfl) (fun _ _ _ h => h) (Or.inl ⟨by rfl, ?_⟩) hHeld ?_
              rotate_left
              · (intro _ hSw; go_simp; try with_reducible rfl)
              simp only [List.setIfInBounds_toArray, List.set_cons_zero, List.set_cons_succ]
              refine wpAnyH_takeAt (i := 31) (d := 155) (v := ?_) rfl rfl (by kernel_rfl) (by kernel_rfl) (by kernel_rfl) (fun _ _ _ h => h) (Or.inl ⟨by rfl, ?_⟩) hHeld ?_
              rotate_left
              · (intro _ hSw; go_simp; try with_reducible rfl)
              simp only [List.setIfInBounds_toArray, List.set_cons_zero, List.set_cons_succ]
              refine wpAnyH_ready (rs := [30]) (by kernel_rfl) (by simp) ?_
              refine AllReadyH.cons rfl (fun K hK => ?_) AllReadyH.nil
              go_simp
              refine (CC.out _ hHeld).mono ?_
              rintro e V' ⟨rfl, he⟩
              subst he
              refine hK.out _ _ hHeld (fun _ => ?_)
              clear hK K
              refine wpAnyH_takeAt (i := 32) (d := 156) (v := ?_) rfl rfl (by kernel_rfl) (by kernel_rfl) (by kernel_rfl) (fun _ _ _ h => h) (Or.inl ⟨by rfl, ?_⟩) hHeld ?_
              rotate_left
              · (intro _ hSw; go_simp; try with_reducible rfl)
              simp only [List.setIfInBounds_toArray, List.set_cons_zero, List.set_cons_succ]
              refine wpAnyH_takeAt (i := 33) (d := 157) (v := ?_) rfl rfl (by kernel_rfl) (by kernel_rfl) (by kernel_rfl) (fun _ _ _ h => h) (Or.inl ⟨by rfl, ?_⟩) hHeld ?_
              rotate_left
              · (intro _ hSw; go_simp; try with_reducible rfl)
              simp only [List.setIfInBounds_toArray, List.set_cons_zero, List.set_cons_succ]
              refine wpAnyH_takeAt (i := 34) (d := 158) (v := ?_) rfl rfl (by kernel_rfl) (by kernel_rfl) (by kernel_rfl) (fun _ _ _ h => h) (Or.inl ⟨by rfl, ?_⟩) hHeld ?_
              rotate_left
              · (intro _ hSw; go_simp; try with_reducible rfl)
              simp only [List.setIfInBounds_toArray, List.set_cons_zero, List.set_cons_succ]
              refine wpAnyH_takeAt (i := 35) (d := 159) (v := ?_) rfl rfl (by kernel_rfl) (by kernel_rfl) (by kernel_rfl) (fun _ _ _ h => h) (Or.inl ⟨by rfl, ?_⟩) hHeld ?_
              rotate_left
              · (intro _ hSw; go_simp; try with_reducible rfl)
              simp only [List.setIfInBounds_toArray, List.set_cons_zero, List.set_cons_succ]
              refine wpAnyH_takeAt (i := 37) (d := 161) (v := .agg gc) rfl rfl (by kernel_rfl) (by kernel_rfl) (by kernel_rfl) (fun _ _ _ h => h) (yields_Rg (S := fun V => RowKit.Below U.heap.size U V) (x := .tmp 14) (g := mp) rfl rfl rfl HGZ.out HYR.out) hHeld ?_
              simp only [List.setIfInBounds_toArray, List.set_cons_zero, List.set_cons_succ]
              refine wpAnyH_ready (rs := [36]) (by kernel_rfl) (by simp) ?_
              refine AllReadyH.cons rfl (fun K hK => ?_) AllReadyH.nil
              go_simp
              refine (CI1.out _ hHeld).mono ?_
              rintro e V3 ⟨A3, n3, c3, rfl, hn3, -, -, hO3, hb⟩
              have hH : RowKit.Below U.heap.size U V3 := hHeld.trans (hb.mono hHeld.size)
              have HS3 : Hid (∀ V4 b4 A4 n4 c4, RowKit.Below V3.heap.size V3 V4 → ids.length = n4 → V4.ownsRow b4 25 2 (.slice A4 n4 c4) n4 (flat encId ids) → Calls Tryd.prog 19 #[.slice A3 n3 c3, .slice A4 n4 c4] V4 fun e w' => e = .returned (.bool true) ∧ RowKit.Below V4.heap.size V4 w') := fun V4 b4 A4 n4 c4 h1 h2 h3 => ids_same HIL.out hn3.out hO3 h1 h2 h3
              clear hO3 hn3
              refine hK.out _ _ hH (fun _ => ?_)
              clear hK K hb hHeld
              have hHeld := hH
              clear hH
              refine wpAnyH_ready (rs := [38]) (by kernel_rfl) (by simp) ?_
              refine AllReadyH.cons rfl (fun K hK => ?_) AllReadyH.nil
              go_simp
              refine (CI2.out _ hHeld).mono ?_
              rintro e V4 ⟨A4, n4, c4, rfl, hn4, -, -, hO4, hb⟩
              have hH : RowKit.Below U.heap.size U V4 := hHeld.trans (hb.mono hHeld.size)
              have HS4 := Lib.hid (HS3.out V4 _ A4 n4 c4 hb hn4.out hO4)
              clear hO4 hn4
              refine hK.out _ _ hH (fun _ => ?_)
              clear hK K hb hHeld
              have hHeld := hH
              clear hH
              refine wpAnyH_ready (rs := [39]) (by kernel_rfl) (by simp) ?_
              refine AllReadyH.cons rfl (fun K hK => ?_) AllReadyH.nil
              go_simp
              refine HS4.out.mono ?_
              rintro e V' ⟨rfl, hb⟩
              have hH : RowKit.Below U.heap.size U V' := hHeld.trans (hb.mono hHeld.size)
              refine hK.out _ _ hH (fun _ => ?_)
              clear hK K hb hHeld
              have hHeld := hH
              clear hH
              refine wpAnyH_takeAt (i := 40) (d := 164) (v := ?_) rfl rfl (by kernel_rfl) (by kernel_rfl) (by kernel_rfl) (fun _ _ _ h => h) (Or.inl ⟨by rfl, ?_⟩) hHeld ?_
              rotate_left
              · (intro _ hSw; go_simp; try with_reducible rfl)
              simp only [List.setIfInBounds_toArray, List.set_cons_zero, List.set_cons_succ]
              refine wpAnyH_takeAt (i := 41) (d := 165) (v := ?_) rfl rfl (by kernel_rfl) (by kernel_rfl) (by kernel_rfl) (fun _ _ _ h => h) (Or.inl ⟨by rfl, ?_⟩) hHeld ?_
              rotate_left
              · (intro _ hSw; go_simp; try with_reducible rfl)
              simp only [List.setIfInBounds_toArray, List.set_cons_zero, List.set_cons_succ]
              refine wpAnyH_done (by kernel_rfl) ?_ _
              have HN9 : Hid (PlL w mp x (i + 1) _) := HNX.out _ hHeld
              clear hHeld CU1 CU2 CX1 CX2 CY1 CY2 CC CI1 CI2 HS3 HS4 HNX HYR y0 y1 z4 z5
              go_wp2
              go_roundw
              case rel => exact ⟨i + 1, by omega, by go_num, HN9.out⟩
              case measure => simp [intOf]; omega
            · have hck := hk00 hkk
              rw [hck] at ccn
              have CC := Lib.hid ccn
              clear hk00 ccn xk hck
              by_cases hk0 : k < 1
              · have e1 : decide ((1 : Int) ≤ (k : Int)) = false := decide_eq_false (by omega)
                clear hkk hk0
                go_upto_region 27 with fail
                clear e1
                have hHD : RowKit.Below U.heap.size U U.drew := (RowKit.Below.refl _ _).drew
                refine wp_region_held_drew (S := fun V => RowKit.Below U.heap.size U V) (by kernel_rfl) hHD (fun hHeld => ?_)
                clear hHD
                have hHeld : RowKit.Below U.heap.size U U.drew := (RowKit.Below.refl _ _).drew
                generalize U.drew = X0 at hHeld ⊢
                refine wpAnyH_takeAt (i := 0) (d := 124) (v := ?_) rfl rfl (by kernel_rfl) (by kernel_rfl) (by kernel_rfl) (fun _ _ _ h => h) (Or.inl ⟨by rfl, ?_⟩) hHeld ?_
                rotate_left
                · (intro _ hSw; go_simp; try with_reducible rfl)
                simp only [List.setIfInBounds_toArray, List.set_cons_zero, List.set_cons_succ]
                refine wpAnyH_takeAt (i := 2) (d := 126) (v := .agg gc) rfl rfl (by kernel_rfl) (by kernel_rfl) (by kernel_rfl) (fun _ _ _ h => h) (yields_Rg (S := fun V => RowKit.Below U.heap.size U V) (x := .tmp 14) (g := mp) rfl rfl rfl HGZ.out HYR.out) hHeld ?_
                simp only [List.setIfInBounds_toArray, List.set_cons_zero, List.set_cons_succ]
                refine wpAnyH_ready (rs := [1]) (by kernel_rfl) (by simp) ?_
                refine AllReadyH.cons rfl (fun K hK => ?_) AllReadyH.nil
                go_simp
                refine (CU1.out _ hHeld).mono ?_
                rintro e V' ⟨rfl, he⟩
                subst he
                refine hK.out _ _ hHeld (fun _ => ?_)
                clear hK K
                refine wpAnyH_ready (rs := [3]) (by kernel_rfl) (by simp) ?_
                refine AllReadyH.cons rfl (fun K hK => ?_) AllReadyH.nil
                go_simp
                refine (CU2.out _ hHeld).mono ?_
                rintro e V' ⟨rfl, hb⟩
                have hH : RowKit.Below U.heap.size U V' := hHeld.trans (hb.mono hHeld.size)
                refine hK.out _ _ hH (fun _ => ?_)
                clear hK K hb hHeld
                have hHeld := hH
                clear hH
                refine wpAnyH_takeAt (i := 4) (d := 128) (v := ?_) rfl rfl (by kernel_rfl) (by kernel_rfl) (by kernel_rfl) (fun _ _ _ h => h) (Or.inl ⟨by rfl, ?_⟩) hHeld ?_
                rotate_left
                · (intro _ hSw; go_simp; try with_reducible rfl)
                simp only [List.setIfInBounds_toArray, List.set_cons_zero, List.set_cons_succ]
                refine wpAnyH_takeAt (i := 5) (d := 129) (v := ?_) rfl rfl (by kernel_rfl) (by kernel_rfl) (by kernel_rfl) (fun _ _ _ h => h) (Or.inl ⟨by rfl, ?_⟩) hHeld ?_
                rotate_left
                · (intro _ hSw; go_simp; try with_reducible rfl)
                simp only [List.setIfInBounds_toArray, List.set_cons_zero, List.set_cons_succ]
                refine wpAnyH_takeAt (i := 6) (d := 130) (v := ?_) rfl rfl (by kernel_rfl) (by kernel_rfl) (by kernel_rfl) (fun _ _ _ h => h) (Or.inl ⟨by rfl, ?_⟩) hHeld ?_
                rotate_left
                · (intro _ hSw; go_simp; try with_reducible rfl)
                simp only [List.setIfInBounds_toArray, List.set_cons_zero, List.set_cons_succ]
                refine wpAnyH_takeAt (i := 7) (d := 131) (v := ?_) rfl rfl (by kernel_rfl) (by kernel_rfl) (by kernel_rfl) (fun _ _ _ h => h) (Or.inl ⟨by rfl, ?_⟩) hHeld ?_
                rotate_left
                · (intro _ hSw; go_simp; try with_reducible rfl)
                simp only [List.setIfInBounds_toArray, List.set_cons_zero, List.set_cons_succ]
                refine wpAnyH_takeAt (i := 9) (d := 133) (v := .agg gc) rfl rfl (by kernel_rfl) (by kernel_rfl) (by kernel_rfl) (fun _ _ _ h => h) (yields_Rg (S := fun V => RowKit.Below U.heap.size U V) (x := .tmp 14) (g := mp) rfl rfl rfl HGZ.out HYR.out) hHeld ?_
                simp only [List.setIfInBounds_toArray, List.set_cons_zero, List.set_cons_succ]
                refine wpAnyH_takeAt (i := 10) (d := 134) (v := ?_) rfl rfl (by kernel_rfl) (by kernel_rfl) (by kernel_rfl) (fun _ _ _ h => h) (Or.inl ⟨by rfl, ?_⟩) hHeld ?_
                rotate_left
                · (intro _ hSw; go_simp; try with_reducible rfl)
                simp only [List.setIfInBounds_toArray, List.set_cons_zero, List.set_cons_succ]
                refine wpAnyH_ready (rs := [8]) (by kernel_rfl) (by simp) ?_
                refine AllReadyH.cons rfl (fun K hK => ?_) AllReadyH.nil
                go_simp
                refine (CX1.out _ hHeld).mono ?_
                rintro e V' ⟨rfl, hb⟩
                have hH : RowKit.Below U.heap.size U V' := hHeld.trans (hb.mono hHeld.size)
                refine hK.out _ _ hH (fun _ => ?_)
                clear hK K hb hHeld
                have hHeld := hH
                clear hH
                refine wpAnyH_ready (rs := [11]) (by kernel_rfl) (by simp) ?_
                refine AllReadyH.cons rfl (fun K hK => ?_) AllReadyH.nil
                go_simp
                refine (CX2.out _ hHeld).mono ?_
                rintro e V' ⟨rfl, hb⟩
                have hH : RowKit.Below U.heap.size U V' := hHeld.trans (hb.mono hHeld.size)
                refine hK.out _ _ hH (fun _ => ?_)
                clear hK K hb hHeld
                have hHeld := hH
                clear hH
                refine wpAnyH_takeAt (i := 12) (d := 136) (v := ?_) rfl rfl (by kernel_rfl) (by kernel_rfl) (by kernel_rfl) (fun _ _ _ h => h) (Or.inl ⟨by rfl, ?_⟩) hHeld ?_
                rotate_left
                · (intro _ hSw; go_simp; try with_reducible rfl)
                simp only [List.setIfInBounds_toArray, List.set_cons_zero, List.set_cons_succ]
                refine wpAnyH_takeAt (i := 13) (d := 137) (v := ?_) rfl rfl (by kernel_rfl) (by kernel_rfl) (by kernel_rfl) (fun _ _ _ h => h) (Or.inl ⟨by rfl, ?_⟩) hHeld ?_
                rotate_left
                · (intro _ hSw; go_simp; try with_reducible rfl)
                simp only [List.setIfInBounds_toArray, List.set_cons_zero, List.set_cons_succ]
                refine wpAnyH_takeAt (i := 14) (d := 138) (v := ?_) rfl rfl (by kernel_rfl) (by kernel_rfl) (by kernel_rfl) (fun _ _ _ h => h) (Or.inl ⟨by rfl, ?_⟩) hHeld ?_
                rotate_left
                · (intro _ hSw; go_simp; try with_reducible rfl)
                simp only [List.setIfInBounds_toArray, List.set_cons_zero, List.set_cons_succ]
                refine wpAnyH_takeAt (i := 15) (d := 139) (v := ?_) rfl rfl (by kernel_rfl) (by kernel_rfl) (by kernel_rfl) (fun _ _ _ h => h) (Or.inl ⟨by rfl, ?_⟩) hHeld ?_
                rotate_left
                · (intro _ hSw; go_simp; try with_reducible rfl)
                simp only [List.setIfInBounds_toArray, List.set_cons_zero, List.set_cons_succ]
                refine wpAnyH_takeAt (i := 16) (d := 140) (v := ?_) rfl rfl (by kernel_rfl) (by kernel_rfl) (by kernel_rfl) (fun _ _ _ h => h) (Or.inl ⟨by rfl, ?_⟩) hHeld ?_
                rotate_left
                · (intro _ hSw; go_simp; try with_reducible rfl)
                simp only [List.setIfInBounds_toArray, List.set_cons_zero, List.set_cons_succ]
                refine wpAnyH_takeAt (i := 17) (d := 141) (v := ?_) rfl rfl (by kernel_rfl) (by kernel_rfl) (by kernel_rfl) (fun _ _ _ h => h) (Or.inl ⟨by rfl, ?_⟩) hHeld ?_
                rotate_left
                · (intro _ hSw; go_simp; try with_reducible rfl)
                simp only [List.setIfInBounds_toArray, List.set_cons_zero, List.set_cons_succ]
                refine wpAnyH_takeAt (i := 18) (d := 142) (v := ?_) rfl rfl (by kernel_rfl) (by kernel_rfl) (by kernel_rfl) (fun _ _ _ h => h) (Or.inl ⟨by rfl, ?_⟩) hHeld ?_
                rotate_left
                · (intro _ hSw; go_simp; try with_reducible rfl)
                simp only [List.setIfInBounds_toArray, List.set_cons_zero, List.set_cons_succ]
                refine wpAnyH_takeAt (i := 20) (d := 144) (v := .agg gc) rfl rfl (by kernel_rfl) (by kernel_rfl) (by kernel_rfl) (fun _ _ _ h => h) (yields_Rg (S := fun V => RowKit.Below U.heap.size U V) (x := .tmp 14) (g := mp) rfl rfl rfl HGZ.out HYR.out) hHeld ?_
                simp only [List.setIfInBounds_toArray, List.set_cons_zero, List.set_cons_succ]
                refine wpAnyH_takeAt (i := 21) (d := 145) (v := ?_) rfl rfl (by kernel_rfl) (by kernel_rfl) (by kernel_rfl) (fun _ _ _ h => h) (Or.inl ⟨by rfl, ?_⟩) hHeld ?_
                rotate_left
                · (intro _ hSw; go_simp; try with_reducible rfl)
                simp only [List.setIfInBounds_toArray, List.set_cons_zero, List.set_cons_succ]
                refine wpAnyH_takeAt (i := 22) (d := 146) (v := ?_) rfl rfl (by kernel_rfl) (by kernel_rfl) (by kernel_rfl) (fun _ _ _ h => h) (Or.inl ⟨by rfl, ?_⟩) hHeld ?_
                rotate_left
                · (intro _ hSw; go_simp; try with_reducible rfl)
                simp only [List.setIfInBounds_toArray, List.set_cons_zero, List.set_cons_succ]
                refine wpAnyH_takeAt (i := 23) (d := 147) (v := ?_) rfl rfl (by kernel_rfl) (by kernel_rfl) (by kernel_rfl) (fun _ _ _ h => h) (Or.inl ⟨by rfl, ?_⟩) hHeld ?_
                rotate_left
                · (intro _ hSw; go_simp; try with_reducible rfl)
                simp only [List.setIfInBounds_toArray, List.set_cons_zero, List.set_cons_succ]
                refine wpAnyH_ready (rs := [19]) (by kernel_rfl) (by simp) ?_
                refine AllReadyH.cons rfl (fun K hK => ?_) AllReadyH.nil
                go_simp
                refine (CY1.out _ hHeld).mono ?_
                rintro e V' ⟨rfl, hb⟩
                have hH : RowKit.Below U.heap.size U V' := hHeld.trans (hb.mono hHeld.size)
                refine hK.out _ _ hH (fun _ => ?_)
                clear hK K hb hHeld
                have hHeld := hH
                clear hH
                refine wpAnyH_ready (rs := [24]) (by kernel_rfl) (by simp) ?_
                refine AllReadyH.cons rfl (fun K hK => ?_) AllReadyH.nil
                go_simp
                refine (CY2.out _ hHeld).mono ?_
                rintro e V' ⟨rfl, hb⟩
                have hH : RowKit.Below U.heap.size U V' := hHeld.trans (hb.mono hHeld.size)
                refine hK.out _ _ hH (fun _ => ?_)
                clear hK K hb hHeld
                have hHeld := hH
                clear hH
                refine wpAnyH_takeAt (i := 25) (d := 149) (v := ?_) rfl rfl (by kernel_rfl) (by kernel_rfl) (by kernel_rfl) (fun _ _ _ h => h) (Or.inl ⟨by rfl, ?_⟩) hHeld ?_
                rotate_left
                · (intro _ hSw; go_simp; try with_reducible rfl)
                simp only [List.setIfInBounds_toArray, List.set_cons_zero, List.set_cons_succ]
                refine wpAnyH_takeAt (i := 26) (d := 150) (v := ?_) rfl rfl (by kernel_rfl) (by kernel_rfl) (by kernel_rfl) (fun _ _ _ h => h) (Or.inl ⟨by rfl, ?_⟩) hHeld ?_
                rotate_left
                · (intro _ hSw; go_simp; try with_reducible rfl)
                simp only [List.setIfInBounds_toArray, List.set_cons_zero, List.set_cons_succ]
                refine wpAnyH_takeAt (i := 27) (d := 151) (v := ?_) rfl rfl (by kernel_rfl) (by kernel_rfl) (by kernel_rfl) (fun _ _ _ h => h) (Or.inl ⟨by rfl, ?_⟩) hHeld ?_
                rotate_left
                · (intro _ hSw; go_simp; try with_reducible rfl)
                simp only [List.setIfInBounds_toArray, List.set_cons_zero, List.set_cons_succ]
                refine wpAnyH_takeAt (i := 28) (d := 152) (v := ?_) rfl rfl (by kernel_rfl) (by kernel_rfl) (by kernel_rfl) (fun _ _ _ h => h) (Or.inl ⟨by rfl, ?_⟩) hHeld ?_
                rotate_left
                · (intro _ hSw; go_simp; try with_reducible rfl)
                simp only [List.setIfInBounds_toArray, List.set_cons_zero, List.set_cons_succ]
                refine wpAnyH_takeAt (i := 29) (d := 153) (v := ?_) rfl rfl (by kernel_rfl) (by kernel_rfl) (by kernel_rfl) (fun _ _ _ h => h) (Or.inl ⟨by rfl, ?_⟩) hHeld ?_
                rotate_left
                · (intro _ hSw; go_simp; try with_reducible rfl)
                simp only [List.setIfInBounds_toArray, List.set_cons_zero, List.set_cons_succ]
                refine wpAnyH_takeAt (i := 31) (d := 155) (v := ?_) rfl rfl (by kernel_rfl) (by kernel_rfl) (by kernel_rfl) (fun _ _ _ h => h) (Or.inl ⟨by rfl, ?_⟩) hHeld ?_
                rotate_left
                · (intro _ hSw; go_simp; try with_reducible rfl)
                simp only [List.setIfInBounds_toArray, List.set_cons_zero, List.set_cons_succ]
                refine wpAnyH_ready (rs := [30]) (by kernel_rfl) (by simp) ?_
                refine AllReadyH.cons rfl (fun K hK => ?_) AllReadyH.nil
                go_simp
                refine (CC.out _ hHeld).mono ?_
                rintro e V' ⟨rfl, he⟩
                subst he
                refine hK.out _ _ hHeld (fun _ => ?_)
                clear hK K
                refine wpAnyH_takeAt (i := 32) (d := 156) (v := ?_) rfl rfl (by kernel_rfl) (by kernel_rfl) (by kernel_rfl) (fun _ _ _ h => h) (Or.inl ⟨by rfl, ?_⟩) hHeld ?_
                rotate_left
                · (intro _ hSw; go_simp; try with_reducible rfl)
                simp only [List.setIfInBounds_toArray, List.set_cons_zero, List.set_cons_succ]
                refine wpAnyH_takeAt (i := 33) (d := 157) (v := ?_) rfl rfl (by kernel_rfl) (by kernel_rfl) (by kernel_rfl) (fun _ _ _ h => h) (Or.inl ⟨by rfl, ?_⟩) hHeld ?_
                rotate_left
                · (intro _ hSw; go_simp; try with_reducible rfl)
                simp only [List.setIfInBounds_toArray, List.set_cons_zero, List.set_cons_succ]
                refine wpAnyH_takeAt (i := 34) (d := 158) (v := ?_) rfl rfl (by kernel_rfl) (by kernel_rfl) (by kernel_rfl) (fun _ _ _ h => h) (Or.inl ⟨by rfl, ?_⟩) hHeld ?_
                rotate_left
                · (intro _ hSw; go_simp; try with_reducible rfl)
                simp only [List.setIfInBounds_toArray, List.set_cons_zero, List.set_cons_succ]
                refine wpAnyH_takeAt (i := 35) (d := 159) (v := ?_) rfl rfl (by kernel_rfl) (by kernel_rfl) (by kernel_rfl) (fun _ _ _ h => h) (Or.inl ⟨by rfl, ?_⟩) hHeld ?_
                rotate_left
                · (intro _ hSw; go_simp; try with_reducible rfl)
                simp only [List.setIfInBounds_toArray, List.set_cons_zero, List.set_cons_succ]
                refine wpAnyH_takeAt (i := 37) (d := 161) (v := .agg gc) rfl rfl (by kernel_rfl) (by kernel_rfl) (by kernel_rfl) (fun _ _ _ h => h) (yields_Rg (S := fun V => RowKit.Below U.heap.size U V) (x := .tmp 14) (g := mp) rfl rfl rfl HGZ.out HYR.out) hHeld ?_
                simp only [List.setIfInBounds_toArray, List.set_cons_zero, List.set_cons_succ]
                refine wpAnyH_ready (rs := [36]) (by kernel_rfl) (by simp) ?_
                refine AllReadyH.cons rfl (fun K hK => ?_) AllReadyH.nil
                go_simp
                refine (CI1.out _ hHeld).mono ?_
                rintro e V3 ⟨A3, n3, c3, rfl, hn3, -, -, hO3, hb⟩
                have hH : RowKit.Below U.heap.size U V3 := hHeld.trans (hb.mono hHeld.size)
                have HS3 : Hid (∀ V4 b4 A4 n4 c4, RowKit.Below V3.heap.size V3 V4 → ids.length = n4 → V4.ownsRow b4 25 2 (.slice A4 n4 c4) n4 (flat encId ids) → Calls Tryd.prog 19 #[.slice A3 n3 c3, .slice A4 n4 c4] V4 fun e w' => e = .returned (.bool true) ∧ RowKit.Below V4.heap.size V4 w') := fun V4 b4 A4 n4 c4 h1 h2 h3 => ids_same HIL.out hn3.out hO3 h1 h2 h3
                clear hO3 hn3
                refine hK.out _ _ hH (fun _ => ?_)
                clear hK K hb hHeld
                have hHeld := hH
                clear hH
                refine wpAnyH_ready (rs := [38]) (by kernel_rfl) (by simp) ?_
                refine AllReadyH.cons rfl (fun K hK => ?_) AllReadyH.nil
                go_simp
                refine (CI2.out _ hHeld).mono ?_
                rintro e V4 ⟨A4, n4, c4, rfl, hn4, -, -, hO4, hb⟩
                have hH : RowKit.Below U.heap.size U V4 := hHeld.trans (hb.mono hHeld.size)
                have HS4 := Lib.hid (HS3.out V4 _ A4 n4 c4 hb hn4.out hO4)
                clear hO4 hn4
                refine hK.out _ _ hH (fun _ => ?_)
                clear hK K hb hHeld
                have hHeld := hH
                clear hH
                refine wpAnyH_ready (rs := [39]) (by kernel_rfl) (by simp) ?_
                refine AllReadyH.cons rfl (fun K hK => ?_) AllReadyH.nil
                go_simp
                refine HS4.out.mono ?_
                rintro e V' ⟨rfl, hb⟩
                have hH : RowKit.Below U.heap.size U V' := hHeld.trans (hb.mono hHeld.size)
                refine hK.out _ _ hH (fun _ => ?_)
                clear hK K hb hHeld
                have hHeld := hH
                clear hH
                refine wpAnyH_takeAt (i := 40) (d := 164) (v := ?_) rfl rfl (by kernel_rfl) (by kernel_rfl) (by kernel_rfl) (fun _ _ _ h => h) (Or.inl ⟨by rfl, ?_⟩) hHeld ?_
                rotate_left
                · (intro _ hSw; go_simp; try with_reducible rfl)
                simp only [List.setIfInBounds_toArray, List.set_cons_zero, List.set_cons_succ]
                refine wpAnyH_takeAt (i := 41) (d := 165) (v := ?_) rfl rfl (by kernel_rfl) (by kernel_rfl) (by kernel_rfl) (fun _ _ _ h => h) (Or.inl ⟨by rfl, ?_⟩) hHeld ?_
                rotate_left
                · (intro _ hSw; go_simp; try with_reducible rfl)
                simp only [List.setIfInBounds_toArray, List.set_cons_zero, List.set_cons_succ]
                refine wpAnyH_done (by kernel_rfl) ?_ _
                have HN9 : Hid (PlL w mp x (i + 1) _) := HNX.out _ hHeld
                clear hHeld CU1 CU2 CX1 CX2 CY1 CY2 CC CI1 CI2 HS3 HS4 HNX HYR y0 y1 z4 z5
                go_wp2
                go_roundw
                case rel => exact ⟨i + 1, by omega, by go_num, HN9.out⟩
                case measure => simp [intOf]; omega
              · have e1 : decide ((1 : Int) ≤ (k : Int)) = true := decide_eq_true (by omega)
                have e2 : decide ((k : Int) ≤ 5) = false := decide_eq_false (by omega)
                clear hkk hk0
                go_upto_region 27 with fail
                clear e1 e2
                have hHD : RowKit.Below U.heap.size U U.drew := (RowKit.Below.refl _ _).drew
                refine wp_region_held_drew (S := fun V => RowKit.Below U.heap.size U V) (by kernel_rfl) hHD (fun hHeld => ?_)
                clear hHD
                have hHeld : RowKit.Below U.heap.size U U.drew := (RowKit.Below.refl _ _).drew
                generalize U.drew = X0 at hHeld ⊢
                refine wpAnyH_takeAt (i := 0) (d := 124) (v := ?_) rfl rfl (by kernel_rfl) (by kernel_rfl) (by kernel_rfl) (fun _ _ _ h => h) (Or.inl ⟨by rfl, ?_⟩) hHeld ?_
                rotate_left
                · (intro _ hSw; go_simp; try with_reducible rfl)
                simp only [List.setIfInBounds_toArray, List.set_cons_zero, List.set_cons_succ]
                refine wpAnyH_takeAt (i := 2) (d := 126) (v := .agg gc) rfl rfl (by kernel_rfl) (by kernel_rfl) (by kernel_rfl) (fun _ _ _ h => h) (yields_Rg (S := fun V => RowKit.Below U.heap.size U V) (x := .tmp 14) (g := mp) rfl rfl rfl HGZ.out HYR.out) hHeld ?_
                simp only [List.setIfInBounds_toArray, List.set_cons_zero, List.set_cons_succ]
                refine wpAnyH_ready (rs := [1]) (by kernel_rfl) (by simp) ?_
                refine AllReadyH.cons rfl (fun K hK => ?_) AllReadyH.nil
                go_simp
                refine (CU1.out _ hHeld).mono ?_
                rintro e V' ⟨rfl, he⟩
                subst he
                refine hK.out _ _ hHeld (fun _ => ?_)
                clear hK K
                refine wpAnyH_ready (rs := [3]) (by kernel_rfl) (by simp) ?_
                refine AllReadyH.cons rfl (fun K hK => ?_) AllReadyH.nil
                go_simp
                refine (CU2.out _ hHeld).mono ?_
                rintro e V' ⟨rfl, hb⟩
                have hH : RowKit.Below U.heap.size U V' := hHeld.trans (hb.mono hHeld.size)
                refine hK.out _ _ hH (fun _ => ?_)
                clear hK K hb hHeld
                have hHeld := hH
                clear hH
                refine wpAnyH_takeAt (i := 4) (d := 128) (v := ?_) rfl rfl (by kernel_rfl) (by kernel_rfl) (by kernel_rfl) (fun _ _ _ h => h) (Or.inl ⟨by rfl, ?_⟩) hHeld ?_
                rotate_left
                · (intro _ hSw; go_simp; try with_reducible rfl)
                simp only [List.setIfInBounds_toArray, List.set_cons_zero, List.set_cons_succ]
                refine wpAnyH_takeAt (i := 5) (d := 129) (v := ?_) rfl rfl (by kernel_rfl) (by kernel_rfl) (by kernel_rfl) (fun _ _ _ h => h) (Or.inl ⟨by rfl, ?_⟩) hHeld ?_
                rotate_left
                · (intro _ hSw; go_simp; try with_reducible rfl)
                simp only [List.setIfInBounds_toArray, List.set_cons_zero, List.set_cons_succ]
                refine wpAnyH_takeAt (i := 6) (d := 130) (v := ?_) rfl rfl (by kernel_rfl) (by kernel_rfl) (by kernel_rfl) (fun _ _ _ h => h) (Or.inl ⟨by rfl, ?_⟩) hHeld ?_
                rotate_left
                · (intro _ hSw; go_simp; try with_reducible rfl)
                simp only [List.setIfInBounds_toArray, List.set_cons_zero, List.set_cons_succ]
                refine wpAnyH_takeAt (i := 7) (d := 131) (v := ?_) rfl rfl (by kernel_rfl) (by kernel_rfl) (by kernel_rfl) (fun _ _ _ h => h) (Or.inl ⟨by rfl, ?_⟩) hHeld ?_
                rotate_left
                · (intro _ hSw; go_simp; try with_reducible rfl)
                simp only [List.setIfInBounds_toArray, List.set_cons_zero, List.set_cons_succ]
                refine wpAnyH_takeAt (i := 9) (d := 133) (v := .agg gc) rfl rfl (by kernel_rfl) (by kernel_rfl) (by kernel_rfl) (fun _ _ _ h => h) (yields_Rg (S := fun V => RowKit.Below U.heap.size U V) (x := .tmp 14) (g := mp) rfl rfl rfl HGZ.out HYR.out) hHeld ?_
                simp only [List.setIfInBounds_toArray, List.set_cons_zero, List.set_cons_succ]
                refine wpAnyH_takeAt (i := 10) (d := 134) (v := ?_) rfl rfl (by kernel_rfl) (by kernel_rfl) (by kernel_rfl) (fun _ _ _ h => h) (Or.inl ⟨by rfl, ?_⟩) hHeld ?_
                rotate_left
                · (intro _ hSw; go_simp; try with_reducible rfl)
                simp only [List.setIfInBounds_toArray, List.set_cons_zero, List.set_cons_succ]
                refine wpAnyH_ready (rs := [8]) (by kernel_rfl) (by simp) ?_
                refine AllReadyH.cons rfl (fun K hK => ?_) AllReadyH.nil
                go_simp
                refine (CX1.out _ hHeld).mono ?_
                rintro e V' ⟨rfl, hb⟩
                have hH : RowKit.Below U.heap.size U V' := hHeld.trans (hb.mono hHeld.size)
                refine hK.out _ _ hH (fun _ => ?_)
                clear hK K hb hHeld
                have hHeld := hH
                clear hH
                refine wpAnyH_ready (rs := [11]) (by kernel_rfl) (by simp) ?_
                refine AllReadyH.cons rfl (fun K hK => ?_) AllReadyH.nil
                go_simp
                refine (CX2.out _ hHeld).mono ?_
                rintro e V' ⟨rfl, hb⟩
                have hH : RowKit.Below U.heap.size U V' := hHeld.trans (hb.mono hHeld.size)
                refine hK.out _ _ hH (fun _ => ?_)
                clear hK K hb hHeld
                have hHeld := hH
                clear hH
                refine wpAnyH_takeAt (i := 12) (d := 136) (v := ?_) rfl rfl (by kernel_rfl) (by kernel_rfl) (by kernel_rfl) (fun _ _ _ h => h) (Or.inl ⟨by rfl, ?_⟩) hHeld ?_
                rotate_left
                · (intro _ hSw; go_simp; try with_reducible rfl)
                simp only [List.setIfInBounds_toArray, List.set_cons_zero, List.set_cons_succ]
                refine wpAnyH_takeAt (i := 13) (d := 137) (v := ?_) rfl rfl (by kernel_rfl) (by kernel_rfl) (by kernel_rfl) (fun _ _ _ h => h) (Or.inl ⟨by rfl, ?_⟩) hHeld ?_
                rotate_left
                · (intro _ hSw; go_simp; try with_reducible rfl)
                simp only [List.setIfInBounds_toArray, List.set_cons_zero, List.set_cons_succ]
                refine wpAnyH_takeAt (i := 14) (d := 138) (v := ?_) rfl rfl (by kernel_rfl) (by kernel_rfl) (by kernel_rfl) (fun _ _ _ h => h) (Or.inl ⟨by rfl, ?_⟩) hHeld ?_
                rotate_left
                · (intro _ hSw; go_simp; try with_reducible rfl)
                simp only [List.setIfInBounds_toArray, List.set_cons_zero, List.set_cons_succ]
                refine wpAnyH_takeAt (i := 15) (d := 139) (v := ?_) rfl rfl (by kernel_rfl) (by kernel_rfl) (by kernel_rfl) (fun _ _ _ h => h) (Or.inl ⟨by rfl, ?_⟩) hHeld ?_
                rotate_left
                · (intro _ hSw; go_simp; try with_reducible rfl)
                simp only [List.setIfInBounds_toArray, List.set_cons_zero, List.set_cons_succ]
                refine wpAnyH_takeAt (i := 16) (d := 140) (v := ?_) rfl rfl (by kernel_rfl) (by kernel_rfl) (by kernel_rfl) (fun _ _ _ h => h) (Or.inl ⟨by rfl, ?_⟩) hHeld ?_
                rotate_left
                · (intro _ hSw; go_simp; try with_reducible rfl)
                simp only [List.setIfInBounds_toArray, List.set_cons_zero, List.set_cons_succ]
                refine wpAnyH_takeAt (i := 17) (d := 141) (v := ?_) rfl rfl (by kernel_rfl) (by kernel_rfl) (by kernel_rfl) (fun _ _ _ h => h) (Or.inl ⟨by rfl, ?_⟩) hHeld ?_
                rotate_left
                · (intro _ hSw; go_simp; try with_reducible rfl)
                simp only [List.setIfInBounds_toArray, List.set_cons_zero, List.set_cons_succ]
                refine wpAnyH_takeAt (i := 18) (d := 142) (v := ?_) rfl rfl (by kernel_rfl) (by kernel_rfl) (by kernel_rfl) (fun _ _ _ h => h) (Or.inl ⟨by rfl, ?_⟩) hHeld ?_
                rotate_left
                · (intro _ hSw; go_simp; try with_reducible rfl)
                simp only [List.setIfInBounds_toArray, List.set_cons_zero, List.set_cons_succ]
                refine wpAnyH_takeAt (i := 20) (d := 144) (v := .agg gc) rfl rfl (by kernel_rfl) (by kernel_rfl) (by kernel_rfl) (fun _ _ _ h => h) (yields_Rg (S := fun V => RowKit.Below U.heap.size U V) (x := .tmp 14) (g := mp) rfl rfl rfl HGZ.out HYR.out) hHeld ?_
                simp only [List.setIfInBounds_toArray, List.set_cons_zero, List.set_cons_succ]
                refine wpAnyH_takeAt (i := 21) (d := 145) (v := ?_) rfl rfl (by kernel_rfl) (by kernel_rfl) (by kernel_rfl) (fun _ _ _ h => h) (Or.inl ⟨by rfl, ?_⟩) hHeld ?_
                rotate_left
                · (intro _ hSw; go_simp; try with_reducible rfl)
                simp only [List.setIfInBounds_toArray, List.set_cons_zero, List.set_cons_succ]
                refine wpAnyH_takeAt (i := 22) (d := 146) (v := ?_) rfl rfl (by kernel_rfl) (by kernel_rfl) (by kernel_rfl) (fun _ _ _ h => h) (Or.inl ⟨by rfl, ?_⟩) hHeld ?_
                rotate_left
                · (intro _ hSw; go_simp; try with_reducible rfl)
                simp only [List.setIfInBounds_toArray, List.set_cons_zero, List.set_cons_succ]
                refine wpAnyH_takeAt (i := 23) (d := 147) (v := ?_) rfl rfl (by kernel_rfl) (by kernel_rfl) (by kernel_rfl) (fun _ _ _ h => h) (Or.inl ⟨by rfl, ?_⟩) hHeld ?_
                rotate_left
                · (intro _ hSw; go_simp; try with_reducible rfl)
                simp only [List.setIfInBounds_toArray, List.set_cons_zero, List.set_cons_succ]
                refine wpAnyH_ready (rs := [19]) (by kernel_rfl) (by simp) ?_
                refine AllReadyH.cons rfl (fun K hK => ?_) AllReadyH.nil
                go_simp
                refine (CY1.out _ hHeld).mono ?_
                rintro e V' ⟨rfl, hb⟩
                have hH : RowKit.Below U.heap.size U V' := hHeld.trans (hb.mono hHeld.size)
                refine hK.out _ _ hH (fun _ => ?_)
                clear hK K hb hHeld
                have hHeld := hH
                clear hH
                refine wpAnyH_ready (rs := [24]) (by kernel_rfl) (by simp) ?_
                refine AllReadyH.cons rfl (fun K hK => ?_) AllReadyH.nil
                go_simp
                refine (CY2.out _ hHeld).mono ?_
                rintro e V' ⟨rfl, hb⟩
                have hH : RowKit.Below U.heap.size U V' := hHeld.trans (hb.mono hHeld.size)
                refine hK.out _ _ hH (fun _ => ?_)
                clear hK K hb hHeld
                have hHeld := hH
                clear hH
                refine wpAnyH_takeAt (i := 25) (d := 149) (v := ?_) rfl rfl (by kernel_rfl) (by kernel_rfl) (by kernel_rfl) (fun _ _ _ h => h) (Or.inl ⟨by rfl, ?_⟩) hHeld ?_
                rotate_left
                · (intro _ hSw; go_simp; try with_reducible rfl)
                simp only [List.setIfInBounds_toArray, List.set_cons_zero, List.set_cons_succ]
                refine wpAnyH_takeAt (i := 26) (d := 150) (v := ?_) rfl rfl (by kernel_rfl) (by kernel_rfl) (by kernel_rfl) (fun _ _ _ h => h) (Or.inl ⟨by rfl, ?_⟩) hHeld ?_
                rotate_left
                · (intro _ hSw; go_simp; try with_reducible rfl)
                simp only [List.setIfInBounds_toArray, List.set_cons_zero, List.set_cons_succ]
                refine wpAnyH_takeAt (i := 27) (d := 151) (v := ?_) rfl rfl (by kernel_rfl) (by kernel_rfl) (by kernel_rfl) (fun _ _ _ h => h) (Or.inl ⟨by rfl, ?_⟩) hHeld ?_
                rotate_left
                · (intro _ hSw; go_simp; try with_reducible rfl)
                simp only [List.setIfInBounds_toArray, List.set_cons_zero, List.set_cons_succ]
                refine wpAnyH_takeAt (i := 28) (d := 152) (v := ?_) rfl rfl (by kernel_rfl) (by kernel_rfl) (by kernel_rfl) (fun _ _ _ h => h) (Or.inl ⟨by rfl, ?_⟩) hHeld ?_
                rotate_left
                · (intro _ hSw; go_simp; try with_reducible rfl)
                simp only [List.setIfInBounds_toArray, List.set_cons_zero, List.set_cons_succ]
                refine wpAnyH_takeAt (i := 29) (d := 153) (v := ?_) rfl rfl (by kernel_rfl) (by kernel_rfl) (by kernel_rfl) (fun _ _ _ h => h) (Or.inl ⟨by rfl, ?_⟩) hHeld ?_
                rotate_left
                · (intro _ hSw; go_simp; try with_reducible rfl)
                simp only [List.setIfInBounds_toArray, List.set_cons_zero, List.set_cons_succ]
                refine wpAnyH_takeAt (i := 31) (d := 155) (v := ?_) rfl rfl (by kernel_rfl) (by kernel_rfl) (by kernel_rfl) (fun _ _ _ h => h) (Or.inl ⟨by rfl, ?_⟩) hHeld ?_
                rotate_left
                · (intro _ hSw; go_simp; try with_reducible rfl)
                simp only [List.setIfInBounds_toArray, List.set_cons_zero, List.set_cons_succ]
                refine wpAnyH_ready (rs := [30]) (by kernel_rfl) (by simp) ?_
                refine AllReadyH.cons rfl (fun K hK => ?_) AllReadyH.nil
                go_simp
                refine (CC.out _ hHeld).mono ?_
                rintro e V' ⟨rfl, he⟩
                subst he
                refine hK.out _ _ hHeld (fun _ => ?_)
                clear hK K
                refine wpAnyH_takeAt (i := 32) (d := 156) (v := ?_) rfl rfl (by kernel_rfl) (by kernel_rfl) (by kernel_rfl) (fun _ _ _ h => h) (Or.inl ⟨by rfl, ?_⟩) hHeld ?_
                rotate_left
                · (intro _ hSw; go_simp; try with_reducible rfl)
                simp only [List.setIfInBounds_toArray, List.set_cons_zero, List.set_cons_succ]
                refine wpAnyH_takeAt (i := 33) (d := 157) (v := ?_) rfl rfl (by kernel_rfl) (by kernel_rfl) (by kernel_rfl) (fun _ _ _ h => h) (Or.inl ⟨by rfl, ?_⟩) hHeld ?_
                rotate_left
                · (intro _ hSw; go_simp; try with_reducible rfl)
                simp only [List.setIfInBounds_toArray, List.set_cons_zero, List.set_cons_succ]
                refine wpAnyH_takeAt (i := 34) (d := 158) (v := ?_) rfl rfl (by kernel_rfl) (by kernel_rfl) (by kernel_rfl) (fun _ _ _ h => h) (Or.inl ⟨by rfl, ?_⟩) hHeld ?_
                rotate_left
                · (intro _ hSw; go_simp; try with_reducible rfl)
                simp only [List.setIfInBounds_toArray, List.set_cons_zero, List.set_cons_succ]
                refine wpAnyH_takeAt (i := 35) (d := 159) (v := ?_) rfl rfl (by kernel_rfl) (by kernel_rfl) (by kernel_rfl) (fun _ _ _ h => h) (Or.inl ⟨by rfl, ?_⟩) hHeld ?_
                rotate_left
                · (intro _ hSw; go_simp; try with_reducible rfl)
                simp only [List.setIfInBounds_toArray, List.set_cons_zero, List.set_cons_succ]
                refine wpAnyH_takeAt (i := 37) (d := 161) (v := .agg gc) rfl rfl (by kernel_rfl) (by kernel_rfl) (by kernel_rfl) (fun _ _ _ h => h) (yields_Rg (S := fun V => RowKit.Below U.heap.size U V) (x := .tmp 14) (g := mp) rfl rfl rfl HGZ.out HYR.out) hHeld ?_
                simp only [List.setIfInBounds_toArray, List.set_cons_zero, List.set_cons_succ]
                refine wpAnyH_ready (rs := [36]) (by kernel_rfl) (by simp) ?_
                refine AllReadyH.cons rfl (fun K hK => ?_) AllReadyH.nil
                go_simp
                refine (CI1.out _ hHeld).mono ?_
                rintro e V3 ⟨A3, n3, c3, rfl, hn3, -, -, hO3, hb⟩
                have hH : RowKit.Below U.heap.size U V3 := hHeld.trans (hb.mono hHeld.size)
                have HS3 : Hid (∀ V4 b4 A4 n4 c4, RowKit.Below V3.heap.size V3 V4 → ids.length = n4 → V4.ownsRow b4 25 2 (.slice A4 n4 c4) n4 (flat encId ids) → Calls Tryd.prog 19 #[.slice A3 n3 c3, .slice A4 n4 c4] V4 fun e w' => e = .returned (.bool true) ∧ RowKit.Below V4.heap.size V4 w') := fun V4 b4 A4 n4 c4 h1 h2 h3 => ids_same HIL.out hn3.out hO3 h1 h2 h3
                clear hO3 hn3
                refine hK.out _ _ hH (fun _ => ?_)
                clear hK K hb hHeld
                have hHeld := hH
                clear hH
                refine wpAnyH_ready (rs := [38]) (by kernel_rfl) (by simp) ?_
                refine AllReadyH.cons rfl (fun K hK => ?_) AllReadyH.nil
                go_simp
                refine (CI2.out _ hHeld).mono ?_
                rintro e V4 ⟨A4, n4, c4, rfl, hn4, -, -, hO4, hb⟩
                have hH : RowKit.Below U.heap.size U V4 := hHeld.trans (hb.mono hHeld.size)
                have HS4 := Lib.hid (HS3.out V4 _ A4 n4 c4 hb hn4.out hO4)
                clear hO4 hn4
                refine hK.out _ _ hH (fun _ => ?_)
                clear hK K hb hHeld
                have hHeld := hH
                clear hH
                refine wpAnyH_ready (rs := [39]) (by kernel_rfl) (by simp) ?_
                refine AllReadyH.cons rfl (fun K hK => ?_) AllReadyH.nil
                go_simp
                refine HS4.out.mono ?_
                rintro e V' ⟨rfl, hb⟩
                have hH : RowKit.Below U.heap.size U V' := hHeld.trans (hb.mono hHeld.size)
                refine hK.out _ _ hH (fun _ => ?_)
                clear hK K hb hHeld
                have hHeld := hH
                clear hH
                refine wpAnyH_takeAt (i := 40) (d := 164) (v := ?_) rfl rfl (by kernel_rfl) (by kernel_rfl) (by kernel_rfl) (fun _ _ _ h => h) (Or.inl ⟨by rfl, ?_⟩) hHeld ?_
                rotate_left
                · (intro _ hSw; go_simp; try with_reducible rfl)
                simp only [List.setIfInBounds_toArray, List.set_cons_zero, List.set_cons_succ]
                refine wpAnyH_takeAt (i := 41) (d := 165) (v := ?_) rfl rfl (by kernel_rfl) (by kernel_rfl) (by kernel_rfl) (fun _ _ _ h => h) (Or.inl ⟨by rfl, ?_⟩) hHeld ?_
                rotate_left
                · (intro _ hSw; go_simp; try with_reducible rfl)
                simp only [List.setIfInBounds_toArray, List.set_cons_zero, List.set_cons_succ]
                refine wpAnyH_done (by kernel_rfl) ?_ _
                have HN9 : Hid (PlL w mp x (i + 1) _) := HNX.out _ hHeld
                clear hHeld CU1 CU2 CX1 CX2 CY1 CY2 CC CI1 CI2 HS3 HS4 HNX HYR y0 y1 z4 z5
                go_wp2
                go_roundw
                case rel => exact ⟨i + 1, by omega, by go_num, HN9.out⟩
                case measure => simp [intOf]; omega
    · go_wp2_with (go_at_call 5; refine (awake_any _).mono ?_; rintro e w' ⟨rfl, hb⟩)
      go_ret
      exact ⟨rfl, HP.out.below.trans (hb.mono HP.out.below.size)⟩

theorem plays_many (c m r : Int) (A : Option Addr) (n cc : Nat) (x : Id) (k : Nat) (w : World) (hn : 100 < n) : Calls Tryd.prog 3 #[.int .i64 c, .int .i64 m, .int .i64 r, .slice A n cc, valId x, .int .u8 (k : Int)] w fun e w' => e = .returned (.bool true) ∧ RowKit.Below w.heap.size w w' := by
  have hd : decide ((100 : Int) < (n : Int)) = true := by simp; omega
  unfold valId
  go_enter Tryd.func3, Tryd.ntmps3
  go_wp2_with fail
  generalize hw0 : World.alloc w _ = w0
  have hb0 : RowKit.Below w.heap.size w w0 := by rw [← hw0]; exact (RowKit.Below.refl _ _).alloc (Nat.le_refl _) _
  clear hw0
  refine (awake_any w0).mono ?_
  rintro e w' ⟨rfl, hb⟩
  go_wp2
  go_ret
  exact ⟨rfl, hb0.trans (hb.mono hb0.size)⟩

/-! ### The frame -/
theorem gatherPlays_reads (os : Os) {H : Type} (enc : TypeId × Value → H) : ∃ places, DataW.whole enc Tryd.prog ((laidWorld os).forCall (fun _ _ => 0) ⟨#[], #[.int .i64 0, .int .i64 0, .int .i64 0, .slice none 0 0, .agg #[.int .u8 0, .int .u64 0], .int .u8 0], []⟩).memory Tryd.f3.params.toList Rows.gatherPlaysSpec.vars false #[.int .i64 0, .int .i64 0, .int .i64 0, .slice none 0 0, .agg #[.int .u8 0, .int .u64 0], .int .u8 0].toList 8 = some ([.lit (.int .i64 0), .lit (.int .i64 0), .lit (.int .i64 0), .nil, .agg [.lit (.int .u8 0), .lit (.int .u64 0)], .lit (.int .u8 0)], [], places) :=
  ⟨[], by kernel_rfl⟩
theorem gatherPlays_laid (os : Os) : laidMet Tryd.prog Rows.gatherPlaysRow.laid ((laidWorld os).forCall (fun _ _ => 0) ⟨#[], #[.int .i64 0, .int .i64 0, .int .i64 0, .slice none 0 0, .agg #[.int .u8 0, .int .u64 0], .int .u8 0], []⟩).memory :=
  laidMet_of_run' 8 (by kernel_rfl) (by kernel_rfl)

set_option maxRecDepth 100000 in
theorem gatherPlays_contract (H : Type) (enc : TypeId × Value → H) (W : World) (base : Nat) (args : Array Value) (ds gs : List (DataW H)) (before : List MemPlace)
    (hval : ∀ (j : Nat) t v, Tryd.f3.params[j]? = some t → args[j]? = some v → Value.okWide Tryd.prog W .any base t v)
    (hW : DataW.Whole enc Tryd.prog Tryd.f3.params.toList Rows.gatherPlaysSpec.vars false W args.toList ds gs before) (hL : laidMetH Tryd.prog Rows.gatherPlaysRow.laid W) :
    Calls Tryd.prog 3 args W fun e W' => ∃ v, e = .returned v ∧ Rows.gatherPlaysSpec.post enc Tryd.prog Tryd.f3 false true false false W args v W' := by
  have hT : Tab W := tab_of hL
  have hW' := hW
  obtain ⟨p, q, hA0, hV, rfl, _, _⟩ := hW
  have hA : DataW.TrodAll enc Tryd.prog W 0 (fun _ => true) true Tryd.f3.params.toList args.toList ds p := hA0
  rw [Tryd.params3] at hA hval
  obtain ⟨v0, vs0, d0, ds0, p0, q0, hargs, rfl, rfl, h0, r0⟩ := trodAll_cons hA
  obtain ⟨v1, vs1, d1, ds1, p1, q1, rfl, rfl, rfl, h1, r1⟩ := trodAll_cons r0
  obtain ⟨v2, vs2, d2, ds2, p2, q2, rfl, rfl, rfl, h2, r2⟩ := trodAll_cons r1
  obtain ⟨v3, vs3, d3, ds3, p3, q3, rfl, rfl, rfl, h3, r3⟩ := trodAll_cons r2
  obtain ⟨v4, vs4, d4, ds4, p4, q4, rfl, rfl, rfl, h4, r4⟩ := trodAll_cons r3
  obtain ⟨v5, vs5, d5, ds5, p5, q5, rfl, rfl, rfl, h5, r5⟩ := trodAll_cons r4
  obtain ⟨rfl, rfl, rfl⟩ := trodAll_nil r5
  obtain rfl : args = #[v0, v1, v2, v3, v4, v5] := by cases args; simp_all
  obtain ⟨rfl, rfl⟩ := trodVars_none hV
  have k0 := h0
  have lt0 : ∀ x ∈ p0, x.block < W.heap.size := by obtain ⟨m, hm⟩ := k0; exact DataW.trod_lt m _ _ _ hm
  have k1 := h1
  have lt1 : ∀ x ∈ p1, x.block < W.heap.size := by obtain ⟨m, hm⟩ := k1; exact DataW.trod_lt m _ _ _ hm
  have k2 := h2
  have lt2 : ∀ x ∈ p2, x.block < W.heap.size := by obtain ⟨m, hm⟩ := k2; exact DataW.trod_lt m _ _ _ hm
  have k3 := h3
  have lt3 : ∀ x ∈ p3, x.block < W.heap.size := by obtain ⟨m, hm⟩ := k3; exact DataW.trod_lt m _ _ _ hm
  have k4 := h4
  have lt4 : ∀ x ∈ p4, x.block < W.heap.size := by obtain ⟨m, hm⟩ := k4; exact DataW.trod_lt m _ _ _ hm
  have k5 := h5
  have lt5 : ∀ x ∈ p5, x.block < W.heap.size := by obtain ⟨m, hm⟩ := k5; exact DataW.trod_lt m _ _ _ hm
  obtain ⟨a0, rfl, _, _, _⟩ := open_int Tryd.underlying3 (hval 0 3 v0 rfl rfl) h0
  obtain ⟨a1, rfl, _, _, _⟩ := open_int Tryd.underlying3 (hval 1 3 v1 rfl rfl) h1
  obtain ⟨a2, rfl, _, _, wf2⟩ := open_int Tryd.underlying3 (hval 2 3 v2 rfl rfl) h2
  obtain ⟨x, hx⟩ := open_id (hval 4 25 v4 rfl rfl) h4
  obtain rfl := hx
  obtain ⟨a5, rfl, _, _, wf5⟩ := open_int Tryd.underlying5 (hval 5 5 v5 rfl rfl) h5
  have b5 := bounds_u8 wf5
  obtain ⟨kk, rfl⟩ : ∃ k : Nat, a5 = (k : Int) := ⟨a5.toNat, by omega⟩
  have hwalk : Calls Tryd.prog 3 #[.int .i64 a0, .int .i64 a1, .int .i64 a2, v3, valId x, .int .u8 (kk : Int)] W fun e w' => e = .returned (.bool true) ∧ Below W.heap.size W w' := by
    obtain ⟨x3, len3, cap3, rfl⟩ := okWide_slice Tryd.underlying22 (hval 3 22 v3 rfl rfl)
    obtain ⟨fuel3, hf3⟩ := h3
    obtain ⟨l, A, n, c, hv, hl, hc, hcm, hL, hO⟩ := open_gas (by simpa [Value.cells] using hf3)
    injection hv with e1 e2 e3
    subst e1 e2 e3
    by_cases hn : 100 < len3
    · exact plays_many _ _ _ _ _ _ _ _ W hn
    · have b2 := bounds_i64 wf2
      exact gatherPlays_walk a0 a1 a2 (by omega) x3 len3 cap3 l x kk (by omega) W hT hl hL hO (by omega)
  clear hA0 hL
  refine hwalk.mono fun e W' ⟨he, bel⟩ => ?_
  subst he
  exact ⟨_, rfl, _, _, _, [], _, [], hW', trodAll_mk1 (shut_bool Tryd.underlying4 _), (trodAll_cons_mk (Below.trod laidOut (by kernel_rfl) (of_decide_eq_true (by kernel_rfl)) k0 bel lt0) (trodAll_cons_mk (Below.trod laidOut (by kernel_rfl) (of_decide_eq_true (by kernel_rfl)) k1 bel lt1) (trodAll_cons_mk (Below.trod laidOut (by kernel_rfl) (of_decide_eq_true (by kernel_rfl)) k2 bel lt2) (trodAll_cons_mk (Below.trod laidOut (by kernel_rfl) (of_decide_eq_true (by kernel_rfl)) k3 bel lt3) (trodAll_cons_mk (Below.trod laidOut (by kernel_rfl) (of_decide_eq_true (by kernel_rfl)) k4 bel lt4) (trodAll_cons_mk (Below.trod laidOut (by kernel_rfl) (of_decide_eq_true (by kernel_rfl)) k5 bel lt5) trodAll_mk0)))))), rfl, bel.frame _, fun h => by cases h⟩

set_option maxRecDepth 100000 in
theorem gatherPlays_lifted (os : Os) (started : os.Started) (H : Type) (enc : TypeId × Value → H) (F : Stop.Interp) :
    ReturnsInHanded {} Tryd.checked os 3 .any ((OpenSpec.ofChange Rows.gatherPlaysSpec).preRow enc Tryd.prog Tryd.f3 Rows.gatherPlaysRow.domain false Rows.gatherPlaysRow.laid) (((OpenSpec.ofChange Rows.gatherPlaysSpec).at F).post enc Tryd.prog Tryd.f3 false true false false) := by
  obtain ⟨places, hx⟩ := gatherPlays_reads os enc
  refine returnsInHanded_of_row (C := Tryd.checked) (s := OpenSpec.ofChange Rows.gatherPlaysSpec) own started (by kernel_rfl) Tryd.func3
    (witness_row_at (enc := enc) (C := Tryd.checked) false (laidWorld os) #[.int .i64 0, .int .i64 0, .int .i64 0, .slice none 0 0, .agg #[.int .u8 0, .int .u64 0], .int .u8 0] rfl (by kernel_rfl) (by kernel_rfl) (by kernel_rfl)
      (OpenSpec.preRow_of_cond 8 hx (by kernel_rfl) (fun k hk => by cases hk) (by kernel_rfl) (gatherPlays_laid os))) ?_
  intro W base args ds gs before hval hW _ _ _ hL _ _
  exact gatherPlays_contract H enc W base args ds gs before hval hW hL

theorem gatherPlays_said : Rows.GatherPlaysSaid :=
  OpenClaim.holds_of_cond 3 Tryd.f3 rfl rfl rfl rfl rfl rfl rfl ⟨rfl, rfl, rfl, rfl, rfl⟩ rfl rfl rfl rfl rfl (by kernel_rfl) Tryd.func3 (by kernel_rfl)
    (of_decide_eq_true (by kernel_rfl)) (by unfold Func.isWrapper; first | (rw [if_pos (by decide +kernel)]; kernel_rfl) | (rw [if_neg (by decide +kernel)]; exact ⟨rfl, rfl⟩))
    (fun os started H enc _ F => by rw [OpenClaim.pre_eq_preRow]; exact gatherPlays_lifted os started H enc F)

theorem gatherPlays_plain (f : FuncId) (fn : Func) (hf : Tryd.pinned.checked.prog.funcNamed "unison/unisonlaw13.GatherPlays" = some f) (hfn : Tryd.pinned.checked.prog.funcs[f]? = some fn) :
    false = Tryd.pinned.checked.prog.looks [] ∧ ∀ (j : Nat) t, fn.params[j]? = some t → Tryd.pinned.checked.prog.wantsStandIn t = false := by
  obtain rfl : f = 3 := Option.some.inj ((show Tryd.prog.funcNamed "unison/unisonlaw13.GatherPlays" = some 3 by kernel_rfl).symm.trans hf) |>.symm
  obtain rfl : fn = Tryd.f3 := (Option.some.inj (Tryd.func3.symm.trans hfn)).symm
  refine ⟨by kernel_rfl, fun j t ht => ?_⟩
  rw [Tryd.params3] at ht
  have hm := Array.mem_of_getElem? ht
  have hs : t = 3 ∨ t = 3 ∨ t = 3 ∨ t = 22 ∨ t = 25 ∨ t = 5 := by simpa using hm
  clear hm ht
  rcases hs with rfl | rfl | rfl | rfl | rfl | rfl
  · exact (show Tryd.prog.wantsStandIn 3 = false by kernel_rfl)
  · exact (show Tryd.prog.wantsStandIn 3 = false by kernel_rfl)
  · exact (show Tryd.prog.wantsStandIn 3 = false by kernel_rfl)
  · exact (show Tryd.prog.wantsStandIn 22 = false by kernel_rfl)
  · exact (show Tryd.prog.wantsStandIn 25 = false by kernel_rfl)
  · exact (show Tryd.prog.wantsStandIn 5 = false by kernel_rfl)

theorem gatherPlays_proved : Rows.GatherPlaysCardSaid :=
  Claim7.holds_tied_plain_at .later [] _ _ _ _ gatherPlays_said (fun _ h => by cases h) (by kernel_rfl) (fun _ h => by cases h) gatherPlays_row_tie rfl ⟨rfl, rfl⟩ (by kernel_rfl) rfl gatherPlays_plain (by kernel_rfl)

end Go.Proofs.YthkongnjokmmfaaDoor
