/- BagKeeps: for every room and every list of acts the call returns true (whatever is done, each thing that comes out was put in, but for bits that lie within 32 in a row), and changes nothing that was there. No conditions. -/
import Derived.Test.YtjecphjdmjoeiaaBgP
import Derived.ChangeOld
namespace Go.Proofs.Ytjecphjdmjoeiaa
open Go.ChangeShapes Go.WideShapes Go.ChangeAt Go.RowKit

theorem alloc2_blocks (w : World) (o1 o2 : Obj) {W : World} (hW : (w.alloc o1).alloc o2 = W) : W.heap[w.heap.size]? = some o1 ∧ W.heap[w.heap.size + 1]? = some o2 ∧ Below w.heap.size w W := by
  subst hW
  refine ⟨(heap_alloc_old _ _ (by simp)).trans (heap_alloc_new _ _), ?_, ((Below.refl _ _).alloc (Nat.le_refl _) _).alloc (by simp) _⟩
  have := heap_alloc_new (w.alloc o1) o2
  simpa using this

theorem Try.infoStr : (Try.prog.info? 9).map (fun i => (i.zero, i.size, i.bytes)) = some (some (.string ⟨#[]⟩), 1, 16) := by kernel_rfl

set_option maxRecDepth 20000 in
set_option maxHeartbeats 6400000 in
theorem bagKeeps_walk (A : Option Addr) (m c : Nat) (r : Int) (l : List Ac) (w : World) (hl : l.length = m) (hm : m ≤ 60) (hmc : m ≤ c) (hA : Lies w w.heap.size A (flat encAc l)) (hok : ∀ x ∈ l, AcOk w w.heap.size x) (h1 : -9223372036854775808 ≤ r) (h2 : r ≤ 9223372036854775807) :
    Calls Try.prog 4 #[.int .i64 r, .slice A m c] w fun e w' => e = .returned (.bool true) ∧ Below w.heap.size w w' := by
  have mixed := mixedOrders
  have hd : decide (60 < (m : Int)) = false := by simp; omega
  have hN := new_any r w w.heap.size (Nat.le_refl _) h1 h2
  have hR : roomN r ≤ 4096 := by unfold roomN; omega
  generalize roomN r = room at hN hR
  have HL := Lib.hid hl
  have HA := Lib.hid hA
  have HOK := Lib.hid hok
  clear hl hA hok h1 h2
  go_enter Try.func4, Try.ntmps4
  go_wp2_with fail
  refine hN.mono ?_
  rintro e w1 ⟨rfl, hB, hb1⟩
  have HB := Lib.hid hB
  have HB1 := Lib.hid hb1
  clear hB hb1 hN
  go_wp2_with fail
  generalize hw2 : World.alloc w1 (.cells #[] 9) = w2
  have hb2 : Below w1.heap.size w1 w2 := by rw [← hw2]; exact (Below.refl _ _).alloc (Nat.le_refl _) _
  have HS : Hid (Kp w w.heap.size room (.slice (some ⟨w1.heap.size, 0, none⟩) 0 0) [] (.slice none 0 0) 0 [] (fun k => k = w.heap.size) 0 w2) :=
    { bag := HB.out.on hb2
      lo := Nat.le_refl _
      row := by rw [← hw2]; exact World.ownsRow_lit w1 #[] 0 (by have := HB1.out.size; omega) (Nat.zero_le _) rfl
      off := fun b hb hd' => by
        have e : w1.heap.size = b := Option.some.inj hb
        have e2 : b = w.heap.size := hd'
        have := HB.out.plt
        omega
      came := by simp
      pl := Nat.le_refl _
      pb := by simp
      below := HB1.out.trans (hb2.mono HB1.out.size) }
  clear hw2 hb2 HB HB1
  go_loopw [6, 7] (fun s6 s7 wr => ∃ (k : Nat) (v6 : Value) (P : List (List UInt8)) (T : Value) (lost : Nat) (tl : List Th) (D : Nat → Prop), k ≤ m ∧ s7 = .int .i64 k ∧ s6 = v6 ∧ Kp w w.heap.size room v6 P T lost tl D k wr) (fun _ s7 _ => m - (intOf s7).toNat)
  case atStart => exact ⟨0, _, _, _, _, _, _, Nat.zero_le _, rfl, rfl, HS.out⟩
  case round =>
    clear HS
    obtain ⟨k, v6, P, T, lost, tl, D, hk, rfl, rfl, hK⟩ := hrel
    by_cases hlt : k < m
    · have hkl : k < l.length := by rw [HL.out]; exact hlt
      obtain ⟨bb, off, rfl, hbb, c0, c1, c2, c3, c4⟩ := acts_at (HA.out.below hK.below) hkl
      have hox := HOK.out l[k] (List.getElem_mem hkl)
      generalize l[k] = x at c0 c1 c2 c3 c4 hox
      obtain ⟨xk, xA, xc, xb, xi, xp, xs⟩ := x
      have HX := Lib.hid hox
      simp only [] at c0 c1 c2 c3 c4
      obtain ⟨A6, c6, rfl, -, -⟩ := own_sliceK hK.row
      have HKP := Lib.hid hK
      clear hox hK
      by_cases hg : 100 < xb.length
      · have hd1 : decide (100 < (xb.length : Int)) = true := by simp; omega
        go_wp2_with (go_at_call 8; refine (awake_any _).mono ?_; rintro e w' ⟨rfl, hb⟩)
        go_ret
        exact ⟨rfl, HKP.out.below.trans (((Below.refl _ _).alloc (Nat.le_refl _) _).trans (hb.mono (by simp)) |>.mono HKP.out.below.size)⟩
      · have hd1 : decide (100 < (xb.length : Int)) = false := by simp; omega
        by_cases e0 : xk = 0
        · subst e0
          go_wp2_with fail
          generalize hw3 : World.alloc (World.alloc wr (.cells #[.int .i64 0, .slice xA xb.length xc, .int .i64 xi, .int .i64 xp, .int .u32 xs] 33)) (.cells #[.slice xA xb.length xc] 30) = w3
          obtain ⟨q1, q2, hb3⟩ := alloc2_blocks wr _ _ hw3
          clear hw3
          have hK3 := HKP.out.on hb3
          have hDl : ∀ b, D b → b < wr.heap.size := fun b hb => (HKP.out.bag.din b hb).2
          have hX : BytX w3 D (.slice xA xb.length xc) xb := ⟨xA, _, xc, rfl, rfl, HX.out.n, HX.out.c, LiesX.of_lies (HX.out.l.below hK3.below) hK3.below.size fun b hb => (hK3.bag.din b hb).1⟩
          have hlo : lost ≤ 900000 := by have := HKP.out.lo; omega
          by_cases hroom : tl.length < room
          · refine (put_one hK3.bag q2 (fun h => by have := hDl _ h; omega) hX (by omega) hlo hroom).mono ?_
            rintro e w4 ⟨rfl, hP⟩
            have hE := hP
            obtain ⟨T4, l4, D4, hB4, -, hO4, hd4, -⟩ := hE
            have hq4 := (hO4.same wr.heap.size (by have := (Array.getElem?_eq_some_iff.1 q1).1; exact this) (fun h => by have := hDl _ h; omega)).trans q1
            have x1 : w4.cell? ⟨wr.heap.size, 1, none⟩ = some (.slice xA xb.length xc) := cell_of_row w4 _ 1 _ _ _ hq4
            have hb4 : Below w.heap.size w w4 := hK3.below.trans (hO4.below (fun b hb => (hK3.bag.din b hb).1) hK3.below.size)
            have s1 := strs_of (n := xb.length) rfl (HX.out.l.below hb4) xc
            have hrow4 : w4.ownsRow w.heap.size 9 1 (.slice A6 P.length c6) P.length (svs P) := own_only hK3.row hO4 hK3.off
            have HROW := Lib.hid (own_below hrow4 ((Below.refl _ _).alloc (Nat.le_refl _) (.cells #[.string (str xb)] 9)))
            have HP := Lib.hid hP
            have HK3 := Lib.hid hK3
            have hbs : w.heap.size ≤ w4.heap.size := hb4.size
            have hP60 : P.length ≤ 60 := by have := HKP.out.pl; omega
            have hLN := lies_new w4 #[.string (str xb)] 9
            have hbs2 : w.heap.size ≤ (w4.alloc (.cells #[.string (str xb)] 9)).heap.size := by simp; omega
            clear hP hB4 hO4 hd4 hq4 hb4 hrow4 hK3 q1 q2 hX hb3 c0 c1 c2 c3 c4
            obtain ⟨i0, hi, hz0, hz1, hz2⟩ := info_parts Try.infoStr
            go_wp2_with (at_builtin; refine wpList_append_lst rfl _ _ 42 rfl w.heap.size 9 i0 (.string ⟨#[]⟩) 16 Try.underlying42 hi hz0 hz1 hz2 rfl _ P.length (svs P) rfl HROW.out _ _ 1 1 [.string (str xb)] rfl rfl hLN (by simp [Value.oneCell']) ?d2 ?d3 hbs2 ?_)
            case d2 => unfold maxLen; omega
            case d3 => omega
            intro v6 w6 hown6 hg6 _ hblk6
            have HG6 := Lib.hid hg6
            have HO6 := Lib.hid hown6
            have HB6 := Lib.hid hblk6
            clear hown6 hg6 hblk6
            go_wp2
            go_roundw
            case rel =>
              obtain ⟨T5, l5, D5, h5⟩ := HK3.out.told HP.out (by omega) ((Below.refl _ _).alloc (Nat.le_refl _) _) HO6.out HG6.out (by have := HB6.out; simpa using this)
              exact ⟨k + 1, v6, P ++ [xb], T5, lost, l5, D5, by omega, by go_num, rfl, h5⟩
            case measure => simp [intOf]; omega
          · refine (put_full hK3.bag q2 (fun h => by have := hDl _ h; omega) hX (by omega) hlo hroom).mono ?_
            rintro e w4 ⟨rfl, hP⟩
            have HH : Hid (∃ T' l' D', Kp w w.heap.size room (.slice A6 P.length c6) P T' (lost + 1) l' D' (k + 1) w4) := hK3.put hP (by have := HKP.out.lo; omega) (by simp)
            clear hP hK3 q1 q2 hX hb3 c0 c1 c2 c3 c4
            go_wp2
            go_roundw
            case rel =>
              obtain ⟨T5, l5, D5, h5⟩ := HH.out
              exact ⟨k + 1, _, P, T5, lost + 1, l5, D5, by omega, by go_num, rfl, h5⟩
            case measure => simp [intOf]; omega
        · have n0 : (xk == 0) = false := by simpa using e0
          by_cases e3 : xk = 3
          · subst e3
            go_wp2_with fail
            generalize hw3 : World.alloc wr (.cells #[.int .i64 3, .slice xA xb.length xc, .int .i64 xi, .int .i64 xp, .int .u32 xs] 33) = w3
            have hb3 : Below wr.heap.size wr w3 := by rw [← hw3]; exact (Below.refl _ _).alloc (Nat.le_refl _) _
            have hK3 := HKP.out.on hb3
            clear hw3 hb3 c0 c1 c2 c3 c4
            by_cases hir : 0 ≤ xi ∧ xi < tl.length
            · obtain ⟨j, rfl⟩ := Int.eq_ofNat_of_zero_le hir.1
              have hj : j < tl.length := by omega
              by_cases hroom : tl.length < room
              · refine (twice_any hK3.bag j hj hroom).mono ?_
                rintro e w4 ⟨rfl, hP⟩
                have HH : Hid (∃ T' lo' l' D', Kp w w.heap.size room (.slice A6 P.length c6) P T' lo' l' D' (k + 1) w4) := by
                  obtain ⟨T5, l5, D5, h5⟩ := hK3.put hP (by have := HKP.out.lo; omega) (by simpa using hK3.came _ (List.getElem_mem hj))
                  exact ⟨T5, _, l5, D5, h5⟩
                clear hP hK3
                go_wp2
                go_roundw
                case rel =>
                  obtain ⟨T5, lo5, l5, D5, h5⟩ := HH.out
                  exact ⟨k + 1, _, P, T5, lo5, l5, D5, by omega, by go_num, rfl, h5⟩
                case measure => simp [intOf]; omega
              · refine (twice_full hK3.bag j hj (by omega)).mono ?_
                rintro e w4 ⟨rfl, hb4⟩
                have HH : Hid (∃ T' lo' l' D', Kp w w.heap.size room (.slice A6 P.length c6) P T' lo' l' D' (k + 1) w4) := ⟨_, _, _, _, (hK3.on hb4).next⟩
                clear hb4 hK3
                go_wp2
                go_roundw
                case rel =>
                  obtain ⟨T5, lo5, l5, D5, h5⟩ := HH.out
                  exact ⟨k + 1, _, P, T5, lo5, l5, D5, by omega, by go_num, rfl, h5⟩
                case measure => simp [intOf]; omega
            · refine (twice_none hK3.bag xi hir).mono ?_
              rintro e w4 ⟨rfl, rfl⟩
              have HH : Hid (∃ T' lo' l' D', Kp w w.heap.size room (.slice A6 P.length c6) P T' lo' l' D' (k + 1) w4) := ⟨_, _, _, _, hK3.next⟩
              clear hK3
              go_wp2
              go_roundw
              case rel =>
                obtain ⟨T5, lo5, l5, D5, h5⟩ := HH.out
                exact ⟨k + 1, _, P, T5, lo5, l5, D5, by omega, by go_num, rfl, h5⟩
              case measure => simp [intOf]; omega
          · have n3 : (xk == 3) = false := by simpa using e3
            by_cases e12 : xk = 1 ∨ xk = 2

            · rcases e12 with rfl | rfl
              · go_wp2_with fail
                generalize hw3 : World.alloc wr (.cells #[.int .i64 1, .slice xA xb.length xc, .int .i64 xi, .int .i64 xp, .int .u32 xs] 33) = w3
                have hb3 : Below wr.heap.size wr w3 := by rw [← hw3]; exact (Below.refl _ _).alloc (Nat.le_refl _) _
                have hK3 := HKP.out.on hb3
                clear hw3 hb3 c0 c1 c2 c3 c4
                by_cases hir : 0 ≤ xi ∧ xi < tl.length
                · obtain ⟨j, rfl⟩ := Int.eq_ofNat_of_zero_le hir.1
                  have hj : j < tl.length := by omega
                  refine (take_any hK3.bag j hj).mono ?_
                  rintro e w4 ⟨A5, n5, c5, T5, rfl, hn5, -, -, ho5, hB5, hE5⟩
                  have hcm := hK3.came _ (List.getElem_mem hj)
                  have HGD : Hid (∃ j0, ∃ hj0 : j0 < P.length, goodB P[j0] tl[j].b = true) := hcm.good
                  have HK4 : Hid (Kp w w.heap.size room (.slice A6 P.length c6) P T5 lost (tl.eraseIdx j) D (k + 1) w4) := hK3.go hB5 hE5 (fun _ => .inl) (by have := HKP.out.lo; omega) fun y hy => hK3.came y (List.mem_of_mem_eraseIdx hy)
                  have hbl : tl[j].b.length ≤ 1000 := hK3.bag.bm _ (List.getElem_mem hj)
                  generalize tl[j].b = bb5 at hn5 ho5 HGD hbl
                  have hn5' : bb5.length = n5 := hn5.out
                  subst hn5'
                  have HLO := Lib.hid (Lies.of_own ho5)
                  clear hK3 ho5 hB5 hE5 hcm hn5
                  go_wp2_with fail
                  go_loopw [11, 12] (fun s11 s12 wi => ∃ (q : Nat) (mt : Bool), q ≤ P.length ∧ s12 = .int .i64 q ∧ s11 = .bool mt ∧ Hid (mt = false → ∀ j, (hj : j < P.length) → j < q → goodB P[j] bb5 = false) ∧ Below w4.heap.size w4 wi) (fun _ s12 _ => P.length - (intOf s12).toNat)
                  case atStart => exact ⟨0, false, Nat.zero_le _, rfl, rfl, fun _ j _ h => absurd h (Nat.not_lt_zero j), Below.refl _ _⟩
                  case round =>
                    obtain ⟨q, mt, hq, rfl, rfl, hall, hbi⟩ := hrel
                    cases mt with
                    | true =>
                      have HBI := Lib.hid hbi
                      clear hbi hall
                      by_cases hql : q < P.length
                      · go_wp2
                        go_roundw
                        case rel => exact ⟨k + 1, _, P, T5, lost, _, D, by omega, by go_num, rfl, HK4.out.on HBI.out⟩
                        case measure => simp [intOf]; omega
                      · go_wp2
                        go_roundw
                        case rel => exact ⟨k + 1, _, P, T5, lost, _, D, by omega, by go_num, rfl, HK4.out.on HBI.out⟩
                        case measure => simp [intOf]; omega
                    | false =>
                      by_cases hql : q < P.length
                      · have hP60 : P.length ≤ 60 := by have := HK4.out.pl; omega
                        have hKi := HK4.out.on hbi
                        obtain ⟨g6, c6', hv6, -, hg6l⟩ := hKi.row.form (by omega)
                        obtain ⟨rfl, rfl⟩ : A6 = some ⟨g6, 0, none⟩ ∧ c6 = c6' := by injection hv6 with e1 _ e3; exact ⟨e1, e3⟩
                        have hcell : wr.cell? ⟨g6, q, none⟩ = some (.string (str P[q])) := by
                          rw [hKi.row.cellAt _ (by omega)]
                          simp [svs, hql]
                        have hcl := later_cell hg6l hcell
                        have hPb := hKi.pb _ (List.getElem_mem hql)
                        have HNX : Hid (∀ b : Bool, b = goodB P[q] bb5 → b = false → ∀ j, (hj : j < P.length) → j < q + 1 → goodB P[j] bb5 = false) := fun b hb hbf j hj hjq => by
                          by_cases hjq2 : j < q
                          · exact hall.out rfl j hj hjq2
                          · obtain rfl : j = q := by omega
                            rw [← hb, hbf]
                        have s1 : ∀ p : Later wr, (convert 30 9 (.slice A5 bb5.length c5)).run Try.prog p.w = .ok (.string (str bb5)) p.w := fun p => strs_of rfl ((HLO.out.below hbi).below (p.hb.mono hbi.size)) c5
                        have sz : (str P[q]).size = P[q].length := by simp [str, ByteArray.size]
                        have HGq : Hid (goodB P[q] bb5 = (decide (P[q].length = bb5.length) && nearB P[q] bb5)) := rfl
                        have HK5 : Hid (Kp w w.heap.size room (.slice (some ⟨g6, 0, none⟩) P.length c6) P T5 lost (tl.eraseIdx j) D (k + 1) wr) := hKi
                        have HBI := Lib.hid hbi
                        by_cases hlen : P[q].length = bb5.length
                        · have hnr := fun W => near_any P[q] bb5 W (by omega) hlen.symm
                          have HG2 : Hid (nearB P[q] bb5 = goodB P[q] bb5) := by show _ = _; rw [HGq.out, decide_eq_true hlen, Bool.true_and]
                          generalize nearB P[q] bb5 = nb at hnr HG2
                          generalize P[q] = aq at hcl hcell hnr sz HG2 HNX HGq hlen hPb
                          rw [hlen] at sz
                          clear hall hbi hKi hv6 hcell
                          go_wp2_with fail
                          refine wp_region_later mixed (by kernel_rfl) ?_
                          repeat (go_big_quiet_step ((go_at_call 18; exact later_of (hnr _))))
                          refine wpQuiet_nil ?_
                          intro _ hw'
                          obtain ⟨p, rfl⟩ := hw'
                          go_wp2
                          go_roundw
                          case rel => exact ⟨q + 1, nb, by omega, by go_num, rfl, HNX.out nb HG2.out, HBI.out.trans (p.hb.mono HBI.out.size)⟩
                          case measure => simp [intOf]; omega
                        · have HG2 : Hid (false = goodB P[q] bb5) := by show _ = _; rw [HGq.out, decide_eq_false hlen, Bool.false_and]
                          have hne : (((P[q].length : Nat) : Int) == ((bb5.length : Nat) : Int)) = false := by simp; omega
                          generalize P[q] = aq at hcl hcell sz HG2 HNX HGq hlen hPb hne
                          clear hall hbi hKi hv6 hcell
                          go_wp2_with fail
                          refine wp_region_later mixed (by kernel_rfl) ?_
                          repeat (go_big_quiet_step (fail))
                          refine wpQuiet_nil ?_
                          intro _ hw'
                          obtain ⟨p, rfl⟩ := hw'
                          go_wp2
                          go_roundw
                          case rel => exact ⟨q + 1, false, by omega, by go_num, rfl, HNX.out false HG2.out, HBI.out.trans (p.hb.mono HBI.out.size)⟩
                          case measure => simp [intOf]; omega
                      · exfalso
                        obtain ⟨j0, hj0, hgd⟩ := HGD.out
                        rw [hall.out rfl j0 hj0 (by omega)] at hgd
                        exact absurd hgd (by decide)
                · refine (take_none hK3.bag xi hir).mono ?_
                  rintro e w4 ⟨rfl, rfl⟩
                  have HK4 := Lib.hid hK3.next
                  clear hK3
                  go_wp2_with fail
                  go_loopw [11, 12] (fun s11 s12 wi => s12 = .int .i64 0 ∧ s11 = .bool true ∧ w4 = wi) (fun _ s12 _ => 0)
                  case atStart => exact ⟨rfl, rfl, rfl⟩
                  case round =>
                    obtain ⟨rfl, rfl, rfl⟩ := hrel
                    by_cases hql : 0 < P.length
                    · go_wp2
                      go_roundw
                      case rel => exact ⟨k + 1, _, P, T, lost, _, D, by omega, by go_num, rfl, HK4.out⟩
                      case measure => simp [intOf]; omega
                    · go_wp2
                      go_roundw
                      case rel => exact ⟨k + 1, _, P, T, lost, _, D, by omega, by go_num, rfl, HK4.out⟩
                      case measure => simp [intOf]; omega
              · go_wp2_with fail
                generalize hw3 : World.alloc wr (.cells #[.int .i64 2, .slice xA xb.length xc, .int .i64 xi, .int .i64 xp, .int .u32 xs] 33) = w3
                have hb3 : Below wr.heap.size wr w3 := by rw [← hw3]; exact (Below.refl _ _).alloc (Nat.le_refl _) _
                have hK3 := HKP.out.on hb3
                clear hw3 hb3 c0 c1 c2 c3 c4
                by_cases hir : 0 ≤ xi ∧ xi < tl.length
                · obtain ⟨j, rfl⟩ := Int.eq_ofNat_of_zero_le hir.1
                  have hj : j < tl.length := by omega
                  refine (take_any hK3.bag j hj).mono ?_
                  rintro e w4 ⟨A5, n5, c5, T5, rfl, hn5, -, -, ho5, hB5, hE5⟩
                  have hcm := hK3.came _ (List.getElem_mem hj)
                  have HGD : Hid (∃ j0, ∃ hj0 : j0 < P.length, goodB P[j0] tl[j].b = true) := hcm.good
                  have HK4 : Hid (Kp w w.heap.size room (.slice A6 P.length c6) P T5 lost (tl.eraseIdx j) D (k + 1) w4) := hK3.go hB5 hE5 (fun _ => .inl) (by have := HKP.out.lo; omega) fun y hy => hK3.came y (List.mem_of_mem_eraseIdx hy)
                  have hbl : tl[j].b.length ≤ 1000 := hK3.bag.bm _ (List.getElem_mem hj)
                  generalize tl[j].b = bb5 at hn5 ho5 HGD hbl
                  have hn5' : bb5.length = n5 := hn5.out
                  subst hn5'
                  have HLO := Lib.hid (Lies.of_own ho5)
                  clear hK3 ho5 hB5 hE5 hcm hn5
                  go_wp2_with fail
                  go_loopw [11, 12] (fun s11 s12 wi => ∃ (q : Nat) (mt : Bool), q ≤ P.length ∧ s12 = .int .i64 q ∧ s11 = .bool mt ∧ Hid (mt = false → ∀ j, (hj : j < P.length) → j < q → goodB P[j] bb5 = false) ∧ Below w4.heap.size w4 wi) (fun _ s12 _ => P.length - (intOf s12).toNat)
                  case atStart => exact ⟨0, false, Nat.zero_le _, rfl, rfl, fun _ j _ h => absurd h (Nat.not_lt_zero j), Below.refl _ _⟩
                  case round =>
                    obtain ⟨q, mt, hq, rfl, rfl, hall, hbi⟩ := hrel
                    cases mt with
                    | true =>
                      have HBI := Lib.hid hbi
                      clear hbi hall
                      by_cases hql : q < P.length
                      · go_wp2
                        go_roundw
                        case rel => exact ⟨k + 1, _, P, T5, lost, _, D, by omega, by go_num, rfl, HK4.out.on HBI.out⟩
                        case measure => simp [intOf]; omega
                      · go_wp2
                        go_roundw
                        case rel => exact ⟨k + 1, _, P, T5, lost, _, D, by omega, by go_num, rfl, HK4.out.on HBI.out⟩
                        case measure => simp [intOf]; omega
                    | false =>
                      by_cases hql : q < P.length
                      · have hP60 : P.length ≤ 60 := by have := HK4.out.pl; omega
                        have hKi := HK4.out.on hbi
                        obtain ⟨g6, c6', hv6, -, hg6l⟩ := hKi.row.form (by omega)
                        obtain ⟨rfl, rfl⟩ : A6 = some ⟨g6, 0, none⟩ ∧ c6 = c6' := by injection hv6 with e1 _ e3; exact ⟨e1, e3⟩
                        have hcell : wr.cell? ⟨g6, q, none⟩ = some (.string (str P[q])) := by
                          rw [hKi.row.cellAt _ (by omega)]
                          simp [svs, hql]
                        have hcl := later_cell hg6l hcell
                        have hPb := hKi.pb _ (List.getElem_mem hql)
                        have HNX : Hid (∀ b : Bool, b = goodB P[q] bb5 → b = false → ∀ j, (hj : j < P.length) → j < q + 1 → goodB P[j] bb5 = false) := fun b hb hbf j hj hjq => by
                          by_cases hjq2 : j < q
                          · exact hall.out rfl j hj hjq2
                          · obtain rfl : j = q := by omega
                            rw [← hb, hbf]
                        have s1 : ∀ p : Later wr, (convert 30 9 (.slice A5 bb5.length c5)).run Try.prog p.w = .ok (.string (str bb5)) p.w := fun p => strs_of rfl ((HLO.out.below hbi).below (p.hb.mono hbi.size)) c5
                        have sz : (str P[q]).size = P[q].length := by simp [str, ByteArray.size]
                        have HGq : Hid (goodB P[q] bb5 = (decide (P[q].length = bb5.length) && nearB P[q] bb5)) := rfl
                        have HK5 : Hid (Kp w w.heap.size room (.slice (some ⟨g6, 0, none⟩) P.length c6) P T5 lost (tl.eraseIdx j) D (k + 1) wr) := hKi
                        have HBI := Lib.hid hbi
                        by_cases hlen : P[q].length = bb5.length
                        · have hnr := fun W => near_any P[q] bb5 W (by omega) hlen.symm
                          have HG2 : Hid (nearB P[q] bb5 = goodB P[q] bb5) := by show _ = _; rw [HGq.out, decide_eq_true hlen, Bool.true_and]
                          generalize nearB P[q] bb5 = nb at hnr HG2
                          generalize P[q] = aq at hcl hcell hnr sz HG2 HNX HGq hlen hPb
                          rw [hlen] at sz
                          clear hall hbi hKi hv6 hcell
                          go_wp2_with fail
                          refine wp_region_later mixed (by kernel_rfl) ?_
                          repeat (go_big_quiet_step ((go_at_call 18; exact later_of (hnr _))))
                          refine wpQuiet_nil ?_
                          intro _ hw'
                          obtain ⟨p, rfl⟩ := hw'
                          go_wp2
                          go_roundw
                          case rel => exact ⟨q + 1, nb, by omega, by go_num, rfl, HNX.out nb HG2.out, HBI.out.trans (p.hb.mono HBI.out.size)⟩
                          case measure => simp [intOf]; omega
                        · have HG2 : Hid (false = goodB P[q] bb5) := by show _ = _; rw [HGq.out, decide_eq_false hlen, Bool.false_and]
                          have hne : (((P[q].length : Nat) : Int) == ((bb5.length : Nat) : Int)) = false := by simp; omega
                          generalize P[q] = aq at hcl hcell sz HG2 HNX HGq hlen hPb hne
                          clear hall hbi hKi hv6 hcell
                          go_wp2_with fail
                          refine wp_region_later mixed (by kernel_rfl) ?_
                          repeat (go_big_quiet_step (fail))
                          refine wpQuiet_nil ?_
                          intro _ hw'
                          obtain ⟨p, rfl⟩ := hw'
                          go_wp2
                          go_roundw
                          case rel => exact ⟨q + 1, false, by omega, by go_num, rfl, HNX.out false HG2.out, HBI.out.trans (p.hb.mono HBI.out.size)⟩
                          case measure => simp [intOf]; omega
                      · exfalso
                        obtain ⟨j0, hj0, hgd⟩ := HGD.out
                        rw [hall.out rfl j0 hj0 (by omega)] at hgd
                        exact absurd hgd (by decide)
                · refine (take_none hK3.bag xi hir).mono ?_
                  rintro e w4 ⟨rfl, rfl⟩
                  have HK4 := Lib.hid hK3.next
                  clear hK3
                  go_wp2_with fail
                  go_loopw [11, 12] (fun s11 s12 wi => s12 = .int .i64 0 ∧ s11 = .bool true ∧ w4 = wi) (fun _ s12 _ => 0)
                  case atStart => exact ⟨rfl, rfl, rfl⟩
                  case round =>
                    obtain ⟨rfl, rfl, rfl⟩ := hrel
                    by_cases hql : 0 < P.length
                    · go_wp2
                      go_roundw
                      case rel => exact ⟨k + 1, _, P, T, lost, _, D, by omega, by go_num, rfl, HK4.out⟩
                      case measure => simp [intOf]; omega
                    · go_wp2
                      go_roundw
                      case rel => exact ⟨k + 1, _, P, T, lost, _, D, by omega, by go_num, rfl, HK4.out⟩
                      case measure => simp [intOf]; omega
            · have n1 : (xk == 1) = false := by simp; omega
              have n2 : (xk == 2) = false := by simp; omega
              clear e0 e3 e12
              go_wp2_with fail
              generalize hw3 : World.alloc wr (.cells #[.int .i64 xk, .slice xA xb.length xc, .int .i64 xi, .int .i64 xp, .int .u32 xs] 33) = w3
              have hb3 : Below wr.heap.size wr w3 := by rw [← hw3]; exact (Below.refl _ _).alloc (Nat.le_refl _) _
              have hK3 := HKP.out.on hb3
              clear hw3 hb3 c0 c1 c2 c3 c4
              by_cases hir : 0 ≤ xi ∧ xi < tl.length
              · obtain ⟨j, rfl⟩ := Int.eq_ofNat_of_zero_le hir.1
                have hj : j < tl.length := by omega
                by_cases hmt : mayT tl[j].t tl[j].b.length xp xs
                · obtain ⟨s, rfl⟩ := Int.eq_ofNat_of_zero_le HX.out.s.1
                  obtain ⟨pp, rfl⟩ := Int.eq_ofNat_of_zero_le hmt.2.2.1
                  have hs4 : s < 4294967296 := by have := HX.out.s.2; simp only [] at this; omega
                  refine (turnBag_any hK3.bag j pp s hj hs4 hmt).mono ?_
                  rintro e w4 ⟨rfl, hB4, hO4⟩
                  have HH : Hid (∃ T' lo' l' D', Kp w w.heap.size room (.slice A6 P.length c6) P T' lo' l' D' (k + 1) w4) := by
                    refine ⟨_, _, _, _, hK3.go hB4 hO4 (fun _ => .inl) (by have := HKP.out.lo; omega) fun y hy => ?_⟩
                    rcases List.mem_or_eq_of_mem_set hy with hy | rfl
                    · exact hK3.came y hy
                    · have h1 := hK3.came _ (List.getElem_mem hj)
                      rw [show tl[j].pl = (tl[j].b, false) by rw [← hmt.1]; rfl] at h1
                      exact h1.turn (by have := hmt.2.2.2; omega)
                  clear hB4 hO4 hK3 hmt
                  go_wp2
                  go_roundw
                  case rel =>
                    obtain ⟨T5, lo5, l5, D5, h5⟩ := HH.out
                    exact ⟨k + 1, _, P, T5, lo5, l5, D5, by omega, by go_num, rfl, h5⟩
                  case measure => simp [intOf]; omega
                · refine (turn_not hK3.bag j xp xs hj hmt).mono ?_
                  rintro e w4 ⟨rfl, rfl⟩
                  have HH : Hid (∃ T' lo' l' D', Kp w w.heap.size room (.slice A6 P.length c6) P T' lo' l' D' (k + 1) w4) := ⟨_, _, _, _, hK3.next⟩
                  clear hK3 hmt
                  go_wp2
                  go_roundw
                  case rel =>
                    obtain ⟨T5, lo5, l5, D5, h5⟩ := HH.out
                    exact ⟨k + 1, _, P, T5, lo5, l5, D5, by omega, by go_num, rfl, h5⟩
                  case measure => simp [intOf]; omega
              · refine (turn_none hK3.bag xi xp xs hir).mono ?_
                rintro e w4 ⟨rfl, rfl⟩
                have HH : Hid (∃ T' lo' l' D', Kp w w.heap.size room (.slice A6 P.length c6) P T' lo' l' D' (k + 1) w4) := ⟨_, _, _, _, hK3.next⟩
                clear hK3
                go_wp2
                go_roundw
                case rel =>
                  obtain ⟨T5, lo5, l5, D5, h5⟩ := HH.out
                  exact ⟨k + 1, _, P, T5, lo5, l5, D5, by omega, by go_num, rfl, h5⟩
                case measure => simp [intOf]; omega
    · obtain rfl : k = m := by omega
      have HB := Lib.hid hK.below
      clear hK
      go_wp2_with (go_at_call 8; refine (awake_any _).mono ?_; rintro e w' ⟨rfl, hb⟩)
      go_ret
      exact ⟨rfl, HB.out.trans (hb.mono HB.out.size)⟩

theorem bagKeeps_many (A : Option Addr) (n c : Nat) (r : Int) (w : World) (hn : 60 < n) :
    Calls Try.prog 4 #[.int .i64 r, .slice A n c] w fun e w' => e = .returned (.bool true) ∧ Below w.heap.size w w' := by
  have hd : decide (60 < (n : Int)) = true := by simp; omega
  go_enter Try.func4, Try.ntmps4
  go_wp2_with (go_at_call 8; refine (awake_any _).mono ?_; rintro e w' ⟨rfl, hb⟩)
  go_ret
  exact ⟨rfl, hb⟩

theorem own : ownKnob Try.prog.godebug = none := by kernel_rfl
theorem laidOut : laidOutB Try.prog = true := by kernel_rfl

set_option maxRecDepth 100000 in
theorem bagKeeps_lifted (os : Os) (started : os.Started) (H : Type) (enc : TypeId × Value → H) :
    ReturnsInHanded {} Try.checked os 4 .any (Rows.bagKeepsSpec.pre6 enc Try.prog Try.f4 Rows.bagKeepsRow.domain false) (Rows.bagKeepsSpec.post enc Try.prog Try.f4 false true false false) := by
  refine returnsInHanded_of_change (C := Try.checked) own started (by kernel_rfl) Try.func4
    (ChangeSpec.witness6 (enc := enc) (C := Try.checked) false ⟨#[], #[.int .i64 0, .slice none 0 0], []⟩ 8 (by kernel_rfl) (by kernel_rfl) (by kernel_rfl) (by kernel_rfl)) ?_
  intro W base args ds gs before hval0 hW _ _
  have hval : ∀ (j : Nat) t v, Try.f4.params[j]? = some t → args[j]? = some v → Value.okWide Try.prog W .any base t v := hval0
  have hW' := hW
  obtain ⟨p, q, hA0, hV, rfl, _, _⟩ := hW
  have hA : DataW.TrodAll enc Try.prog W 0 (fun _ => true) true Try.f4.params.toList args.toList ds p := hA0
  rw [Try.params4] at hA hval
  obtain ⟨v0, vs0, d0, ds0, p0, q0, hargs, rfl, rfl, h0, r0⟩ := trodAll_cons hA
  obtain ⟨v1, vs1, d1, ds1, p1, q1, rfl, rfl, rfl, h1, r1⟩ := trodAll_cons r0
  obtain ⟨rfl, rfl, rfl⟩ := trodAll_nil r1
  obtain rfl : args = #[v0, v1] := by cases args; simp_all
  obtain ⟨rfl, rfl⟩ := trodVars_none hV
  have k0 := h0
  have lt0 : ∀ x ∈ p0, x.block < W.heap.size := by obtain ⟨m, hm⟩ := k0; exact DataW.trod_lt m _ _ _ hm
  have k1 := h1
  have lt1 : ∀ x ∈ p1, x.block < W.heap.size := by obtain ⟨m, hm⟩ := k1; exact DataW.trod_lt m _ _ _ hm
  obtain ⟨a0, rfl, _, _, wf0⟩ := open_int Try.underlying3 (hval 0 3 v0 rfl rfl) h0
  have hwalk : Calls Try.prog 4 #[.int .i64 a0, v1] W fun e w' => e = .returned (.bool true) ∧ Below W.heap.size W w' := by
    obtain ⟨a1, len1, cap1, rfl⟩ := okWide_slice Try.underlying22 (hval 1 22 v1 rfl rfl)
    obtain ⟨fuel, hf⟩ := h1
    obtain ⟨l, A, n, c, hv, hl, hc, hcm, hL, hok⟩ := open_acts (by simpa [Value.cells] using hf)
    injection hv with e1 e2 e3
    subst e1 e2 e3
    by_cases hn : 60 < len1
    · exact bagKeeps_many a1 len1 cap1 a0 W hn
    · have hb := bounds_i64 wf0
      exact bagKeeps_walk a1 len1 cap1 a0 l W hl (by omega) hc hL hok (by omega) (by omega)
  clear hA0 hval0
  refine hwalk.mono fun e W' ⟨he, bel⟩ => ?_
  subst he
  exact ⟨_, rfl, _, _, _, [], _, [], hW', trodAll_mk1 (shut_bool Try.underlying4 _), (trodAll_cons_mk (Below.trod laidOut (by kernel_rfl) (of_decide_eq_true (by kernel_rfl)) k0 bel lt0) (trodAll_cons_mk (Below.trod laidOut (by kernel_rfl) (of_decide_eq_true (by kernel_rfl)) k1 bel lt1) trodAll_mk0)), rfl, bel.frame _, fun h => by cases h⟩

theorem bagKeeps_proved : Rows.BagKeepsSaid :=
  OpenClaim.holds_of_wide 4 Try.f4 rfl rfl rfl rfl rfl rfl rfl ⟨rfl, rfl, rfl, rfl, rfl⟩ rfl rfl rfl rfl rfl (by kernel_rfl) Try.func4 (by kernel_rfl)
    (of_decide_eq_true (by kernel_rfl)) (by unfold Func.isWrapper; first | (rw [if_pos (by decide +kernel)]; kernel_rfl) | (rw [if_neg (by decide +kernel)]; exact ⟨rfl, rfl⟩))
    (fun os started H enc _ => bagKeeps_lifted os started H enc)

end Go.Proofs.Ytjecphjdmjoeiaa
