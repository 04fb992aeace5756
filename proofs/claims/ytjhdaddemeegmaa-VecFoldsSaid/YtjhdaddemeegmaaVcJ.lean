/- The walk of the document's Of: the least, or the greatest number of each process. -/
import Derived.Test.YtjhdaddemeegmaaVcG
namespace Go.Proofs.Ytjhdaddemeegmaa
open Go.RowKit

def ofN (op : Nat → Nat → Nat) (ls : List (List Nat)) (i k : Nat) : Nat := (ls.take k).foldl (fun n a => op n (num a i)) (num (ls.headD []) i)

theorem ofN_next (op : Nat → Nat → Nat) (ls : List (List Nat)) (i k : Nat) (h : k < ls.length) : ofN op ls i (k + 1) = op (ofN op ls i k) (num ls[k] i) := by
  unfold ofN
  rw [List.take_succ_eq_append_getElem h, List.foldl_append]
  rfl
theorem ofN_all (op : Nat → Nat → Nat) (hop : ∀ x, op x x = x) (ls : List (List Nat)) (i k : Nat) (h : ls.length ≤ k) : ofN op ls i k = foldN op ls i := by
  unfold ofN foldN
  rw [List.take_of_length_le h]
  rcases ls with _ | ⟨x, t⟩
  · rfl
  · simp [hop]

set_option maxHeartbeats 1600000 in
theorem refOf_max (A : Option Addr) (n c : Nat) (vs : List Value) (ls : List (List Nat)) (w : World) (hn : n ≤ 1000) (hlong : longN ls ≤ 1000) (hl : vs.length = n) (h : Lies w w.heap.size A vs) (hr : VecRows w w.heap.size vs ls) :
    Calls Try.prog 21 #[.bool true, .slice A n c] w (OwnedV w w.heap.size (foldV max ls)) := by
  have HL := Lib.hid hl
  have HR := Lib.hid hr
  unfold foldV
  generalize hN : longN ls = N at hlong
  have HN := Lib.hid hN
  have hM0 : Mk w (frontV max ls 0) (.slice (some ⟨w.heap.size, 0, none⟩) 0 0) (w.alloc (.cells #[] 23)) :=
    Mk.of (n := 0) (World.ownsRow_lit w #[] 0 (Nat.le_refl _) (Nat.zero_le _) rfl) ((Below.refl _ _).alloc (Nat.le_refl _) _)
  clear hl hr hN
  go_enter Try.func21, Try.ntmps21
  go_wp2
  generalize hw1 : w.alloc (.cells #[] 23) = w1 at hM0 ⊢
  have hb1 := hM0.below
  have hL1 := h.below hb1
  have HR1 := Lib.hid (HR.out.below hb1)
  clear hw1
  go_loop [6, 7, 15] (fun s6 _ i => ∃ k : Nat, k ≤ n ∧ i = .int .i64 k ∧ s6 = .int .i64 (longN (ls.take k) : Int)) (fun _ _ i => n - (intOf i).toNat)
  case atStart => exact ⟨0, Nat.zero_le _, rfl, rfl⟩
  case round =>
    obtain ⟨k, hk, rfl, rfl⟩ := hrel
    by_cases hlt : k < n
    · have hk1 : k < vs.length := by rw [HL.out]; exact hlt
      have hk2 : k < ls.length := by rw [← HR.out.1]; exact hk1
      obtain ⟨Ar, nr, cr, hvr, hlr, _, _, hLr⟩ := HR1.out.2 k hk1 hk2
      obtain ⟨b, off, rfl, hb, hc⟩ := hL1.at_ (List.getElem?_eq_getElem hk1)
      rw [hvr] at hc
      have HS := Lib.hid (longN_snoc ls k hk2)
      rw [hlr] at HS
      clear hvr hlr hLr hM0
      generalize longN (ls.take k) = q at HS
      by_cases hm : q < nr
      · have HM : Hid (longN (ls.take (k + 1)) = nr) := by rw [HS.out]; exact Nat.max_eq_right (by omega)
        clear HS
        go_wp2
        go_round
        case rel => exact ⟨k + 1, by omega, by go_num, by rw [HM.out]⟩
        case measure => simp [intOf]; omega
      · have HM : Hid (longN (ls.take (k + 1)) = q) := by rw [HS.out]; exact Nat.max_eq_left (by omega)
        clear HS
        go_wp2
        go_round
        case rel => exact ⟨k + 1, by omega, by go_num, by rw [HM.out]⟩
        case measure => simp [intOf]; omega
    · have HA : Hid (longN (ls.take k) = N) := by
        rw [List.take_of_length_le (by rw [← HR.out.1, HL.out]; omega)]
        exact HN
      rw [HA.out]
      go_wp2
      go_loopw [5, 8, 9, 10, 11] (fun v s8 _ _ _ wr => ∃ (k : Nat), k ≤ N ∧ s8 = .int .i64 k ∧ Mk w (frontV max ls k) v wr) (fun _ s8 _ _ _ _ => N - (intOf s8).toNat)
      case atStart => exact ⟨0, Nat.zero_le _, rfl, hM0⟩
      case round =>
        clear hM0 hL1 HR1 hb1 hlt hk
        obtain ⟨i, hi, rfl, hM⟩ := hrel
        obtain ⟨wo, rfl⟩ : ∃ wo : World, wo = wr := ⟨_, rfl⟩
        by_cases hlt : i < N
        · have hp : 0 < ls.length := by
            rcases ls with _ | ⟨x, t⟩
            · have := HN.out; simp [longN] at this; omega
            · simp
          have hp1 : 0 < vs.length := by rw [HR.out.1]; exact hp
          have hpn : 0 < n := by rw [← HL.out]; exact hp1
          have hb := hM.below
          have HR2 := Lib.hid (HR.out.below hb)
          have hL2 := h.below hb
          obtain ⟨A0, n0, c0, hv0, hl0, _, _, hL0⟩ := HR2.out.2 0 hp1 hp
          obtain ⟨b, off, rfl, hbb, hc⟩ := hL2.at_ (List.getElem?_eq_getElem hp1)
          rw [hv0, Nat.add_zero] at hc
          have hat := refAt_nat A0 n0 c0 i w.heap.size ls[0] wo hl0 hL0
          have HF : Hid (num ls[0] i = ofN max ls i 0) := by
            rcases ls with _ | ⟨x, t⟩
            · simp at hp
            · rfl
          have HF2 := Lib.hid (ofN_next max ls i)
          have HF3 := Lib.hid (ofN_all max (fun x => Nat.max_self x) ls i)
          rw [HF.out] at hat
          obtain ⟨L, hoL, hbL, hLL⟩ := id hM
          have hLx : L ≤ 1000 := by have := hLL.out; rw [frontV_length] at this; omega
          clear hv0 hl0 hL0 hM HF
          go_wp2_with fail
          refine hat.mono ?_
          rintro e w1 ⟨rfl, rfl⟩
          clear hat
          go_wp2
          go_loop [9, 10, 11, 43] (fun s9 _ _ s43 => ∃ (j : Nat), j ≤ n ∧ s43 = .int .i64 j ∧ s9 = .int .u64 (ofN max ls i j : Int)) (fun _ _ _ s43 => n - (intOf s43).toNat)
          case atStart => exact ⟨0, Nat.zero_le _, rfl, rfl⟩
          case round =>
            obtain ⟨j, hj, rfl, rfl⟩ := hrel
            by_cases hjl : j < n
            · have hj1 : j < vs.length := by rw [HL.out]; exact hjl
              have hj2 : j < ls.length := by rw [← HR.out.1]; exact hj1
              obtain ⟨Ar, nr, cr, hvr, hlr, _, _, hLr⟩ := HR2.out.2 j hj1 hj2
              obtain ⟨b', off', he, _, hcj⟩ := hL2.at_ (List.getElem?_eq_getElem hj1)
              injection he with he
              injection he with e1 e2
              subst e1 e2
              rw [hvr] at hcj
              have hat := refAt_nat Ar nr cr i w.heap.size ls[j] wo hlr hLr
              have hstep := Lib.hid (HF2.out j hj2)
              generalize num ls[j] i = y at hat hstep
              generalize ofN max ls i j = x at hstep ⊢
              clear hvr hlr hLr
              by_cases hxy : x < y
              · have HS : Hid (ofN max ls i (j + 1) = y) := by rw [hstep.out]; show max x y = y; omega
                clear hstep
                go_wp2_with fail
                refine hat.mono ?_
                rintro e w1 ⟨rfl, rfl⟩
                clear hat
                go_wp2
                go_round
                case rel => exact ⟨j + 1, by omega, by go_num, by rw [HS.out]⟩
                case measure => simp [intOf]; omega
              · have HS : Hid (ofN max ls i (j + 1) = x) := by rw [hstep.out]; show max x y = x; omega
                clear hstep
                go_wp2_with fail
                refine hat.mono ?_
                rintro e w1 ⟨rfl, rfl⟩
                clear hat
                go_wp2
                go_round
                case rel => exact ⟨j + 1, by omega, by go_num, by rw [HS.out]⟩
                case measure => simp [intOf]; omega
            · rw [HF3.out j (by rw [← HR.out.1, HL.out]; omega)]
              have hnx := Lib.hid (frontV_next max ls i)
              generalize foldN max ls i = x at hnx ⊢
              have hsz : w.heap.size ≤ wo.heap.size := hb.size
              clear hL2 HR2 HF2 HF3 hc
              go_wp2_with (at_builtin; refine wpList_push rfl (.tmp 69) (.tmp 71) rfl w.heap.size L (frontV max ls i) x _ rfl rfl hoL hLx hsz ?_)
              intro v7 w7 hown7 hb7
              have hM7 : Mk w (frontV max ls (i + 1)) v7 w7 := by
                rw [hnx.out]
                exact Mk.of hown7 (hbL.trans hb7)
              clear hown7 hb7
              go_wp2
              go_roundw
              case rel => exact ⟨i + 1, by omega, by go_num, hM7⟩
              case measure => simp [intOf]; omega
        · have hkN : i = N := by omega
          subst hkN
          have HM := Lib.hid hM
          clear hM
          go_wp2
          go_ret
          exact HM.out.owned

set_option maxHeartbeats 1600000 in
theorem refOf_min (A : Option Addr) (n c : Nat) (vs : List Value) (ls : List (List Nat)) (w : World) (hn : n ≤ 1000) (hlong : longN ls ≤ 1000) (hl : vs.length = n) (h : Lies w w.heap.size A vs) (hr : VecRows w w.heap.size vs ls) :
    Calls Try.prog 21 #[.bool false, .slice A n c] w (OwnedV w w.heap.size (foldV min ls)) := by
  have HL := Lib.hid hl
  have HR := Lib.hid hr
  unfold foldV
  generalize hN : longN ls = N at hlong
  have HN := Lib.hid hN
  have hM0 : Mk w (frontV min ls 0) (.slice (some ⟨w.heap.size, 0, none⟩) 0 0) (w.alloc (.cells #[] 23)) :=
    Mk.of (n := 0) (World.ownsRow_lit w #[] 0 (Nat.le_refl _) (Nat.zero_le _) rfl) ((Below.refl _ _).alloc (Nat.le_refl _) _)
  clear hl hr hN
  go_enter Try.func21, Try.ntmps21
  go_wp2
  generalize hw1 : w.alloc (.cells #[] 23) = w1 at hM0 ⊢
  have hb1 := hM0.below
  have hL1 := h.below hb1
  have HR1 := Lib.hid (HR.out.below hb1)
  clear hw1
  go_loop [6, 7, 15] (fun s6 _ i => ∃ k : Nat, k ≤ n ∧ i = .int .i64 k ∧ s6 = .int .i64 (longN (ls.take k) : Int)) (fun _ _ i => n - (intOf i).toNat)
  case atStart => exact ⟨0, Nat.zero_le _, rfl, rfl⟩
  case round =>
    obtain ⟨k, hk, rfl, rfl⟩ := hrel
    by_cases hlt : k < n
    · have hk1 : k < vs.length := by rw [HL.out]; exact hlt
      have hk2 : k < ls.length := by rw [← HR.out.1]; exact hk1
      obtain ⟨Ar, nr, cr, hvr, hlr, _, _, hLr⟩ := HR1.out.2 k hk1 hk2
      obtain ⟨b, off, rfl, hb, hc⟩ := hL1.at_ (List.getElem?_eq_getElem hk1)
      rw [hvr] at hc
      have HS := Lib.hid (longN_snoc ls k hk2)
      rw [hlr] at HS
      clear hvr hlr hLr hM0
      generalize longN (ls.take k) = q at HS
      by_cases hm : q < nr
      · have HM : Hid (longN (ls.take (k + 1)) = nr) := by rw [HS.out]; exact Nat.max_eq_right (by omega)
        clear HS
        go_wp2
        go_round
        case rel => exact ⟨k + 1, by omega, by go_num, by rw [HM.out]⟩
        case measure => simp [intOf]; omega
      · have HM : Hid (longN (ls.take (k + 1)) = q) := by rw [HS.out]; exact Nat.max_eq_left (by omega)
        clear HS
        go_wp2
        go_round
        case rel => exact ⟨k + 1, by omega, by go_num, by rw [HM.out]⟩
        case measure => simp [intOf]; omega
    · have HA : Hid (longN (ls.take k) = N) := by
        rw [List.take_of_length_le (by rw [← HR.out.1, HL.out]; omega)]
        exact HN
      rw [HA.out]
      go_wp2
      go_loopw [5, 8, 9, 10, 11] (fun v s8 _ _ _ wr => ∃ (k : Nat), k ≤ N ∧ s8 = .int .i64 k ∧ Mk w (frontV min ls k) v wr) (fun _ s8 _ _ _ _ => N - (intOf s8).toNat)
      case atStart => exact ⟨0, Nat.zero_le _, rfl, hM0⟩
      case round =>
        clear hM0 hL1 HR1 hb1 hlt hk
        obtain ⟨i, hi, rfl, hM⟩ := hrel
        obtain ⟨wo, rfl⟩ : ∃ wo : World, wo = wr := ⟨_, rfl⟩
        by_cases hlt : i < N
        · have hp : 0 < ls.length := by
            rcases ls with _ | ⟨x, t⟩
            · have := HN.out; simp [longN] at this; omega
            · simp
          have hp1 : 0 < vs.length := by rw [HR.out.1]; exact hp
          have hpn : 0 < n := by rw [← HL.out]; exact hp1
          have hb := hM.below
          have HR2 := Lib.hid (HR.out.below hb)
          have hL2 := h.below hb
          obtain ⟨A0, n0, c0, hv0, hl0, _, _, hL0⟩ := HR2.out.2 0 hp1 hp
          obtain ⟨b, off, rfl, hbb, hc⟩ := hL2.at_ (List.getElem?_eq_getElem hp1)
          rw [hv0, Nat.add_zero] at hc
          have hat := refAt_nat A0 n0 c0 i w.heap.size ls[0] wo hl0 hL0
          have HF : Hid (num ls[0] i = ofN min ls i 0) := by
            rcases ls with _ | ⟨x, t⟩
            · simp at hp
            · rfl
          have HF2 := Lib.hid (ofN_next min ls i)
          have HF3 := Lib.hid (ofN_all min (fun x => Nat.min_self x) ls i)
          rw [HF.out] at hat
          obtain ⟨L, hoL, hbL, hLL⟩ := id hM
          have hLx : L ≤ 1000 := by have := hLL.out; rw [frontV_length] at this; omega
          clear hv0 hl0 hL0 hM HF
          go_wp2_with fail
          refine hat.mono ?_
          rintro e w1 ⟨rfl, rfl⟩
          clear hat
          go_wp2
          go_loop [9, 10, 11, 43] (fun s9 _ _ s43 => ∃ (j : Nat), j ≤ n ∧ s43 = .int .i64 j ∧ s9 = .int .u64 (ofN min ls i j : Int)) (fun _ _ _ s43 => n - (intOf s43).toNat)
          case atStart => exact ⟨0, Nat.zero_le _, rfl, rfl⟩
          case round =>
            obtain ⟨j, hj, rfl, rfl⟩ := hrel
            by_cases hjl : j < n
            · have hj1 : j < vs.length := by rw [HL.out]; exact hjl
              have hj2 : j < ls.length := by rw [← HR.out.1]; exact hj1
              obtain ⟨Ar, nr, cr, hvr, hlr, _, _, hLr⟩ := HR2.out.2 j hj1 hj2
              obtain ⟨b', off', he, _, hcj⟩ := hL2.at_ (List.getElem?_eq_getElem hj1)
              injection he with he
              injection he with e1 e2
              subst e1 e2
              rw [hvr] at hcj
              have hat := refAt_nat Ar nr cr i w.heap.size ls[j] wo hlr hLr
              have hstep := Lib.hid (HF2.out j hj2)
              generalize num ls[j] i = y at hat hstep
              generalize ofN min ls i j = x at hstep ⊢
              clear hvr hlr hLr
              by_cases hxy : y < x
              · have HS : Hid (ofN min ls i (j + 1) = y) := by rw [hstep.out]; show min x y = y; omega
                clear hstep
                go_wp2_with fail
                refine hat.mono ?_
                rintro e w1 ⟨rfl, rfl⟩
                clear hat
                go_wp2
                go_round
                case rel => exact ⟨j + 1, by omega, by go_num, by rw [HS.out]⟩
                case measure => simp [intOf]; omega
              · have HS : Hid (ofN min ls i (j + 1) = x) := by rw [hstep.out]; show min x y = x; omega
                clear hstep
                go_wp2_with fail
                refine hat.mono ?_
                rintro e w1 ⟨rfl, rfl⟩
                clear hat
                go_wp2
                go_round
                case rel => exact ⟨j + 1, by omega, by go_num, by rw [HS.out]⟩
                case measure => simp [intOf]; omega
            · rw [HF3.out j (by rw [← HR.out.1, HL.out]; omega)]
              have hnx := Lib.hid (frontV_next min ls i)
              generalize foldN min ls i = x at hnx ⊢
              have hsz : w.heap.size ≤ wo.heap.size := hb.size
              clear hL2 HR2 HF2 HF3 hc
              go_wp2_with (at_builtin; refine wpList_push rfl (.tmp 69) (.tmp 71) rfl w.heap.size L (frontV min ls i) x _ rfl rfl hoL hLx hsz ?_)
              intro v7 w7 hown7 hb7
              have hM7 : Mk w (frontV min ls (i + 1)) v7 w7 := by
                rw [hnx.out]
                exact Mk.of hown7 (hbL.trans hb7)
              clear hown7 hb7
              go_wp2
              go_roundw
              case rel => exact ⟨i + 1, by omega, by go_num, hM7⟩
              case measure => simp [intOf]; omega
        · have hkN : i = N := by omega
          subst hkN
          have HM := Lib.hid hM
          clear hM
          go_wp2
          go_ret
          exact HM.out.owned

end Go.Proofs.Ytjhdaddemeegmaa
