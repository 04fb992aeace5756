/- The walk of NumReads, where the bytes and the asks are few. -/
import Derived.Test.YthpdcoodfjficaaRefC
import Derived.Test.YthpdcoodfjficaaReadO
import Derived.Test.YthpdcoodfjficaaNumK
import Derived.Deep.Cut
import Derived.Deep.CutRange
import Derived.Deep.RegionHeld3
namespace Go.Proofs.Ythpdcoodfjficaa
open Go.RowKit

/-- A store into a block below its own leaves a reader as it is. -/
theorem Rd.low {w : World} {lo hi g er : Nat} {l : List UInt8} (h : Rd w lo hi g l er) {b i : Nat} (hb : b < lo) (u : Value) : Rd (w.setCell ⟨b, i, none⟩ u) lo hi g l er := by
  obtain ⟨A, n, c, h1, h2, h3, h4, h5, h6, h7, h8, h9⟩ := h
  refine ⟨A, n, c, (Below.heap_setCell w _ u g (by simp; omega)).trans h1, h2, h3, h4, h5, ?_, h7, h8, by simpa [World.setCell] using h9⟩
  exact h6.kept (grown_setCell w b i u) h9 (fun a ha e => by have := (h7 a ha).2; injection e with e; omega)

theorem row_left (l : List UInt8) (er : Nat) (most : Int) : (rowOf l er most).2.1.length ≤ l.length := by
  unfold rowOf
  split
  · exact Nat.le_refl _
  · split
    · exact Nat.le_refl _
    · simp

/-- Block q holds the reference's reader, before which l stands, with the error er; its bytes lie below B. -/
def MBox (wr : World) (B q : Nat) (l : List UInt8) (er : Nat) : Prop :=
  ∃ A n c, wr.heap[q]? = some (.cells #[.slice A n c, .int .i64 er] 38 (0, 0)) ∧ Hid (l.length = n) ∧ n ≤ c ∧ Lies wr B A (bvs l)

/-- Both readers stand before l, with the error er. -/
def Both (w wr : World) (lo U g q : Nat) (l : List UInt8) (er : Nat) : Prop :=
  Rd wr lo U g l er ∧ MBox wr w.heap.size q l er ∧ Below w.heap.size w wr ∧ l.length ≤ 600 ∧ U ≤ q ∧ q < wr.heap.size ∧ w.heap.size ≤ lo

theorem Both.start {w wr : World} {lo U g n c : Nat} {A : Option Addr} {l : List UInt8} (hR : Rd wr lo U g l 0) (hb : Below w.heap.size w wr) (hl : l.length = n) (hn : n ≤ 600) (hc : n ≤ c) (h : Lies w w.heap.size A (bvs l)) (hlo : w.heap.size ≤ lo) :
    Both w (wr.alloc (.cells #[.slice A n c, .int .i64 0] 38)) lo U g wr.heap.size l 0 := by
  have hU := hR.lt.2.2
  exact ⟨hR.below ((Below.refl _ _).alloc hU _), ⟨A, n, c, heap_alloc_new wr _, hl, hc, (h.below hb).below ((Below.refl _ _).alloc hb.size _)⟩, hb.alloc hb.size _, by omega, hU, by simp, hlo⟩

/-- What the world is when the reference has been asked, and its answer kept. -/
theorem asked {w wr w7 : World} {lo U g q n' c' er er' : Nat} {A' : Option Addr} {lm : List UInt8} {oa o : Obj} (h : Both w wr lo U g q lm er) (hb7 : Below (wr.alloc oa).heap.size (wr.alloc oa) w7) :
    Below wr.heap.size wr w7 ∧ Below U wr (((w7.setCell ⟨q, 0, none⟩ (.slice A' n' c')).setCell ⟨q, 1, none⟩ (.int .i64 er')).alloc o) ∧ Below w.heap.size w7 (((w7.setCell ⟨q, 0, none⟩ (.slice A' n' c')).setCell ⟨q, 1, none⟩ (.int .i64 er')).alloc o) ∧ q < w7.heap.size ∧ wr.heap.size < w7.heap.size ∧
    w7.frozen? ⟨q, 0, none⟩ = false ∧ w7.frozen? ⟨q, 1, none⟩ = false ∧ w7.heap[wr.heap.size]? = some oa := by
  obtain ⟨hR, ⟨A, n, c, hbox, _⟩, hb, _, hUq, hqs, hwl⟩ := h
  obtain ⟨hl1, hl2, hl3⟩ := hR.lt
  have hs7 := hb7.size
  simp at hs7
  have h7 : Below wr.heap.size wr w7 := ((Below.refl _ _).alloc (Nat.le_refl _) oa).trans (hb7.mono (by simp))
  have hwU : w.heap.size ≤ wr.heap.size := hb.size
  have hbox7 := (h7.block q hqs).trans hbox
  refine ⟨h7, ?_, ?_, by omega, by omega, row_frozen hbox7 0, row_frozen hbox7 1, (hb7.block wr.heap.size (by simp)).trans (heap_alloc_new wr oa)⟩
  · refine ((((h7.mono hl3).setCell (p := ⟨q, 0, none⟩) hUq _).setCell (p := ⟨q, 1, none⟩) hUq _).alloc ?_ o)
    rw [size_setCell, size_setCell]; omega
  · have hwq : w.heap.size ≤ q := by omega
    refine ((((Below.refl w.heap.size w7).setCell (p := ⟨q, 0, none⟩) hwq _).setCell (p := ⟨q, 1, none⟩) hwq _).alloc ?_ o)
    rw [size_setCell, size_setCell]; omega

theorem Both.next {w wr w7 w10 : World} {lo U g q n' c' er er' : Nat} {A' : Option Addr} {lm l' : List UInt8} {oa o : Obj} (h : Both w wr lo U g q lm er) (hb7 : Below (wr.alloc oa).heap.size (wr.alloc oa) w7)
    (hn : Hid (l'.length = n')) (hc : n' ≤ c') (hL : Lies w7 w.heap.size A' (bvs l')) (hl : l'.length ≤ 600) (hR : Rd w10 lo U g l' er')
    (hg : (((w7.setCell ⟨q, 0, none⟩ (.slice A' n' c')).setCell ⟨q, 1, none⟩ (.int .i64 er')).alloc o).grownBy w10 (some g)) : Both w w10 lo U g q l' er' := by
  obtain ⟨h7, hU9, hw9, hq7, _, _, _, _⟩ := asked (A' := A') (n' := n') (c' := c') (er' := er') (o := o) h hb7
  obtain ⟨hR0, ⟨A, n, c, hbox, _⟩, hb, _, hUq, hqs, hwl⟩ := h
  obtain ⟨hl1, hl2, hl3⟩ := hR0.lt
  have hb1 := (h7.block q hqs).trans hbox
  have hb2 := heap_setCell_row (heap_setCell_row hb1 0 (.slice A' n' c')) 1 (.int .i64 er')
  have hs9 : q < ((w7.setCell ⟨q, 0, none⟩ (.slice A' n' c')).setCell ⟨q, 1, none⟩ (.int .i64 er')).heap.size := by rw [size_setCell, size_setCell]; exact hq7
  have hb3 : (((w7.setCell ⟨q, 0, none⟩ (.slice A' n' c')).setCell ⟨q, 1, none⟩ (.int .i64 er')).alloc o).heap[q]? = some (.cells #[.slice A' n' c', .int .i64 er'] 38 (0, 0)) := by
    rw [Below.heap_alloc _ _ _ hs9, hb2]; rfl
  have hb4 := (hg.block q (by rw [World.size_alloc]; omega) (by rintro e; injection e with e; omega)).trans hb3
  have hwg : w.heap.size ≤ g := Nat.le_trans hwl hl1
  have hs0 : w.heap.size ≤ (((w7.setCell ⟨q, 0, none⟩ (.slice A' n' c')).setCell ⟨q, 1, none⟩ (.int .i64 er')).alloc o).heap.size := Nat.le_trans (Nat.le_trans hb.size h7.size) hw9.size
  have hgb := below_of_grown hg hwg hs0
  refine ⟨hR, ⟨A', n', c', hb4, hn, hc, (hL.below hw9).below hgb⟩, ((hb.trans (h7.mono hb.size)).trans hw9).trans hgb, hl, hUq, ?_, hwl⟩
  have := hg.size
  rw [World.size_alloc] at this
  omega

theorem Both.below {w wr w' : World} {lo U g q er : Nat} {l : List UInt8} (h : Both w wr lo U g q l er) (hb : Below wr.heap.size wr w') : Both w w' lo U g q l er := by
  obtain ⟨hR, ⟨A, n, c, hbox, hn, hc, hL⟩, h1, h2, h3, h4, h5⟩ := h
  exact ⟨hR.below (hb.mono hR.lt.2.2), ⟨A, n, c, (hb.block q h4).trans hbox, hn, hc, hL.below (hb.mono h1.size)⟩, h1.trans (hb.mono h1.size), h2, h3, Nat.lt_of_lt_of_le h4 hb.size, h5⟩

theorem took_below {w wr w7 W9 w10 : World} {lo U g er n : Nat} {lm : List UInt8} (hwd : Below w.heap.size w7 W9) (hg : W9.grownBy w10 (some g)) (hR : Rd wr lo U g lm er) (hwl : w.heap.size ≤ lo) (hb : Below w.heap.size w wr) (h7 : Below n wr w7) : Below w.heap.size w7 w10 :=
  hwd.trans (below_of_grown hg (Nat.le_trans hwl hR.lt.1) (Nat.le_trans (Nat.le_trans hb.size h7.size) hwd.size))

set_option maxRecDepth 100000 in
set_option maxHeartbeats 4000000 in
theorem numReads_walk (A0 A : Option Addr) (n0 c0 n c : Nat) (l : List UInt8) (w : World) (hl0 : l.length = n0) (hn0 : n0 ≤ 600) (hc0 : n0 ≤ c0 ∧ c0 ≤ maxLen) (h0 : Lies w w.heap.size A0 (bvs l)) (hn : n ≤ 60)
    (R : Nat → Bool) (M : Nat → Int) (T : Nat → Nat) (hA : AskLies w A n R M T) (hM : ∀ i, i < n → -9223372036854775808 ≤ M i ∧ M i ≤ 9223372036854775807) (hT : ∀ i, i < n → T i < 18446744073709551616) :
    Calls Try.prog 4 #[.slice A0 n0 c0, .slice A n c] w fun e w' => e = .returned (.bool true) ∧ Below w.heap.size w w' := by
  obtain ⟨i0, hi, hz0, hz1, hz2⟩ := info_parts Try.info5
  have HL0 := Lib.hid hl0
  have hd0 : decide (600 < (n0 : Int)) = false := by simp; omega
  have hd : decide (60 < (n : Int)) = false := by simp; omega
  have HM := Lib.hid hM
  have HT := Lib.hid hT
  have HA := Lib.hid hA
  clear hl0 hM hT hA
  go_enter Try.func4, Try.ntmps4
  go_wp2_with (at_builtin; refine wpList_append_lst rfl _ _ 22 rfl w.heap.size 5 i0 (.int .u8 0) 1 Try.underlying22 hi hz0 hz1 hz2 rfl _ 0 _ rfl (World.ownsRow_lit w _ 0 (Nat.le_refl _) (Nat.zero_le _) rfl) _ A0 n0 c0 (bvs l) rfl ?e0 (h0.below ((Below.refl _ _).alloc (Nat.le_refl _) _)) (bvs_one _) ?e2 ?e3 ?e4 ?_)
  case e0 => rw [bvs_length]; exact HL0.out
  case e2 => unfold maxLen; omega
  case e3 => omega
  case e4 => simp
  intro v3 w3 hown3 hg3 hb3 _
  obtain ⟨A3, c3, hv3, hc3, _⟩ := own_slice hown3
  subst hv3
  have hb3' : Below w.heap.size w w3 := ((Below.refl _ _).alloc (Nat.le_refl _) _).trans hb3
  clear hg3 hb3
  have hL3 := Lies.of_own hown3
  have hOq : Hid (∀ q, (Value.slice A3 n0 c3).ownBlock = some q → w.heap.size ≤ q ∧ q < w3.heap.size) := fun q hq => hown3.lt q hq
  go_wp2_with (go_at_call 15; refine (new_any A3 n0 c3 l _ HL0.out (by omega) hL3).mono ?_; rintro e w4 ⟨g, rfl, hR4, hb4⟩)
  have hown4 := own_below hown3 hb4
  have hb4' : Below w.heap.size w w4 := hb3'.trans (hb4.mono hb3'.size)
  have hlo := hb3'.size
  generalize w3.heap.size = lo at hR4 hOq hlo
  generalize w4.heap.size = U at hR4
  clear hL3 hown3 hb3' hb4
  go_loopw [7] (fun i wr => ∃ (k : Nat) (xs : List Value), k ≤ n0 ∧ i = .int .i64 k ∧ wr.ownsRow w.heap.size 5 1 (.slice A3 n0 c3) n0 xs ∧ Rd wr lo U g l 0 ∧ Below w.heap.size w wr) (fun i _ => n0 - (intOf i).toNat)
  case atStart => exact ⟨0, _, Nat.zero_le _, rfl, hown4, hR4, hb4'⟩
  case round =>
    obtain ⟨k, xs, hk, rfl, hownr, hRr, hbr⟩ := hrel
    by_cases hlt : k < n0
    · obtain ⟨g3, cap3, hv, _, _⟩ := hownr.form (by omega)
      obtain ⟨rfl, rfl⟩ : A3 = some ⟨g3, 0, none⟩ ∧ c3 = cap3 := by injection hv with e1 _ e3; exact ⟨e1, e3⟩
      have hq3 := hOq.out g3 rfl
      obtain ⟨u, hcell⟩ : ∃ u, wr.cell? ⟨g3, k, none⟩ = some u := by
        have hxl := own_len hownr
        exact ⟨xs[k]'(by omega), by rw [hownr.cellAt k (by omega), List.getElem?_eq_getElem]⟩
      have hfr := hownr.frozenAt k
      have hst := hownr.stored k (.int .u8 99)
      clear hv
      go_wp2
      go_roundw
      case rel => exact ⟨k + 1, _, by omega, by go_num, hst.1, hRr.low hq3.2 _, hbr.setCell (p := ⟨g3, k, none⟩) hq3.1 _⟩
      case measure => simp [intOf]; omega
    · clear hownr hOq hown4 hR4 hb4'
      have hBoth := Both.start hRr hbr HL0.out hn0 hc0.1 h0 hlo
      have hq : U ≤ wr.heap.size := hRr.lt.2.2
      clear hRr hbr
      go_wp2
      generalize wr.heap.size = q at hBoth hq ⊢
      go_loopw [9] (fun i ws => ∃ (j : Nat) (lm : List UInt8) (er : Nat), j ≤ n ∧ i = .int .i64 j ∧ Both w ws lo U g q lm er) (fun i _ => n - (intOf i).toNat)
      case atStart => exact ⟨0, l, 0, Nat.zero_le _, rfl, hBoth⟩
      case round =>
        clear hBoth
        obtain ⟨j, lm, er, hj, rfl, hB⟩ := hrel
        by_cases hlt2 : j < n
        · obtain ⟨hR1, ⟨Am, nm, cm, hbox, hnm, hcm, hLm⟩, hb1, hlm, hUq, hqs, hwl⟩ := id hB
          obtain ⟨b, off, rfl, hbA, hcA⟩ := HA.out.below hb1 (by omega)
          obtain ⟨k0, k1, k2⟩ := hcA j hlt2
          have HB := Lib.hid hB
          have HK := Lib.hid hcA
          have hm0 := cell_of_row wr q 0 _ _ _ hbox
          have hm1 := cell_of_row wr q 1 _ _ _ hbox
          simp only [List.getElem?_toArray, List.getElem?_cons_zero, List.getElem?_cons_succ] at hm0 hm1
          have hbA2 : b < wr.heap.size := Nat.lt_of_lt_of_le hbA hb1.size
          clear hB hcA
          have hnm6 : nm ≤ 600 := by have := hnm.out; omega
          generalize R j = rj at k0
          have hMj := HM.out j hlt2
          have hTj := HT.out j hlt2
          generalize M j = mj at k1 hMj
          generalize T j = tj at k2 hTj
          have HMJ := Lib.hid hMj
          have HTJ := Lib.hid hTj
          clear hMj hTj
          obtain ⟨m1, l1, e1, hrn⟩ : ∃ m1 l1 e1, rnum lm er tj = (m1, l1, e1) := ⟨_, _, _, rfl⟩
          obtain ⟨r2, l2, e2, hro⟩ : ∃ r2 l2 e2, rowOf lm er mj = (r2, l2, e2) := ⟨_, _, _, rfl⟩
          have hl1 : l1.length ≤ 600 := by have := rnum_left lm er tj; rw [hrn] at this; simp only at this; omega
          have hl2 : l2.length ≤ 600 := by have := row_left lm er mj; rw [hro] at this; simp only at this; omega
          have QR : Hid (∀ W : World, Below wr.heap.size wr W → Calls Try.prog 16 #[.agg #[.slice Am nm cm, .int .i64 er], .int .i64 mj] W (RRow W w.heap.size r2 l2 e2)) := by
            intro W hW
            have := refRRow_any Am w.heap.size nm cm er mj lm W hnm.out hcm (hLm.below (hW.mono hb1.size)) (Nat.le_trans hb1.size hW.size) (by omega) HMJ.out.2
            rw [hro] at this
            exact this
          have QN : Hid (∀ W : World, Below wr.heap.size wr W → Calls Try.prog 18 #[.agg #[.slice Am nm cm, .int .i64 er], .int .u64 tj] W (RNum W w.heap.size m1 l1 e1)) := by
            intro W hW
            have := refRNum_any Am w.heap.size nm cm er tj lm W hnm.out hcm (hLm.below (hW.mono hb1.size)) (Nat.le_trans hb1.size hW.size) (by omega)
            rw [hrn] at this
            exact this
          have QM : Hid (∀ W : World, Rd W lo U g lm er → Calls Try.prog 19 #[.pointer (some ⟨g, 0, none⟩), .int .u64 tj] W (Took W lo U g l1 e1 (.int .u64 m1))) := by
            intro W hW
            have := num_any tj hW
            rw [hrn] at this
            exact this
          have QW : Hid (∀ W : World, Rd W lo U g lm er → Calls Try.prog 17 #[.pointer (some ⟨g, 0, none⟩), .int .i64 mj] W (TookRow W lo U g r2 l2 e2)) := by
            intro W hW
            have := row_any mj HMJ.out hW (by omega)
            rw [hro] at this
            exact this
          clear hrn hro
          have hbo : Below wr.heap.size wr (wr.alloc (.cells #[.bool rj, .int .i64 mj, .int .u64 tj] 40)) := (Below.refl _ _).alloc (Nat.le_refl _) _
          go_upto_if 51 with (fail)
          go_cut [11, 12, 13, 14] from 40 to 101 (fun _ _ _ _ wx => ∃ (l' : List UInt8) (er' : Nat), Both w wx lo U g q l' er')
          case first =>
            rcases rj with _ | _
            · go_wp2_with (first
                | (go_at_call 18; refine (QN.out _ hbo).mono ?_; intro e w7 ho; obtain ⟨A7, n7, c7, rfl, hn7, hc7, hL7, hb7, _⟩ := ho; obtain ⟨h7, hU9, hw9, hq7, ha7, f0, f1, hoa⟩ := asked (A' := A7) (n' := n7) (c' := c7) (er' := e1) (o := .cells #[.slice A7 n7 c7, .int .i64 e1] 38) HB.out hb7; have a2 := cell_of_row w7 wr.heap.size 2 _ _ _ hoa; simp only [List.getElem?_toArray, List.getElem?_cons_zero, List.getElem?_cons_succ] at a2; have q0 := (h7.cell (p := ⟨q, 0, none⟩) hqs).trans hm0; have q1 := (h7.cell (p := ⟨q, 1, none⟩) hqs).trans hm1; have hqne : q ≠ wr.heap.size := by omega)
                | (go_at_call 19; refine (QM.out _ (hR1.below hU9)).mono ?_; rintro e w10 ⟨rfl, hR10, hg10⟩))
              go_meet
              exact ⟨l1, e1, HB.out.next hb7 hn7 hc7 hL7 hl1 hR10 hg10⟩
            · go_wp2_with (first
                | (go_at_call 16; refine (QR.out _ hbo).mono ?_; intro e w7 ho; obtain ⟨Ar, nr, cr, A7, n7, c7, rfl, hnr, hLr, hn7, hc7, hL7, hb7⟩ := ho; obtain ⟨h7, hU9, hw9, hq7, ha7, f0, f1, hoa⟩ := asked (A' := A7) (n' := n7) (c' := c7) (er' := e2) (o := .cells #[.slice A7 n7 c7, .int .i64 e2] 38) HB.out hb7; have a1 := cell_of_row w7 wr.heap.size 1 _ _ _ hoa; simp only [List.getElem?_toArray, List.getElem?_cons_zero, List.getElem?_cons_succ] at a1; have q0 := (h7.cell (p := ⟨q, 0, none⟩) hqs).trans hm0; have q1 := (h7.cell (p := ⟨q, 1, none⟩) hqs).trans hm1; have hqne : q ≠ wr.heap.size := by omega))
              have kW : ∀ W : World, Below w.heap.size w7 W → (convert 22 9 (.slice Ar nr cr)).run Try.prog W = .ok (.string (str r2)) W := fun W hW => strs_of hnr.out (hLr.below hW) cr
              have hwd := hw9.drew
              go_region_with (go_at_call 17; refine (QW.out _ (hR1.below hU9).drew).mono ?_; intro e w10 hT; obtain ⟨A6, n6, c6, rfl, hn6, hL6, hR10, hg10⟩ := hT; have hcv6 := strs_of hn6.out hL6 c6; have hw10 := took_below hwd hg10 hR1 hwl hb1 h7)
              all_goals
                go_wp2_with fail
                go_meet
                exact ⟨l2, e2, HB.out.next hb7 hn7 hc7 hL7 hl2 hR10 ⟨hg10.os, hg10.tape, hg10.output, hg10.size, hg10.block⟩⟩
          case rest =>
            clear HB HK hm0 hm1 hbox hnm hLm hR1 hb1 QR QN QM QW hbo HMJ HTJ k0 k1 k2 hnm6 hl1 hl2 hlm hqs hbA2
            obtain ⟨l', er', hB2⟩ := hcut
            obtain ⟨hR2, ⟨A2, n2, c2, hbox, hn2, hc2, hL2⟩, hb2, hl2, _, hqs2, _⟩ := id hB2
            obtain ⟨A4, n4, c4, hR5⟩ := hR2
            have hnn : n2 = n4 := by rw [← hn2.out, ← hR5.2.2.1.out]
            subst hnn
            have HB2 := Lib.hid hB2
            have hm0 := cell_of_row wc q 0 _ _ _ hbox
            have hm1 := cell_of_row wc q 1 _ _ _ hbox
            simp only [List.getElem?_toArray, List.getElem?_cons_zero, List.getElem?_cons_succ] at hm0 hm1
            clear hB2
            have hqd : q < wc.drew.heap.size := hqs2
            go_wp2
            go_region_held3 (fun w' => w'.cell? ⟨q, 0, none⟩ = some (.slice A2 n2 c2) ∧ w'.cell? ⟨q, 1, none⟩ = some (.int .i64 er')) (first | exact ⟨hm0, hm1⟩ | exact ⟨hx0, hx1⟩ | go_keep)
              (first
                | (go_at_call 20; refine (err_any hR5.drew).mono ?_; rintro e w' ⟨rfl, rfl⟩)
                | (go_at_call 21; refine (left_any hR5.drew).mono ?_; rintro e w' ⟨rfl, rfl⟩)
                | (go_at_call 22; refine (end_any hR11).mono ?_; rintro e w' ⟨rfl, rfl⟩)
                | (go_at_call 22; refine (end_any hR5.drew).mono ?_; rintro e w' ⟨rfl, rfl⟩)
                | (go_at_call 23; refine (refREnd_any A2 n2 c2 er' _).mono ?_; rintro e w11 ⟨rfl, hb11⟩; have hR11 := hR5.drew.below (hb11.mono hR5.hiLe); have hx0 := (hb11.cell (p := ⟨q, 0, none⟩) hqd).trans hm0; have hx1 := (hb11.cell (p := ⟨q, 1, none⟩) hqd).trans hm1))
            all_goals
              have hBE := HB2.out.below ⟨hb11.os, hb11.tape, hb11.output, hb11.size, hb11.block⟩
              go_wp2
              go_roundw
              case rel => first
                | exact ⟨j + 1, l', er', by omega, by go_num, hBE⟩
                | ((repeat apply Exists.intro); exact ⟨⟨j + 1, l', er', by omega, by go_num, hBE⟩, rfl⟩)
              case measure => simp [intOf]; omega
        · obtain ⟨_, _, hb1, _⟩ := id hB
          go_wp2_with (go_at_call 9; refine (awake_any _).mono ?_; rintro e w9 ⟨rfl, hb9⟩)
          go_ret
          exact ⟨rfl, hb1.trans (hb9.mono hb1.size)⟩

end Go.Proofs.Ythpdcoodfjficaa
