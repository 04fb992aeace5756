/- StorePlays: for every number of processes, every room and every row of acts the call returns true (every act is answered as the document says, and behind each the store uses, holds and has as the document says), and changes nothing that was there. No conditions. -/
import Derived.Test.YtnpdjlcekmpmoaaSpM
import Derived.ChangeOld
namespace Go.Proofs.Ytnpdjlcekmpmoaa
open Go.ChangeShapes Go.WideShapes Go.ChangeAt Go.RowKit

theorem plays_many (a r : Int) (A : Option Addr) (n c : Nat) (w : World) (hn : 100 < n) : Calls Try.prog 3 #[.int .i64 a, .int .i64 r, .slice A n c] w fun e w' => e = .returned (.bool true) ∧ Below w.heap.size w w' := by
  have hd : decide (100 < n) = true := decide_eq_true hn
  go_enter Try.func3, Try.ntmps3
  go_wp2_with (go_at_call 8; refine (awake_any _).mono ?_; rintro e w' ⟨rfl, hb⟩)
  go_ret
  exact ⟨rfl, hb⟩

set_option maxRecDepth 20000 in
set_option maxHeartbeats 12800000 in
theorem plays_few (a r : Int) (A : Option Addr) (n c : Nat) (l : List Sa) (w : World) (hr : -9223372036854775808 ≤ r ∧ r ≤ 9223372036854775807) (hn : n ≤ 100) (hl : l.length = n) (hL : Lies w w.heap.size A (flat encSa l)) (hok : ∀ y ∈ l, SaOk w w.heap.size y) :
    Calls Try.prog 3 #[.int .i64 a, .int .i64 r, .slice A n c] w fun e w' => e = .returned (.bool true) ∧ Below w.heap.size w w' := by
  have HLen := Lib.hid hl
  have HL := Lib.hid hL
  have HOK := Lib.hid hok
  have HM0 : Hid ((Sm.new a r).l.length ≤ 0) := Nat.le_refl _
  have hd : decide (100 < n) = false := decide_eq_false (by omega)
  have HN := Lib.hid (new_any a r hr.2 w)
  have HRN := Lib.hid (fun W => refNew_any a r W hr)
  generalize Sm.new a r = m0 at HM0 HN HRN
  clear hl hL hok hr
  go_enter Try.func3, Try.ntmps3
  go_wp2_with fail
  refine HN.out.mono ?_
  rintro e w1 ⟨g, mb, fb, rfl, h1, hb1⟩
  have H1 := Lib.hid h1
  have HB1 := Lib.hid hb1
  clear h1 hb1 HN
  unfold sptr
  go_wp2_with fail
  refine (HRN.out w1).mono ?_
  rintro e w2 ⟨A2, c2, rfl, hr2, hb2⟩
  have HR2 := Lib.hid hr2
  have HB2 := Lib.hid hb2
  rw [show rsCells none 0 A2 c2 m0 = #[.int .i64 (m0.n : Int), .int .i64 (m0.room : Int), .slice none m0.l.length 0, .slice A2 m0.n c2] from rfl]
  clear hr2 hb2 HRN
  go_upto_region 4 with fail
  generalize hw3 : World.alloc w2 _ = w3
  have HS := Lib.hid (PlB.start H1.out HB1.out HB2.out HR2.out HM0.out hw3)
  clear hw3 H1 HB1 HB2 HR2 HM0
  generalize w2.heap.size = sb at HS ⊢
  go_wp2_with fail
  go_loopw [9] (fun s9 wr => ∃ i : Nat, i ≤ n ∧ s9 = .int .i64 (i : Int) ∧ ∃ D A3 c3 A4 c4 m, Hid (PlB w g mb fb sb (rsCells A3 c3 A4 c4 m) D A3 c3 A4 c4 m i wr)) (fun s9 _ => n - (intOf s9).toNat)
  case atStart => exact ⟨0, Nat.zero_le _, rfl, _, _, _, _, _, _, HS⟩
  case round =>
    obtain ⟨i, hi, rfl, D, A3, c3, A4, c4, m, HR⟩ := hrel
    clear HS
    by_cases hlt : i < n
    · have hil : i < l.length := by rw [HLen.out]; exact hlt
      obtain ⟨bb, off, rfl, hbl, e0, e1, e2, e3, e4⟩ := acts_at HL.out hil
      have HY := Lib.hid ((HOK.out _ (List.getElem_mem hil)).on HR.out.below)
      generalize l[i] = y at e0 e1 e2 e3 e4 HY
      obtain ⟨kd, x, Ab, cb, b, Au, cu, u⟩ := y
      dsimp only at e0 e1 e2 e3 e4
      have z0 := (HR.out.below.cell (p := ⟨bb, off + i * 5, none⟩) hbl).trans e0
      have z1 := (HR.out.below.cell (p := ⟨bb, off + i * 5 + 1, none⟩) hbl).trans e1
      have z2 := (HR.out.below.cell (p := ⟨bb, off + i * 5 + 2, none⟩) hbl).trans e2
      have z3 := (HR.out.below.cell (p := ⟨bb, off + i * 5 + 3, none⟩) hbl).trans e3
      have z4 := (HR.out.below.cell (p := ⟨bb, off + i * 5 + 4, none⟩) hbl).trans e4
      clear e0 e1 e2 e3 e4 hil
      by_cases hbn : 200 < b.length
      · have hdb : decide (200 < b.length) = true := decide_eq_true hbn
        clear HY
        generalize b.length = bn at *
        go_wp2_with (go_at_call 8; refine (awake_any _).mono ?_; rintro e w' ⟨rfl, hb⟩)
        go_ret
        exact ⟨rfl, HR.out.below.trans (hb.mono HR.out.below.size)⟩
      · have hdb : decide (200 < b.length) = false := decide_eq_false hbn
        by_cases hun : 100 < u.length
        · have hdu : decide (100 < u.length) = true := decide_eq_true hun
          clear HY
          generalize u.length = un at *
          generalize b.length = bn at *
          go_wp2_with (go_at_call 8; refine (awake_any _).mono ?_; rintro e w' ⟨rfl, hb⟩)
          go_ret
          exact ⟨rfl, HR.out.below.trans (hb.mono HR.out.below.size)⟩
        · have hdu : decide (100 < u.length) = false := decide_eq_false hun
          have hn3 : ¬ own3 g mb fb bb := fun h => by have := (HR.out.st.din _ (HR.out.st.own h)).1; omega
          have hbr : bb < wr.heap.size := Nat.lt_of_lt_of_le hbl HR.out.below.size
          have HT0 : Hid (∀ V, OnlyE wr V (own3 g mb fb) → _) := fun V hV => (hV.cell hbr hn3).trans z0
          have HT1 : Hid (∀ V, OnlyE wr V (own3 g mb fb) → _) := fun V hV => (hV.cell hbr hn3).trans z1
          have HT2 : Hid (∀ V, OnlyE wr V (own3 g mb fb) → _) := fun V hV => (hV.cell hbr hn3).trans z2
          have HT3 : Hid (∀ V, OnlyE wr V (own3 g mb fb) → _) := fun V hV => (hV.cell hbr hn3).trans z3
          have HT4 : Hid (∀ V, OnlyE wr V (own3 g mb fb) → _) := fun V hV => (hV.cell hbr hn3).trans z4
          have HX : Hid (∀ q u, #[.int .i64 (m.n : Int), .int .i64 (m.room : Int), .slice A3 m.l.length c3, .slice A4 m.n c4][q]? = some u → ∀ V, OnlyE wr V (own3 g mb fb) → V.cell? ⟨sb, q, none⟩ = some u) := fun q u hu V hV => (hV.cell HR.out.lt HR.out.ne).trans (HR.out.ce hu)
          have HD : Hid (∀ V D1, StAt V w.heap.size g mb fb m D1 → RsAt V D1 A3 c3 A4 c4 m → RowKit.Below wr.heap.size wr V → Calls Try.prog 11 #[.pointer (some ⟨g, 0, none⟩), .agg #[.int .i64 (m.n : Int), .int .i64 (m.room : Int), .slice A3 m.l.length c3, .slice A4 m.n c4], .agg #[.int .i64 kd, .int .u8 (x.f : Int), .int .u64 (x.s : Int), .slice Ab b.length cb, .slice Au u.length cu]] V (DidS V w.heap.size g mb fb D1 (m.act ⟨kd, x, Ab, cb, b, Au, cu, u⟩))) := fun V D1 h1 h2 hb => does_any h1 h2 ⟨kd, x, Ab, cb, b, Au, cu, u⟩ (HY.out.up HR.out.below.size hb) (by show b.length ≤ 200; omega) (by show u.length ≤ 100; omega) (by have := HR.out.len; omega)
          have HM := Lib.hid (Sm.act_len m ⟨kd, x, Ab, cb, b, Au, cu, u⟩)
          generalize m.act ⟨kd, x, Ab, cb, b, Au, cu, u⟩ = m' at HD HM
          have HNE := Lib.hid HR.out.ne
          clear HY hn3 hbr
          generalize u.length = un at *
          generalize b.length = bn at *
          go_upto_region 9 with fail
          clear z0 z1 z2 z3 z4
          go_cut [10, 11] from 22 to 88 (fun s10 s11 wx => ∃ nb D5 A5 c5 A6 c6 m1, s10 = .bool true ∧ s11 = .pointer (some ⟨nb, 0, none⟩) ∧ PlB w g mb fb nb (rsCells A5 c5 A6 c6 m1) D5 A5 c5 A6 c6 m1 (i + 1) wx ∧ wx.heap[sb]? = some (.cells (rsCells A3 c3 A4 c4 m) 29 (0, 0)) ∧ D5 sb ∧ nb ≠ sb)
          case first =>
            refine wp_region_Z 12 (fun V => OnlyE wr V (own3 g mb fb)) (by kernel_rfl) ?_
            have hHeld : OnlyE wr wr.drew (own3 g mb fb) := OnlyE.of_below (drewB wr)
            have hW : RowKit.Below wr.heap.size wr wr.drew := drewB wr
            generalize hW00 : World.drew wr = W00 at hHeld hW ⊢
            clear hW00
            refine wpZ_take (i := 0) (d := 46) (v := ?_) rfl rfl (by kernel_rfl) (by kernel_rfl) (by kernel_rfl) (by kernel_rfl) (fun _ _ _ h => h) (Or.inl ⟨by rfl, ?_⟩) hHeld ?_
            rotate_left
            · (intro _ hSw; have x0 := HX.out 0 _ rfl _ hSw; have x1 := HX.out 1 _ rfl _ hSw; have x2 := HX.out 2 _ rfl _ hSw; have x3 := HX.out 3 _ rfl _ hSw; have t0 := HT0.out _ hSw; have t1 := HT1.out _ hSw; have t2 := HT2.out _ hSw; have t3 := HT3.out _ hSw; have t4 := HT4.out _ hSw; go_simp; try with_reducible rfl)
            simp only [List.setIfInBounds_toArray, List.set_cons_zero, List.set_cons_succ]
            refine wpZ_take (i := 1) (d := 47) (v := ?_) rfl rfl (by kernel_rfl) (by kernel_rfl) (by kernel_rfl) (by kernel_rfl) (fun _ _ _ h => h) (Or.inl ⟨by rfl, ?_⟩) hHeld ?_
            rotate_left
            · (intro _ hSw; have x0 := HX.out 0 _ rfl _ hSw; have x1 := HX.out 1 _ rfl _ hSw; have x2 := HX.out 2 _ rfl _ hSw; have x3 := HX.out 3 _ rfl _ hSw; have t0 := HT0.out _ hSw; have t1 := HT1.out _ hSw; have t2 := HT2.out _ hSw; have t3 := HT3.out _ hSw; have t4 := HT4.out _ hSw; go_simp; try with_reducible rfl)
            simp only [List.setIfInBounds_toArray, List.set_cons_zero, List.set_cons_succ]
            refine wpZ_take (i := 2) (d := 48) (v := ?_) rfl rfl (by kernel_rfl) (by kernel_rfl) (by kernel_rfl) (by kernel_rfl) (fun _ _ _ h => h) (Or.inl ⟨by rfl, ?_⟩) hHeld ?_
            rotate_left
            · (intro _ hSw; have x0 := HX.out 0 _ rfl _ hSw; have x1 := HX.out 1 _ rfl _ hSw; have x2 := HX.out 2 _ rfl _ hSw; have x3 := HX.out 3 _ rfl _ hSw; have t0 := HT0.out _ hSw; have t1 := HT1.out _ hSw; have t2 := HT2.out _ hSw; have t3 := HT3.out _ hSw; have t4 := HT4.out _ hSw; go_simp; try with_reducible rfl)
            simp only [List.setIfInBounds_toArray, List.set_cons_zero, List.set_cons_succ]
            refine wpZ_take (i := 3) (d := 49) (v := ?_) rfl rfl (by kernel_rfl) (by kernel_rfl) (by kernel_rfl) (by kernel_rfl) (fun _ _ _ h => h) (Or.inl ⟨by rfl, ?_⟩) hHeld ?_
            rotate_left
            · (intro _ hSw; have x0 := HX.out 0 _ rfl _ hSw; have x1 := HX.out 1 _ rfl _ hSw; have x2 := HX.out 2 _ rfl _ hSw; have x3 := HX.out 3 _ rfl _ hSw; have t0 := HT0.out _ hSw; have t1 := HT1.out _ hSw; have t2 := HT2.out _ hSw; have t3 := HT3.out _ hSw; have t4 := HT4.out _ hSw; go_simp; try with_reducible rfl)
            simp only [List.setIfInBounds_toArray, List.set_cons_zero, List.set_cons_succ]
            refine wpZ_take (i := 4) (d := 50) (v := ?_) rfl rfl (by kernel_rfl) (by kernel_rfl) (by kernel_rfl) (by kernel_rfl) (fun _ _ _ h => h) (Or.inl ⟨by rfl, ?_⟩) hHeld ?_
            rotate_left
            · (intro _ hSw; have x0 := HX.out 0 _ rfl _ hSw; have x1 := HX.out 1 _ rfl _ hSw; have x2 := HX.out 2 _ rfl _ hSw; have x3 := HX.out 3 _ rfl _ hSw; have t0 := HT0.out _ hSw; have t1 := HT1.out _ hSw; have t2 := HT2.out _ hSw; have t3 := HT3.out _ hSw; have t4 := HT4.out _ hSw; go_simp; try with_reducible rfl)
            simp only [List.setIfInBounds_toArray, List.set_cons_zero, List.set_cons_succ]
            refine wpZ_take (i := 5) (d := 51) (v := ?_) rfl rfl (by kernel_rfl) (by kernel_rfl) (by kernel_rfl) (by kernel_rfl) (fun _ _ _ h => h) (Or.inl ⟨by rfl, ?_⟩) hHeld ?_
            rotate_left
            · (intro _ hSw; have x0 := HX.out 0 _ rfl _ hSw; have x1 := HX.out 1 _ rfl _ hSw; have x2 := HX.out 2 _ rfl _ hSw; have x3 := HX.out 3 _ rfl _ hSw; have t0 := HT0.out _ hSw; have t1 := HT1.out _ hSw; have t2 := HT2.out _ hSw; have t3 := HT3.out _ hSw; have t4 := HT4.out _ hSw; go_simp; try with_reducible rfl)
            simp only [List.setIfInBounds_toArray, List.set_cons_zero, List.set_cons_succ]
            refine wpZ_ready (rs := [6, 10]) (by kernel_rfl) (by simp) ?_
            refine AllReadyZ.cons rfl (fun K hK => ?_) (AllReadyZ.cons rfl (fun K hK => ?_) AllReadyZ.nil)
            · skip
              go_simp
              refine (HD.out W00 D (HR.out.st.on hW) (HR.out.rs.on hW) hW).mono ?_
              rintro e W1 hd1
              obtain ⟨D2, A', c', A2', c2', rfl, hP1, ho, hD⟩ := HR.out.did hW hd1 HM.out
              rw [show rsCells A' c' A2' c2' m' = #[.int .i64 (m'.n : Int), .int .i64 (m'.room : Int), .slice A' m'.l.length c', .slice A2' m'.n c2'] from rfl]
              have HP1 := Lib.hid hP1
              have HDS0 : Hid (D2 sb) := hD _ HR.out.ds
              clear hd1 hD hP1
              have hHeld2 := hHeld.trans ho
              refine hK.out _ _ (fun _ => hHeld2) ?_
              clear hK K hHeld
              have hHeld := hHeld2
              clear hHeld2
              clear ho
              refine wpZ_take (i := 7) (d := 45) (v := ?_) rfl rfl (by kernel_rfl) (by kernel_rfl) (by kernel_rfl) (by kernel_rfl) (fun _ _ _ h => h) (Or.inl ⟨by rfl, ?_⟩) hHeld ?_
              rotate_left
              · (intro _ hSw; go_simp; try with_reducible rfl)
              simp only [List.setIfInBounds_toArray, List.set_cons_zero, List.set_cons_succ]
              refine wpZ_take (i := 8) (d := 53) (v := ?_) rfl rfl (by kernel_rfl) (by kernel_rfl) (by kernel_rfl) (by kernel_rfl) (fun _ _ _ h => h) (Or.inl ⟨by rfl, ?_⟩) hHeld ?_
              rotate_left
              · (intro _ hSw; go_simp; try with_reducible rfl)
              simp only [List.setIfInBounds_toArray, List.set_cons_zero, List.set_cons_succ]
              refine wpZ_take (i := 9) (d := 54) (v := ?_) rfl rfl (by kernel_rfl) (by kernel_rfl) (by kernel_rfl) (by kernel_rfl) (fun _ _ _ h => h) (Or.inl ⟨by rfl, ?_⟩) hHeld ?_
              rotate_left
              · (intro _ hSw; go_simp; try with_reducible rfl)
              simp only [List.setIfInBounds_toArray, List.set_cons_zero, List.set_cons_succ]
              refine wpZ_ready (rs := [10]) (by kernel_rfl) (by simp) ?_
              refine AllReadyZ.cons rfl (fun K hK => ?_) AllReadyZ.nil
              go_simp
              have hHeld2 := hHeld.trans (OnlyE.of_below (alloc_below W1 (.cells #[.int .i64 0, .int .i64 0, .slice none 0 0, .slice none 0 0] 29)))
              refine hK.out _ _ (fun _ => hHeld2) ?_
              clear hK K hHeld
              have hHeld := hHeld2
              clear hHeld2
              refine wpZ_take (i := 11) (d := 10) (v := ?_) rfl rfl (by kernel_rfl) (by kernel_rfl) (by kernel_rfl) (by kernel_rfl) (fun _ _ _ h => h) (Or.inl ⟨by rfl, ?_⟩) hHeld ?_
              rotate_left
              · (intro _ hSw; go_simp; try with_reducible rfl)
              simp only [List.setIfInBounds_toArray, List.set_cons_zero, List.set_cons_succ]
              generalize hw2 : World.alloc W1 _ = W2 at hHeld ⊢
              have hP2 := HP1.out.more hw2
              have hrw : W2.heap[sb]? = some (.cells (rsCells A3 c3 A4 c4 m) 29 (0, 0)) := (HP1.out.on (hw2 ▸ alloc_below W1 _)).box
              have HNB : Hid (sb ≠ W1.heap.size) := fun e => by have := HP1.out.lt; omega
              have HDS : Hid (D2 sb ∨ sb = W1.heap.size) := .inl HDS0.out
              clear hw2 HP1
              have P2 := Lib.hid hP2
              have HRW := Lib.hid hrw
              have hl2 := hP2.lt
              have r0 := hP2.ce (q := 0) rfl
              have r1 := hP2.ce (q := 1) rfl
              have r2 := hP2.ce (q := 2) rfl
              have r3 := hP2.ce (q := 3) rfl
              have g0 := hP2.fr 0
              have g1 := hP2.fr 1
              have g2 := hP2.fr 2
              have g3 := hP2.fr 3
              clear hP2 hrw hHeld HX HT0 HT1 HT2 HT3 HT4
              refine wpZ_ready (rs := [12]) (by kernel_rfl) (by simp) ?_
              refine AllReadyZ.cons rfl (fun K hK => ?_) AllReadyZ.nil
              go_simp
              refine hK.out _ _ (fun h => absurd rfl h) ?_
              clear hK K
              refine wpZ_done (by kernel_rfl) ?_ _
              have HF := Lib.hid ((((P2.out.set 0 (.int .i64 (m'.n : Int))).set 1 (.int .i64 (m'.room : Int))).set 2 (.slice A' m'.l.length c')).set 3 (.slice A2' m'.n c2'))
              have HRF := Lib.hid (other_row 3 (.slice A2' m'.n c2') (other_row 2 (.slice A' m'.l.length c') (other_row 1 (.int .i64 (m'.room : Int)) (other_row 0 (.int .i64 (m'.n : Int)) HRW.out HNB.out) HNB.out) HNB.out) HNB.out)
              clear r0 r1 r2 r3 g0 g1 g2 g3 P2 HRW
              go_wp2_with fail
              go_meet
              case rel => exact ⟨_, _, _, _, _, _, m', rfl, rfl, HF.out, HRF.out, HDS.out, fun e => HNB.out e.symm⟩
            · skip
              go_simp
              have hHeld2 := hHeld.trans (OnlyE.of_below (alloc_below W00 (.cells #[.int .i64 0, .int .i64 0, .slice none 0 0, .slice none 0 0] 29)))
              refine hK.out _ _ (fun _ => hHeld2) ?_
              clear hK K hHeld
              have hHeld := hHeld2
              clear hHeld2
              generalize hw1 : World.alloc W00 _ = W1 at hHeld ⊢
              have hP1 := (HR.out.on hW).more hw1
              have hb1 : RowKit.Below W00.heap.size W00 W1 := hw1 ▸ alloc_below W00 _
              have hB1 : RowKit.Below wr.heap.size wr W1 := hW.trans (hb1.mono hW.size)
              have hro := HR.out.on hB1
              have HNB : Hid (sb ≠ W00.heap.size) := fun e => by have := HR.out.lt; have := hW.size; omega
              clear hw1 hb1
              refine wpZ_ready (rs := [6]) (by kernel_rfl) (by simp) ?_
              refine AllReadyZ.cons rfl (fun K hK => ?_) AllReadyZ.nil
              go_simp
              refine (HD.out W1 _ hP1.st hP1.rs hB1).mono ?_
              rintro e W2 hd1
              obtain ⟨D2, A', c', A2', c2', rfl, hP2, ho, hD⟩ := hP1.did (RowKit.Below.refl _ _) hd1 HM.out
              rw [show rsCells A' c' A2' c2' m' = #[.int .i64 (m'.n : Int), .int .i64 (m'.room : Int), .slice A' m'.l.length c', .slice A2' m'.n c2'] from rfl]
              have hrw : W2.heap[sb]? = some (.cells (rsCells A3 c3 A4 c4 m) 29 (0, 0)) := (ho.same _ hro.lt hro.ne).trans hro.box
              have HDS : Hid (D2 sb) := hD _ (.inl HR.out.ds)
              clear hd1 hD hP1 hro hB1
              have hHeld2 := hHeld.trans ho
              refine hK.out _ _ (fun _ => hHeld2) ?_
              clear hK K hHeld
              have hHeld := hHeld2
              clear hHeld2
              clear ho
              refine wpZ_take (i := 7) (d := 45) (v := ?_) rfl rfl (by kernel_rfl) (by kernel_rfl) (by kernel_rfl) (by kernel_rfl) (fun _ _ _ h => h) (Or.inl ⟨by rfl, ?_⟩) hHeld ?_
              rotate_left
              · (intro _ hSw; go_simp; try with_reducible rfl)
              simp only [List.setIfInBounds_toArray, List.set_cons_zero, List.set_cons_succ]
              refine wpZ_take (i := 8) (d := 53) (v := ?_) rfl rfl (by kernel_rfl) (by kernel_rfl) (by kernel_rfl) (by kernel_rfl) (fun _ _ _ h => h) (Or.inl ⟨by rfl, ?_⟩) hHeld ?_
              rotate_left
              · (intro _ hSw; go_simp; try with_reducible rfl)
              simp only [List.setIfInBounds_toArray, List.set_cons_zero, List.set_cons_succ]
              refine wpZ_take (i := 9) (d := 54) (v := ?_) rfl rfl (by kernel_rfl) (by kernel_rfl) (by kernel_rfl) (by kernel_rfl) (fun _ _ _ h => h) (Or.inl ⟨by rfl, ?_⟩) hHeld ?_
              rotate_left
              · (intro _ hSw; go_simp; try with_reducible rfl)
              simp only [List.setIfInBounds_toArray, List.set_cons_zero, List.set_cons_succ]
              refine wpZ_take (i := 11) (d := 10) (v := ?_) rfl rfl (by kernel_rfl) (by kernel_rfl) (by kernel_rfl) (by kernel_rfl) (fun _ _ _ h => h) (Or.inl ⟨by rfl, ?_⟩) hHeld ?_
              rotate_left
              · (intro _ hSw; go_simp; try with_reducible rfl)
              simp only [List.setIfInBounds_toArray, List.set_cons_zero, List.set_cons_succ]
              have P2 := Lib.hid hP2
              have HRW := Lib.hid hrw
              have hl2 := hP2.lt
              have r0 := hP2.ce (q := 0) rfl
              have r1 := hP2.ce (q := 1) rfl
              have r2 := hP2.ce (q := 2) rfl
              have r3 := hP2.ce (q := 3) rfl
              have g0 := hP2.fr 0
              have g1 := hP2.fr 1
              have g2 := hP2.fr 2
              have g3 := hP2.fr 3
              clear hP2 hrw hHeld HX HT0 HT1 HT2 HT3 HT4
              refine wpZ_ready (rs := [12]) (by kernel_rfl) (by simp) ?_
              refine AllReadyZ.cons rfl (fun K hK => ?_) AllReadyZ.nil
              go_simp
              refine hK.out _ _ (fun h => absurd rfl h) ?_
              clear hK K
              refine wpZ_done (by kernel_rfl) ?_ _
              have HF := Lib.hid ((((P2.out.set 0 (.int .i64 (m'.n : Int))).set 1 (.int .i64 (m'.room : Int))).set 2 (.slice A' m'.l.length c')).set 3 (.slice A2' m'.n c2'))
              have HRF := Lib.hid (other_row 3 (.slice A2' m'.n c2') (other_row 2 (.slice A' m'.l.length c') (other_row 1 (.int .i64 (m'.room : Int)) (other_row 0 (.int .i64 (m'.n : Int)) HRW.out HNB.out) HNB.out) HNB.out) HNB.out)
              clear r0 r1 r2 r3 g0 g1 g2 g3 P2 HRW
              go_wp2_with fail
              go_meet
              case rel => exact ⟨_, _, _, _, _, _, m', rfl, rfl, HF.out, HRF.out, HDS.out, fun e => HNB.out e.symm⟩
          case rest =>
            obtain ⟨nb, D5, A5, c5, A6, c6, m1, rfl, rfl, hP, hro, hds, hns⟩ := hcut
            have hS := hP.box2 hro hds HNE.out
            have HSS := Lib.hid hS
            have HNS := Lib.hid hns
            have n0 := hP.ce (q := 0) (u := .int .i64 (m1.n : Int)) rfl
            have n1 := hP.ce (q := 1) (u := .int .i64 (m1.room : Int)) rfl
            have n2 := hP.ce (q := 2) (u := .slice A5 m1.l.length c5) rfl
            have n3 := hP.ce (q := 3) (u := .slice A6 m1.n c6) rfl
            have s0 := hS.ce (q := 0) (u := .int .i64 (m.n : Int)) rfl
            have s1 := hS.ce (q := 1) (u := .int .i64 (m.room : Int)) rfl
            have s2 := hS.ce (q := 2) (u := .slice A3 m.l.length c3) rfl
            have s3 := hS.ce (q := 3) (u := .slice A4 m.n c4) rfl
            have g0 := hS.fr 0
            have g1 := hS.fr 1
            have g2 := hS.fr 2
            have g3 := hS.fr 3
            have hl1 := hP.lt
            have hl2 := hS.lt
            clear hP hS hro hds HR HD HM HT0 HT1 HT2 HT3 HT4 HX HNE
            go_upto_region 11 with fail
            have hF := (((HSS.out.set 0 (.int .i64 (m1.n : Int))).set 1 (.int .i64 (m1.room : Int))).set 2 (.slice A5 m1.l.length c5)).set 3 (.slice A6 m1.n c6)
            have HP0 : Hid (PlB w g mb fb sb (rsCells A5 c5 A6 c6 m1) D5 A5 c5 A6 c6 m1 (i + 1) _) := hF
            clear hF HSS n0 n1 n2 n3 s0 s1 s2 s3 g0 g1 g2 g3
            generalize hU : World.setCell (World.setCell (World.setCell (World.setCell _ _ _) _ _) _ _) _ _ = U at HP0 ⊢
            obtain ⟨HP, -⟩ : ∃ _ : Hid (PlB w g mb fb sb (rsCells A5 c5 A6 c6 m1) D5 A5 c5 A6 c6 m1 (i + 1) U), True := ⟨HP0, trivial⟩
            clear HP0 hU hl1 hl2 HNS
            have hln : m1.l.length ≤ 1000 := by have := HP.out.len; omega
            have hfl := HP.out.st.ok.fl
            have hn64 := HP.out.st.ok.n2
            have hus : useL m1.l ≤ 9223372036854775807 := Nat.le_trans HP.out.st.ok.use HP.out.st.ok.room
            have y0 : ∀ V, RowKit.Below U.heap.size U V → V.cell? ⟨sb, 0, none⟩ = some (.int .i64 (m1.n : Int)) := fun V hV => (HP.out.on hV).ce (q := 0) rfl
            have y1 : ∀ V, RowKit.Below U.heap.size U V → V.cell? ⟨sb, 1, none⟩ = some (.int .i64 (m1.room : Int)) := fun V hV => (HP.out.on hV).ce (q := 1) rfl
            have y2 : ∀ V, RowKit.Below U.heap.size U V → V.cell? ⟨sb, 2, none⟩ = some (.slice A5 m1.l.length c5) := fun V hV => (HP.out.on hV).ce (q := 2) rfl
            have y3 : ∀ V, RowKit.Below U.heap.size U V → V.cell? ⟨sb, 3, none⟩ = some (.slice A6 m1.n c6) := fun V hV => (HP.out.on hV).ce (q := 3) rfl
            have C1 : Hid (∀ V, RowKit.Below U.heap.size U V → Calls Try.prog 12 #[.pointer (some ⟨g, 0, none⟩)] V fun e w' => e = .returned (.int .i64 (useL m1.l : Int)) ∧ V = w') := fun V hV => used_any (HP.out.on hV).st
            have C2 : Hid (∀ V, RowKit.Below U.heap.size U V → Calls Try.prog 13 #[.agg #[.int .i64 (m1.n : Int), .int .i64 (m1.room : Int), .slice A5 m1.l.length c5, .slice A6 m1.n c6]] V fun e w' => e = .returned (.int .i64 (useL m1.l : Int)) ∧ RowKit.Below V.heap.size V w') := fun V hV => refUsed_any (HP.out.on hV).rs hus
            have C3 : Hid (∀ V, RowKit.Below U.heap.size U V → Calls Try.prog 14 #[.pointer (some ⟨g, 0, none⟩)] V fun e w' => e = .returned (.int .i64 (m1.l.length : Int)) ∧ V = w') := fun V hV => len_any (HP.out.on hV).st
            have C4 : Hid (∀ V, RowKit.Below U.heap.size U V → Calls Try.prog 16 #[.pointer (some ⟨g, 0, none⟩)] V (OwnedV V V.heap.size m1.fl)) := fun V hV => floor_any (HP.out.on hV).st
            have C5 : Hid (∀ V, RowKit.Below U.heap.size U V → Calls Try.prog 17 #[.pointer (some ⟨g, 0, none⟩)] V (OwnedV V V.heap.size m1.held)) := fun V hV => held_any (HP.out.on hV).st
            have C6 : Hid (∀ V, RowKit.Below U.heap.size U V → Calls Try.prog 18 #[.agg #[.int .i64 (m1.n : Int), .int .i64 (m1.room : Int), .slice A5 m1.l.length c5, .slice A6 m1.n c6]] V (OwnedV V V.heap.size m1.held)) := fun V hV => refHeld_any (HP.out.on hV).rs (HP.out.on hV).st.ok hln
            have HE : Hid (∀ V A7 n7 c7, RowKit.Below U.heap.size U V → m1.fl.length = n7 → Lies V V.heap.size A7 (uvs m1.fl) → Calls Try.prog 15 #[.slice A7 n7 c7, .slice A6 m1.n c6] V fun e w' => e = .returned (.bool true) ∧ RowKit.Below V.heap.size V w') := fun V A7 n7 c7 hV h1 h2 => refEqual_same A7 n7 c7 m1.fl A6 m1.n c6 V (by omega) h1 h2 hfl (HP.out.on hV).rs.floors.lies
            have HF : Hid (∀ V A8 n8 c8 A9 n9 c9, m1.held.length = n8 → Lies V V.heap.size A8 (uvs m1.held) → m1.held.length = n9 → Lies V V.heap.size A9 (uvs m1.held) → Calls Try.prog 15 #[.slice A8 n8 c8, .slice A9 n9 c9] V fun e w' => e = .returned (.bool true) ∧ RowKit.Below V.heap.size V w') := fun V A8 n8 c8 A9 n9 c9 h1 h2 h3 h4 => refEqual_same A8 n8 c8 m1.held A9 n9 c9 V (by have := Sm.held_length m1; omega) h1 h2 h3 h4
            clear hfl hn64 hus hln
            generalize useL m1.l = us at C1 C2
            have hHD : RowKit.Below U.heap.size U U.drew := (RowKit.Below.refl _ _).drew
            refine wp_region_held_drew (S := fun V => RowKit.Below U.heap.size U V) (by kernel_rfl) hHD (fun hHeld => ?_)
            clear hHD
            have hHeld : RowKit.Below U.heap.size U U.drew := (RowKit.Below.refl _ _).drew
            generalize U.drew = X0 at hHeld ⊢
            refine wpAnyH_takeAt (i := 0) (d := 56) (v := ?_) rfl rfl (by kernel_rfl) (by kernel_rfl) (by kernel_rfl) (fun _ _ _ h => h) (Or.inl ⟨by rfl, ?_⟩) hHeld ?_
            rotate_left
            · (intro _ hSw; go_simp; try with_reducible rfl)
            simp only [List.setIfInBounds_toArray, List.set_cons_zero, List.set_cons_succ]
            refine wpAnyH_takeAt (i := 1) (d := 57) (v := ?_) rfl rfl (by kernel_rfl) (by kernel_rfl) (by kernel_rfl) (fun _ _ _ h => h) (Or.inl ⟨by rfl, ?_⟩) hHeld ?_
            rotate_left
            · (intro _ hSw; go_simp; try with_reducible rfl)
            simp only [List.setIfInBounds_toArray, List.set_cons_zero, List.set_cons_succ]
            refine wpAnyH_takeAt (i := 2) (d := 58) (v := ?_) rfl rfl (by kernel_rfl) (by kernel_rfl) (by kernel_rfl) (fun _ _ _ h => h) (Or.inl ⟨by rfl, ?_⟩) hHeld ?_
            rotate_left
            · (intro _ hSw; go_simp; try with_reducible rfl)
            simp only [List.setIfInBounds_toArray, List.set_cons_zero, List.set_cons_succ]
            refine wpAnyH_takeAt (i := 3) (d := 59) (v := ?_) rfl rfl (by kernel_rfl) (by kernel_rfl) (by kernel_rfl) (fun _ _ _ h => h) (Or.inl ⟨by rfl, ?_⟩) hHeld ?_
            rotate_left
            · (intro _ hSw; go_simp; try with_reducible rfl)
            simp only [List.setIfInBounds_toArray, List.set_cons_zero, List.set_cons_succ]
            refine wpAnyH_takeAt (i := 5) (d := 61) (v := ?_) rfl rfl (by kernel_rfl) (by kernel_rfl) (by kernel_rfl) (fun _ _ _ h => h) (Or.inl ⟨by rfl, ?_⟩) hHeld ?_
            rotate_left
            · (intro _ hSw; go_simp; try with_reducible rfl)
            simp only [List.setIfInBounds_toArray, List.set_cons_zero, List.set_cons_succ]
            refine wpAnyH_ready (rs := [4]) (by kernel_rfl) (by simp) ?_
            refine AllReadyH.cons rfl (fun K hK => ?_) AllReadyH.nil
            go_simp
            refine (C1.out _ hHeld).mono ?_
            rintro e V' ⟨rfl, he⟩
            subst he
            refine hK.out _ _ hHeld (fun _ => ?_)
            clear hK K
            refine wpAnyH_ready (rs := [6]) (by kernel_rfl) (by simp) ?_
            refine AllReadyH.cons rfl (fun K hK => ?_) AllReadyH.nil
            go_simp
            refine (C2.out _ hHeld).mono ?_
            rintro e V' ⟨rfl, hb⟩
            have hH : RowKit.Below U.heap.size U V' := hHeld.trans (hb.mono hHeld.size)
            refine hK.out _ _ hH (fun _ => ?_)
            clear hK K hb hHeld
            have hHeld := hH
            clear hH
            refine wpAnyH_takeAt (i := 7) (d := 63) (v := ?_) rfl rfl (by kernel_rfl) (by kernel_rfl) (by kernel_rfl) (fun _ _ _ h => h) (Or.inl ⟨by rfl, ?_⟩) hHeld ?_
            rotate_left
            · (intro _ hSw; go_simp; try with_reducible rfl)
            simp only [List.setIfInBounds_toArray, List.set_cons_zero, List.set_cons_succ]
            refine wpAnyH_takeAt (i := 8) (d := 64) (v := ?_) rfl rfl (by kernel_rfl) (by kernel_rfl) (by kernel_rfl) (fun _ _ _ h => h) (Or.inl ⟨by rfl, ?_⟩) hHeld ?_
            rotate_left
            · (intro _ hSw; go_simp; try with_reducible rfl)
            simp only [List.setIfInBounds_toArray, List.set_cons_zero, List.set_cons_succ]
            refine wpAnyH_takeAt (i := 9) (d := 65) (v := ?_) rfl rfl (by kernel_rfl) (by kernel_rfl) (by kernel_rfl) (fun _ _ _ h => h) (Or.inl ⟨by rfl, ?_⟩) hHeld ?_
            rotate_left
            · (intro _ hSw; go_simp; try with_reducible rfl)
            simp only [List.setIfInBounds_toArray, List.set_cons_zero, List.set_cons_succ]
            refine wpAnyH_takeAt (i := 10) (d := 66) (v := ?_) rfl rfl (by kernel_rfl) (by kernel_rfl) (by kernel_rfl) (fun _ _ _ h => h) (Or.inl ⟨by rfl, ?_⟩) hHeld ?_
            rotate_left
            · (intro _ hSw; go_simp; try with_reducible rfl)
            simp only [List.setIfInBounds_toArray, List.set_cons_zero, List.set_cons_succ]
            refine wpAnyH_takeAt (i := 12) (d := 68) (v := ?_) rfl rfl (by kernel_rfl) (by kernel_rfl) (by kernel_rfl) (fun _ _ _ h => h) (Or.inl ⟨by rfl, ?_⟩) hHeld ?_
            rotate_left
            · (intro _ hSw; go_simp; try with_reducible rfl)
            simp only [List.setIfInBounds_toArray, List.set_cons_zero, List.set_cons_succ]
            refine wpAnyH_takeAt (i := 13) (d := 69) (v := ?_) rfl rfl (by kernel_rfl) (by kernel_rfl) (by kernel_rfl) (fun _ _ _ h => h) (Or.inl ⟨by rfl, ?_⟩) hHeld ?_
            rotate_left
            · (intro _ hSw; go_simp; try with_reducible rfl)
            simp only [List.setIfInBounds_toArray, List.set_cons_zero, List.set_cons_succ]
            refine wpAnyH_takeAt (i := 14) (d := 70) (v := ?_) rfl rfl (by kernel_rfl) (by kernel_rfl) (by kernel_rfl) (fun _ _ _ h => h) (Or.inl ⟨by rfl, ?_⟩) hHeld ?_
            rotate_left
            · (intro _ hSw; go_simp; try with_reducible rfl)
            simp only [List.setIfInBounds_toArray, List.set_cons_zero, List.set_cons_succ]
            refine wpAnyH_ready (rs := [11]) (by kernel_rfl) (by simp) ?_
            refine AllReadyH.cons rfl (fun K hK => ?_) AllReadyH.nil
            go_simp
            refine (C3.out _ hHeld).mono ?_
            rintro e V' ⟨rfl, he⟩
            subst he
            refine hK.out _ _ hHeld (fun _ => ?_)
            clear hK K
            refine wpAnyH_takeAt (i := 15) (d := 71) (v := ?_) rfl rfl (by kernel_rfl) (by kernel_rfl) (by kernel_rfl) (fun _ _ _ h => h) (Or.inl ⟨by rfl, ?_⟩) hHeld ?_
            rotate_left
            · (intro _ hSw; go_simp; try with_reducible rfl)
            simp only [List.setIfInBounds_toArray, List.set_cons_zero, List.set_cons_succ]
            refine wpAnyH_takeAt (i := 16) (d := 72) (v := ?_) rfl rfl (by kernel_rfl) (by kernel_rfl) (by kernel_rfl) (fun _ _ _ h => h) (Or.inl ⟨by rfl, ?_⟩) hHeld ?_
            rotate_left
            · (intro _ hSw; go_simp; try with_reducible rfl)
            simp only [List.setIfInBounds_toArray, List.set_cons_zero, List.set_cons_succ]
            refine wpAnyH_takeAt (i := 17) (d := 73) (v := ?_) rfl rfl (by kernel_rfl) (by kernel_rfl) (by kernel_rfl) (fun _ _ _ h => h) (Or.inl ⟨by rfl, ?_⟩) hHeld ?_
            rotate_left
            · (intro _ hSw; go_simp; try with_reducible rfl)
            simp only [List.setIfInBounds_toArray, List.set_cons_zero, List.set_cons_succ]
            refine wpAnyH_takeAt (i := 18) (d := 74) (v := ?_) rfl rfl (by kernel_rfl) (by kernel_rfl) (by kernel_rfl) (fun _ _ _ h => h) (Or.inl ⟨by rfl, ?_⟩) hHeld ?_
            rotate_left
            · (intro _ hSw; go_simp; try with_reducible rfl)
            simp only [List.setIfInBounds_toArray, List.set_cons_zero, List.set_cons_succ]
            refine wpAnyH_takeAt (i := 20) (d := 76) (v := ?_) rfl rfl (by kernel_rfl) (by kernel_rfl) (by kernel_rfl) (fun _ _ _ h => h) (Or.inl ⟨by rfl, ?_⟩) hHeld ?_
            rotate_left
            · (intro _ hSw; go_simp; try with_reducible rfl)
            simp only [List.setIfInBounds_toArray, List.set_cons_zero, List.set_cons_succ]
            refine wpAnyH_takeAt (i := 21) (d := 77) (v := ?_) rfl rfl (by kernel_rfl) (by kernel_rfl) (by kernel_rfl) (fun _ _ _ h => h) (Or.inl ⟨by rfl, ?_⟩) hHeld ?_
            rotate_left
            · (intro _ hSw; go_simp; try with_reducible rfl)
            simp only [List.setIfInBounds_toArray, List.set_cons_zero, List.set_cons_succ]
            refine wpAnyH_ready (rs := [19]) (by kernel_rfl) (by simp) ?_
            refine AllReadyH.cons rfl (fun K hK => ?_) AllReadyH.nil
            go_simp
            refine (C4.out _ hHeld).mono ?_
            rintro e V1 ⟨A7, n7, c7, rfl, hl7, -, -, ho7, hb⟩
            have hH : RowKit.Below U.heap.size U V1 := hHeld.trans (hb.mono hHeld.size)
            have E1 := Lib.hid (HE.out V1 A7 n7 c7 hH hl7.out (Lies.of_own ho7))
            clear ho7 hl7
            refine hK.out _ _ hH (fun _ => ?_)
            clear hK K hb hHeld
            have hHeld := hH
            clear hH
            refine wpAnyH_ready (rs := [22]) (by kernel_rfl) (by simp) ?_
            refine AllReadyH.cons rfl (fun K hK => ?_) AllReadyH.nil
            go_simp
            refine E1.out.mono ?_
            rintro e V' ⟨rfl, hb⟩
            have hH : RowKit.Below U.heap.size U V' := hHeld.trans (hb.mono hHeld.size)
            refine hK.out _ _ hH (fun _ => ?_)
            clear hK K hb hHeld
            have hHeld := hH
            clear hH
            clear E1
            refine wpAnyH_takeAt (i := 23) (d := 79) (v := ?_) rfl rfl (by kernel_rfl) (by kernel_rfl) (by kernel_rfl) (fun _ _ _ h => h) (Or.inl ⟨by rfl, ?_⟩) hHeld ?_
            rotate_left
            · (intro _ hSw; go_simp; try with_reducible rfl)
            simp only [List.setIfInBounds_toArray, List.set_cons_zero, List.set_cons_succ]
            refine wpAnyH_takeAt (i := 24) (d := 80) (v := ?_) rfl rfl (by kernel_rfl) (by kernel_rfl) (by kernel_rfl) (fun _ _ _ h => h) (Or.inl ⟨by rfl, ?_⟩) hHeld ?_
            rotate_left
            · (intro _ hSw; go_simp; try with_reducible rfl)
            simp only [List.setIfInBounds_toArray, List.set_cons_zero, List.set_cons_succ]
            refine wpAnyH_takeAt (i := 25) (d := 81) (v := ?_) rfl rfl (by kernel_rfl) (by kernel_rfl) (by kernel_rfl) (fun _ _ _ h => h) (Or.inl ⟨by rfl, ?_⟩) hHeld ?_
            rotate_left
            · (intro _ hSw; go_simp; try with_reducible rfl)
            simp only [List.setIfInBounds_toArray, List.set_cons_zero, List.set_cons_succ]
            refine wpAnyH_takeAt (i := 26) (d := 82) (v := ?_) rfl rfl (by kernel_rfl) (by kernel_rfl) (by kernel_rfl) (fun _ _ _ h => h) (Or.inl ⟨by rfl, ?_⟩) hHeld ?_
            rotate_left
            · (intro _ hSw; go_simp; try with_reducible rfl)
            simp only [List.setIfInBounds_toArray, List.set_cons_zero, List.set_cons_succ]
            refine wpAnyH_takeAt (i := 28) (d := 84) (v := ?_) rfl rfl (by kernel_rfl) (by kernel_rfl) (by kernel_rfl) (fun _ _ _ h => h) (Or.inl ⟨by rfl, ?_⟩) hHeld ?_
            rotate_left
            · (intro _ hSw; go_simp; try with_reducible rfl)
            simp only [List.setIfInBounds_toArray, List.set_cons_zero, List.set_cons_succ]
            refine wpAnyH_ready (rs := [27]) (by kernel_rfl) (by simp) ?_
            refine AllReadyH.cons rfl (fun K hK => ?_) AllReadyH.nil
            go_simp
            refine (C5.out _ hHeld).mono ?_
            rintro e V3 ⟨A8, n8, c8, rfl, hl8, -, -, ho8, hb⟩
            have hH : RowKit.Below U.heap.size U V3 := hHeld.trans (hb.mono hHeld.size)
            have L8 := Lib.hid (Lies.of_own ho8)
            clear ho8
            refine hK.out _ _ hH (fun _ => ?_)
            clear hK K hb hHeld
            have hHeld := hH
            clear hH
            refine wpAnyH_ready (rs := [29]) (by kernel_rfl) (by simp) ?_
            refine AllReadyH.cons rfl (fun K hK => ?_) AllReadyH.nil
            go_simp
            refine (C6.out _ hHeld).mono ?_
            rintro e V4 ⟨A9, n9, c9, rfl, hl9, -, -, ho9, hb⟩
            have hH : RowKit.Below U.heap.size U V4 := hHeld.trans (hb.mono hHeld.size)
            have E2 := Lib.hid (HF.out V4 A8 n8 c8 A9 n9 c9 hl8.out (L8.out.later hb) hl9.out (Lies.of_own ho9))
            clear ho9 hl9 hl8 L8
            refine hK.out _ _ hH (fun _ => ?_)
            clear hK K hb hHeld
            have hHeld := hH
            clear hH
            refine wpAnyH_ready (rs := [30]) (by kernel_rfl) (by simp) ?_
            refine AllReadyH.cons rfl (fun K hK => ?_) AllReadyH.nil
            go_simp
            refine E2.out.mono ?_
            rintro e V' ⟨rfl, hb⟩
            have hH : RowKit.Below U.heap.size U V' := hHeld.trans (hb.mono hHeld.size)
            refine hK.out _ _ hH (fun _ => ?_)
            clear hK K hb hHeld
            have hHeld := hH
            clear hH
            clear E2
            refine wpAnyH_takeAt (i := 31) (d := 87) (v := ?_) rfl rfl (by kernel_rfl) (by kernel_rfl) (by kernel_rfl) (fun _ _ _ h => h) (Or.inl ⟨by rfl, ?_⟩) hHeld ?_
            rotate_left
            · (intro _ hSw; go_simp; try with_reducible rfl)
            simp only [List.setIfInBounds_toArray, List.set_cons_zero, List.set_cons_succ]
            refine wpAnyH_takeAt (i := 32) (d := 88) (v := ?_) rfl rfl (by kernel_rfl) (by kernel_rfl) (by kernel_rfl) (fun _ _ _ h => h) (Or.inl ⟨by rfl, ?_⟩) hHeld ?_
            rotate_left
            · (intro _ hSw; go_simp; try with_reducible rfl)
            simp only [List.setIfInBounds_toArray, List.set_cons_zero, List.set_cons_succ]
            refine wpAnyH_done (by kernel_rfl) ?_ _
            have HN9 := Lib.hid (HP.out.on hHeld)
            clear hHeld C1 C2 C3 C4 C5 C6 HE HF HP y0 y1 y2 y3
            go_wp2
            go_roundw
            case rel => exact ⟨i + 1, by omega, by go_num, _, _, _, _, _, _, HN9⟩
            case measure => simp [intOf]; omega
    · go_wp2_with (go_at_call 8; refine (awake_any _).mono ?_; rintro e w' ⟨rfl, hb⟩)
      go_ret
      exact ⟨rfl, HR.out.below.trans (hb.mono HR.out.below.size)⟩

theorem own : ownKnob Try.prog.godebug = none := by kernel_rfl
theorem laidOut : laidOutB Try.prog = true := by kernel_rfl

set_option maxRecDepth 100000 in
theorem storePlays_lifted (os : Os) (started : os.Started) (H : Type) (enc : TypeId × Value → H) :
    ReturnsInHanded {} Try.checked os 3 .any (Rows.storePlaysSpec.pre6 enc Try.prog Try.f3 Rows.storePlaysRow.domain false) (Rows.storePlaysSpec.post enc Try.prog Try.f3 false true false false) := by
  refine returnsInHanded_of_change (C := Try.checked) own started (by kernel_rfl) Try.func3
    (ChangeSpec.witness6 (enc := enc) (C := Try.checked) false ⟨#[], #[.int .i64 0, .int .i64 0, .slice none 0 0], []⟩ 8 (by kernel_rfl) (by kernel_rfl) (by kernel_rfl) (by kernel_rfl)) ?_
  intro W base args ds gs before hval0 hW _ _
  have hval : ∀ (j : Nat) t v, Try.f3.params[j]? = some t → args[j]? = some v → Value.okWide Try.prog W .any base t v := hval0
  have hW' := hW
  obtain ⟨p, q, hA0, hV, rfl, _, _⟩ := hW
  have hA : DataW.TrodAll enc Try.prog W 0 (fun _ => true) true Try.f3.params.toList args.toList ds p := hA0
  rw [Try.params3] at hA hval
  obtain ⟨v0, vs0, d0, ds0, p0, q0, hargs, rfl, rfl, h0, r0⟩ := trodAll_cons hA
  obtain ⟨v1, vs1, d1, ds1, p1, q1, rfl, rfl, rfl, h1, r1⟩ := trodAll_cons r0
  obtain ⟨v2, vs2, d2, ds2, p2, q2, rfl, rfl, rfl, h2, r2⟩ := trodAll_cons r1
  obtain ⟨rfl, rfl, rfl⟩ := trodAll_nil r2
  obtain rfl : args = #[v0, v1, v2] := by cases args; simp_all
  obtain ⟨rfl, rfl⟩ := trodVars_none hV
  have k0 := h0
  have lt0 : ∀ x ∈ p0, x.block < W.heap.size := by obtain ⟨m, hm⟩ := k0; exact DataW.trod_lt m _ _ _ hm
  have k1 := h1
  have lt1 : ∀ x ∈ p1, x.block < W.heap.size := by obtain ⟨m, hm⟩ := k1; exact DataW.trod_lt m _ _ _ hm
  have k2 := h2
  have lt2 : ∀ x ∈ p2, x.block < W.heap.size := by obtain ⟨m, hm⟩ := k2; exact DataW.trod_lt m _ _ _ hm
  obtain ⟨a0, rfl, _, _, wf0⟩ := open_int Try.underlying3 (hval 0 3 v0 rfl rfl) h0
  obtain ⟨a1, rfl, _, _, wf1⟩ := open_int Try.underlying3 (hval 1 3 v1 rfl rfl) h1
  have b1 := bounds_i64 wf1
  obtain ⟨fuel2, hf2⟩ := h2
  obtain ⟨x2, len2, cap2, rfl⟩ := okWide_slice Try.underlying22 (hval 2 22 v2 rfl rfl)
  obtain ⟨l, A, n, c, hv, hl, hc, hcm, hL, hok⟩ := open_acts (by simpa [Value.cells] using hf2)
  injection hv with e1 e2 e3
  subst e1 e2 e3
  have hwalk : Calls Try.prog 3 #[.int .i64 a0, .int .i64 a1, .slice x2 len2 cap2] W fun e w' => e = .returned (.bool true) ∧ Below W.heap.size W w' := by
    by_cases hn : 100 < len2
    · exact plays_many _ _ _ _ _ W hn
    · exact plays_few a0 a1 x2 len2 cap2 l W ⟨b1.1, b1.2⟩ (by omega) hl hL hok
  clear hA0 hval0
  refine hwalk.mono fun e W' ⟨he, bel⟩ => ?_
  subst he
  exact ⟨_, rfl, _, _, _, [], _, [], hW', trodAll_mk1 (shut_bool Try.underlying4 _), (trodAll_cons_mk (Below.trod laidOut (by kernel_rfl) (of_decide_eq_true (by kernel_rfl)) k0 bel lt0) (trodAll_cons_mk (Below.trod laidOut (by kernel_rfl) (of_decide_eq_true (by kernel_rfl)) k1 bel lt1) (trodAll_cons_mk (Below.trod laidOut (by kernel_rfl) (of_decide_eq_true (by kernel_rfl)) k2 bel lt2) trodAll_mk0))), rfl, bel.frame _, fun h => by cases h⟩

theorem storePlays_proved : Rows.StorePlaysSaid :=
  OpenClaim.holds_of_wide 3 Try.f3 rfl rfl rfl rfl rfl rfl rfl ⟨rfl, rfl, rfl, rfl, rfl⟩ rfl rfl rfl rfl rfl (by kernel_rfl) Try.func3 (by kernel_rfl)
    (of_decide_eq_true (by kernel_rfl)) (by unfold Func.isWrapper; first | (rw [if_pos (by decide +kernel)]; kernel_rfl) | (rw [if_neg (by decide +kernel)]; exact ⟨rfl, rfl⟩))
    (fun os started H enc _ => storePlays_lifted os started H enc)

end Go.Proofs.Ytnpdjlcekmpmoaa
