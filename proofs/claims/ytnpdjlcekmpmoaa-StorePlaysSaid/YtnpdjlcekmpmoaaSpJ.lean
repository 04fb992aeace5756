/- Stage 14: an act of kind 0. -/
import Derived.Test.YtnpdjlcekmpmoaaSpI
set_option maxRecDepth 20000
namespace Go.Proofs.Ytnpdjlcekmpmoaa
open Go.RowKit Go.Sort Go.Maps Go.ChangeShapes Go.WideShapes Go.ChangeAt

section
variable {w : World} {base g mb fb : Nat} {D : Nat → Prop} {A A2 : Option Addr} {c c2 : Nat} {m : Sm}
set_option maxHeartbeats 12800000 in
theorem does_put (h : StAt w base g mb fb m D) (hr : RsAt w D A c A2 c2 m) (x : Id) (Ab : Option Addr) (cb : Nat) (b : List UInt8) (Au : Option Addr) (cu un : Nat) (hbn : b.length ≤ 200) (hL : Lies w w.heap.size Ab (bvs b)) (hlen : m.l.length ≤ 1000) :
    Calls Try.prog 11 #[sptr g, .agg (rsCells A c A2 c2 m), .agg #[.int .i64 0, .int .u8 (x.f : Int), .int .u64 (x.s : Int), .slice Ab b.length cb, .slice Au un cu]] w (DidS w base g mb fb D (m.put x b)) := by
  have mixed := mixedOrders
  have HST := Lib.hid h
  have HRS := Lib.hid hr
  have HL := Lib.hid hL
  have HEX : Hid (∃ N rm L bn, m.n = N ∧ m.room = rm ∧ m.l.length = L ∧ b.length = bn) := ⟨_, _, _, _, rfl, rfl, rfl, rfl⟩
  obtain ⟨i0, hi, hz0, hz1, hz2⟩ := info_parts Try.info5
  have HDB : Hid (∀ k, D k → k < w.heap.size) := fun k hk => (h.din k hk).2
  clear h hr hL
  have hgs : rsCells A c A2 c2 m = #[.int .i64 (m.n : Int), .int .i64 (m.room : Int), .slice A m.l.length c, .slice A2 m.n c2] := rfl
  rw [hgs]
  clear hgs
  obtain ⟨N, rm, L, bn, e1, e2, e3, e4⟩ := HEX.out
  have HEE := Lib.hid (show m.n = N ∧ m.room = rm ∧ m.l.length = L ∧ b.length = bn from ⟨e1, e2, e3, e4⟩)
  rw [e1, e2, e3, e4]
  rw [e4] at hbn
  clear e1 e2 e3 e4 HEX
  unfold sptr
  go_enter Try.func11, Try.ntmps11
  go_upto_region 3 with fail
  generalize hw0 : World.alloc (World.alloc (World.alloc w _) _) _ = w0
  have BB0 := Lib.hid (show DBx w #[.int .i64 (N : Int), .int .i64 (rm : Int), .slice A L c, .slice A2 N c2] #[.int .i64 0, .int .u8 (x.f : Int), .int .u64 (x.s : Int), .slice Ab bn cb, .slice Au un cu] zeroS w0 ∧ RowKit.Below w.heap.size w w0 from DBx.start hw0)
  have B0 := Lib.hid BB0.out.1
  clear hw0
  have hs0 := B0.out.lt
  have x3 := B0.out.ca (i := 3) rfl
  have hs1 : w.heap.size + 1 < w0.heap.size := by omega
  have hoe : (w0.alloc (.cells #[] 5)).ownsRow w0.heap.size 5 1 (.slice (some ⟨w0.heap.size, 0, none⟩) 0 0) 0 [] := World.ownsRow_lit w0 #[] 0 (Nat.le_refl _) (Nat.zero_le _) rfl
  have hle : Lies (w0.alloc (.cells #[] 5)) w.heap.size Ab (bvs b) := HL.out.below (BB0.out.2.alloc BB0.out.2.size _)
  go_wp2_with (first | (at_builtin; refine wpList_append_lst rfl (.tmp 25) (.tmp 27) 34 rfl w0.heap.size 5 i0 (.int .u8 0) 1 Try.underlying34 hi hz0 hz1 hz2 rfl _ 0 [] rfl hoe _ _ _ _ (bvs b) rfl ?d0 hle (bvs_one _) ?d2 ?d3 ?d4 ?_) | fail)
  case d0 => rw [bvs_length]; exact HEE.out.2.2.2
  case d2 => unfold maxLen; omega
  case d3 => omega
  case d4 => simp
  intro v1 w1 hown1 _ hb1 _
  obtain ⟨Ao, co, rfl, hoc, hocm⟩ := own_slice hown1
  have hb01 : RowKit.Below w0.heap.size w0 w1 := (alloc_below w0 _).trans hb1
  have B1 := Lib.hid (B0.out.on hb01)
  have hbw1 : RowKit.Below w.heap.size w w1 := BB0.out.2.trans (hb01.mono BB0.out.2.size)
  have HOW1 := Lib.hid hown1
  have HB1 := Lib.hid hbw1
  have HW01 := Lib.hid hb01.size
  clear hoe hle x3 hs1 hb1 hb01 hown1 hbw1
  -- from here on the own bytes' block may turn
  obtain ⟨D1, hD1⟩ : ∃ D1 : Nat → Prop, D1 = fun k => D k ∨ (Value.slice Ao bn co).ownBlock = some k ∨ k = w.heap.size + 2 := ⟨_, rfl⟩
  have hob : ∀ k, (Value.slice Ao bn co).ownBlock = some k → w0.heap.size ≤ k ∧ k < w1.heap.size := fun k hk => HOW1.out.lt k hk
  have hw1 : w0.heap.size ≤ w1.heap.size := HW01.out
  have ST1 : Hid (StAt w1 base g mb fb m D1) := by
    subst hD1
    refine HST.out.grow HB1.out (fun k hk => .inl hk) fun k hk => ?_
    have hlo := HST.out.lo
    rcases hk with hk | hk | hk
    · exact ⟨(HST.out.din k hk).1, Nat.lt_of_lt_of_le (HST.out.din k hk).2 HB1.out.size, .inl hk⟩
    · have := hob k hk
      exact ⟨by omega, this.2, .inr (by omega)⟩
    · subst hk
      exact ⟨by omega, by omega, .inr (by omega)⟩
  have RS1 : Hid (RsAt w1 D1 A c A2 c2 m) := by
    subst hD1
    refine (HRS.out.widen fun k hk => ?_).on HB1.out
    rcases hk with hk | hk | hk
    · exact .inr hk
    · have := hob k hk
      exact .inl (by omega)
    · exact .inl (by omega)
  have HD1 : Hid ((∀ k, D1 k → k < w1.heap.size) ∧ (∀ k, D k → D1 k) ∧ (∀ k, (Value.slice Ao bn co).ownBlock = some k → D1 k) ∧ D1 (w.heap.size + 2) ∧ (∀ k, (Value.slice Ao bn co).ownBlock = some k → w.heap.size + 3 ≤ k)) := by
    subst hD1
    refine ⟨fun k hk => ?_, fun k hk => .inl hk, fun k hk => .inr (.inl hk), .inr (.inr rfl), fun k hk => Nat.le_trans hs0 (hob k hk).1⟩
    rcases hk with hk | hk | hk
    · exact Nat.lt_of_lt_of_le (HDB.out k hk) HB1.out.size
    · exact (hob k hk).2
    · omega
  clear hD1 HRS B0 BB0 hob hs0 hw1
  have x0 := B1.out.c (i := 0) rfl
  have x1 := B1.out.c (i := 1) rfl
  have x2 := B1.out.c (i := 2) rfl
  have x3 := B1.out.c (i := 3) rfl
  have y1 := B1.out.ca (i := 1) rfl
  have y2 := B1.out.ca (i := 2) rfl
  have P1 := refPut_any RS1.out ST1.out.ok x b (A3 := Ao) (n := bn) (c3 := co) (by omega) HEE.out.2.2.2 (Lies.of_own HOW1.out) hlen
  have P1 : Calls Try.prog 26 #[.agg #[.int .i64 (N : Int), .int .i64 (rm : Int), .slice A L c, .slice A2 N c2], .agg #[.int .u8 (x.f : Int), .int .u64 (x.s : Int)], .slice Ao bn co] w1 (GotS w1 A c A2 c2 m (m.put x b) (.bool (m.takes x b))) := by
    have e : rsCells A c A2 c2 m = #[.int .i64 (N : Int), .int .i64 (rm : Int), .slice A L c, .slice A2 N c2] := by unfold rsCells; rw [HEE.out.1, HEE.out.2.1, HEE.out.2.2.1]
    rw [← e]
    exact P1
  have HP1 := Lib.hid P1
  clear P1
  go_wp2_with fail
  refine HP1.out.mono ?_
  rintro e w2 ⟨A4, c4, A5, c5, rfl, hb2, hk2⟩
  have RS2 := Lib.hid (hk2 D1 HD1.out.1 RS1.out)
  have ST2 := Lib.hid (ST1.out.on hb2)
  have B2 := Lib.hid (B1.out.on hb2)
  have HO2 := Lib.hid (own_below HOW1.out hb2)
  have HB2 := Lib.hid (HB1.out.trans (hb2.mono HB1.out.size))
  have HB12 := Lib.hid hb2
  clear hb2 hk2 x0 x1 x2 x3 y1 y2 HP1 RS1 ST1
  have hgs2 : rsCells A4 c4 A5 c5 (m.put x b) = #[.int .i64 ((m.put x b).n : Int), .int .i64 ((m.put x b).room : Int), .slice A4 (m.put x b).l.length c4, .slice A5 (m.put x b).n c5] := rfl
  obtain ⟨N', e5⟩ : ∃ N', (m.put x b).n = N' := ⟨_, rfl⟩
  obtain ⟨rm', e6⟩ : ∃ rm', (m.put x b).room = rm' := ⟨_, rfl⟩
  obtain ⟨L', e7⟩ : ∃ L', (m.put x b).l.length = L' := ⟨_, rfl⟩
  rw [e5, e6, e7] at hgs2
  have HGS2 := Lib.hid hgs2
  rw [hgs2]
  clear hgs2 e5 e6 e7
  have y1 := B2.out.ca (i := 1) rfl
  have y2 := B2.out.ca (i := 2) rfl
  go_upto_region 5 with fail
  generalize hw3 : World.alloc w2 _ = w3
  have hb3 : RowKit.Below w2.heap.size w2 w3 := hw3 ▸ alloc_below w2 _
  have NX3 : Hid (w3.heap[w2.heap.size]? = some (.cells #[.int .i64 (N' : Int), .int .i64 (rm' : Int), .slice A4 L' c4, .slice A5 N' c5] 29 (0, 0))) := by
    show _ = _
    subst hw3
    exact heap_alloc_new w2 _
  have RS3 := Lib.hid (RS2.out.on hb3)
  have ST3 := Lib.hid (ST2.out.on hb3)
  have B3 := Lib.hid (B2.out.on hb3)
  have HO3 := Lib.hid (own_below HO2.out hb3)
  have HB3 := Lib.hid (HB2.out.trans (hb3.mono HB2.out.size))
  have hs2 : w1.heap.size ≤ w2.heap.size := HB12.out.size
  clear hw3 hb3 RS2 ST2 B2 HO2 HB2 HB12 y1 y2
  have y1 := B3.out.ca (i := 1) rfl
  have y2 := B3.out.ca (i := 2) rfl
  go_wp2_with fail
  have P2 := put_any ST3.out x b (A := Ao) (n := bn) (c := co) HEE.out.2.2.2 (by omega) (Lies.of_own HO3.out) hlen
  unfold sptr valId at P2
  refine P2.mono ?_
  rintro e w4 ⟨rfl, hs4, ho4⟩
  have hdi : ∀ k, own3 g mb fb k → k < w.heap.size := fun k hk => HDB.out k (HST.out.own hk)
  have ST4 := Lib.hid hs4
  have RS4 := Lib.hid (RS3.out.kept (ho4.mono fun k hk => HD1.out.2.1 k (HST.out.own hk)))
  have B4 := Lib.hid (B3.out.only ho4 fun k hk => .inl (hdi k hk))
  have hw0s : w.heap.size + 3 ≤ w1.heap.size := by have := HD1.out.1 _ HD1.out.2.2.2.1; omega
  have HO4 : Hid (w4.ownsRow w0.heap.size 5 1 (.slice Ao bn co) bn (bvs b)) := own_only HO3.out ho4 fun k hk hx => by
    have := HD1.out.2.2.2.2 k hk
    have := hdi k hx
    omega
  have NX4 : Hid (w4.heap[w2.heap.size]? = some (.cells #[.int .i64 (N' : Int), .int .i64 (rm' : Int), .slice A4 L' c4, .slice A5 N' c5] 29 (0, 0))) := (ho4.same _ (Array.getElem?_eq_some_iff.1 NX3.out).1 fun hx => by have := hdi _ hx; omega).trans NX3.out
  have OE4 : Hid (OnlyE w w4 (own3 g mb fb)) := (OnlyE.of_below HB3.out).trans ho4
  have hgd : Hid (g < w.heap.size ∧ mb < w.heap.size ∧ fb < w.heap.size) := ⟨HDB.out _ HST.out.dg, HDB.out _ HST.out.dm, HDB.out _ HST.out.df⟩
  clear P2 hs4 ho4 ST3 RS3 B3 HO3 NX3 HB3 y1 y2 hdi HST HDB
  generalize m.takes x b = tk
  have htt : (tk == tk) = true := by simp
  have hbn0 := HEE.out.2.2.2
  clear hi hz0 hz1 hz2 HEE HL
  go_wp2_with fail
  go_loopw [12] (fun s wr => ∃ q : Nat, s = .int .i64 (q : Int) ∧ IncS w4 w0.heap.size bn q (.slice Ao bn co) wr) (fun s _ => bn - (intOf s).toNat)
  case atStart => exact ⟨0, rfl, IncS.start HO4.out⟩
  case round =>
    obtain ⟨q, rfl, hR⟩ := hrel
    by_cases hq : q < bn
    · obtain ⟨gO, c', kb, hv, hkb, hcell, hfr⟩ := hR.cell hq
      obtain ⟨rfl, rfl⟩ : Ao = some ⟨gO, 0, none⟩ ∧ co = c' := by injection hv with e1 _ e3; exact ⟨e1, e3⟩
      have hq2 : ¬ bn ≤ q := by omega
      have HR := Lib.hid hR
      clear hR hv
      go_wp2
      go_roundw
      case rel =>
        refine ⟨q + 1, by go_num, ?_⟩
        have := HR.out.step hq ((kb + 1) % 256) (Nat.mod_lt _ (by decide))
        simpa using this
      case measure => simp [intOf]; omega
    · have hq0 := hR.1
      obtain rfl : bn = q := by omega
      obtain ⟨_, _, _, _, hOO⟩ := hR
      have ST5 := Lib.hid (ST4.out.kept hOO fun k hk => .inr ⟨HD1.out.2.2.1 k hk, by have := HD1.out.2.2.2.2 k hk; have := hgd.out; omega, by have := HD1.out.2.2.2.2 k hk; have := hgd.out; omega, by have := HD1.out.2.2.2.2 k hk; have := hgd.out; omega⟩)
      have RS5 := Lib.hid (RS4.out.kept (hOO.mono fun k hk => HD1.out.2.2.1 k hk))
      have B5 := Lib.hid (B4.out.only hOO fun k hk => .inr (HD1.out.2.2.2.2 k hk))
      have NX5 : Hid (wr.heap[w2.heap.size]? = some (.cells #[.int .i64 (N' : Int), .int .i64 (rm' : Int), .slice A4 L' c4, .slice A5 N' c5] 29 (0, 0))) := (hOO.same _ (Array.getElem?_eq_some_iff.1 NX4.out).1 fun hx => by
        have := HD1.out.1 _ (HD1.out.2.2.1 _ hx)
        omega).trans NX4.out
      have OE5 : Hid (OnlyE w wr (own3 g mb fb)) := OE4.out.andNew hOO fun k hk => .inl (by have := HD1.out.2.2.2.2 k hk; omega)
      clear hOO ST4 RS4 B4 NX4 OE4 HO4 hq
      have hq3 : ¬ (bn : Int) < (bn : Int) := by omega
      obtain ⟨W5, rfl⟩ : ∃ V, V = wr := ⟨wr, rfl⟩
      go_wp2_with fail
      have hnl : w2.heap.size < W5.heap.size := (Array.getElem?_eq_some_iff.1 NX5.out).1
      have nx0 := cell_of_row W5 w2.heap.size 0 _ _ _ NX5.out
      have nx1 := cell_of_row W5 w2.heap.size 1 _ _ _ NX5.out
      have nx2 := cell_of_row W5 w2.heap.size 2 _ _ _ NX5.out
      have nx3 := cell_of_row W5 w2.heap.size 3 _ _ _ NX5.out
      simp only [List.getElem?_toArray, List.getElem?_cons_succ, List.getElem?_cons_zero] at nx0 nx1 nx2 nx3
      refine wp_region_Z 3 (fun V => RowKit.Below W5.heap.size W5 V) (by kernel_rfl) ?_
      have hHeld : RowKit.Below W5.heap.size W5 W5.drew := drewB W5
      generalize hW00 : World.drew W5 = W00 at hHeld ⊢
      clear hW00
      refine wpZ_take (i := 0) (d := 56) (v := ?_) rfl rfl (by kernel_rfl) (by kernel_rfl) (by kernel_rfl) (by kernel_rfl) (fun _ _ _ h => h) (Or.inl ⟨by rfl, ?_⟩) hHeld ?_
      rotate_left
      · (intro _ hSw; have n0 := (hSw.cell (p := ⟨w2.heap.size, 0, none⟩) hnl).trans nx0; have n1 := (hSw.cell (p := ⟨w2.heap.size, 1, none⟩) hnl).trans nx1; have n2 := (hSw.cell (p := ⟨w2.heap.size, 2, none⟩) hnl).trans nx2; have n3 := (hSw.cell (p := ⟨w2.heap.size, 3, none⟩) hnl).trans nx3; go_simp; try with_reducible rfl)
      simp only [List.setIfInBounds_toArray, List.set_cons_zero, List.set_cons_succ]
      refine wpZ_take (i := 1) (d := 57) (v := ?_) rfl rfl (by kernel_rfl) (by kernel_rfl) (by kernel_rfl) (by kernel_rfl) (fun _ _ _ h => h) (Or.inl ⟨by rfl, ?_⟩) hHeld ?_
      rotate_left
      · (intro _ hSw; have n0 := (hSw.cell (p := ⟨w2.heap.size, 0, none⟩) hnl).trans nx0; have n1 := (hSw.cell (p := ⟨w2.heap.size, 1, none⟩) hnl).trans nx1; have n2 := (hSw.cell (p := ⟨w2.heap.size, 2, none⟩) hnl).trans nx2; have n3 := (hSw.cell (p := ⟨w2.heap.size, 3, none⟩) hnl).trans nx3; go_simp; try with_reducible rfl)
      simp only [List.setIfInBounds_toArray, List.set_cons_zero, List.set_cons_succ]
      refine wpZ_take (i := 2) (d := 6) (v := ?_) rfl rfl (by kernel_rfl) (by kernel_rfl) (by kernel_rfl) (by kernel_rfl) (fun _ _ _ h => h) (Or.inl ⟨by rfl, ?_⟩) hHeld ?_
      rotate_left
      · (intro _ hSw; have n0 := (hSw.cell (p := ⟨w2.heap.size, 0, none⟩) hnl).trans nx0; have n1 := (hSw.cell (p := ⟨w2.heap.size, 1, none⟩) hnl).trans nx1; have n2 := (hSw.cell (p := ⟨w2.heap.size, 2, none⟩) hnl).trans nx2; have n3 := (hSw.cell (p := ⟨w2.heap.size, 3, none⟩) hnl).trans nx3; go_simp; try with_reducible rfl)
      simp only [List.setIfInBounds_toArray, List.set_cons_zero, List.set_cons_succ]
      have B6 := Lib.hid (B5.out.on hHeld)
      have hl6 := B6.out.lt
      have hl7 : w.heap.size + 2 < W00.heap.size := by omega
      have r0 := B6.out.cr (i := 0) rfl
      have r1 := B6.out.cr (i := 1) rfl
      have r2 := B6.out.cr (i := 2) rfl
      have r3 := B6.out.cr (i := 3) rfl
      have g0 := B6.out.fr 0
      have g1 := B6.out.fr 1
      have g2 := B6.out.fr 2
      have g3 := B6.out.fr 3
      have ST6 := Lib.hid (ST5.out.on hHeld)
      have RS6 := Lib.hid (RS5.out.on hHeld)
      have OE6 := Lib.hid (OE5.out.trans (OnlyE.of_below hHeld))
      clear hHeld
      refine wpZ_ready (rs := [3]) (by kernel_rfl) (by simp) ?_
      refine AllReadyZ.cons rfl (fun K hK => ?_) AllReadyZ.nil
      go_simp
      refine hK.out _ _ (fun h => absurd rfl h) ?_
      clear hK K
      refine wpZ_done (by kernel_rfl) ?_ _
      have HF := (((B6.out.setRes 0 (.int .i64 (N' : Int))).setRes 1 (.int .i64 (rm' : Int))).setRes 2 (.slice A4 L' c4)).setRes 3 (.slice A5 N' c5)
      have hset := set4_only W00 (w.heap.size + 2) (.int .i64 (N' : Int)) (.int .i64 (rm' : Int)) (.slice A4 L' c4) (.slice A5 N' c5)
      have S7 := Lib.hid (ST6.out.kept hset fun k hk => .inr (by have := hgd.out; subst hk; exact ⟨HD1.out.2.2.2.1, by omega, by omega, by omega⟩))
      have R7 := Lib.hid (RS6.out.kept (hset.mono fun k hk => by subst hk; exact HD1.out.2.2.2.1))
      have O7 := Lib.hid (OE6.out.andNew hset fun k hk => .inl (by omega))
      have HRES := Lib.hid HF.res
      clear hset HF
      go_wp2
      refine bodyPost_ret (results_tmp_cell rfl _ _ (w.heap.size + 2) _ rfl (load_rowS HRES.out rfl)) rfl ?_
      exact ⟨A4, c4, A5, c5, D1, by rw [HGS2.out]; rfl, S7.out, R7.out, O7.out, HD1.out.2.1⟩
end

end Go.Proofs.Ytnpdjlcekmpmoaa
