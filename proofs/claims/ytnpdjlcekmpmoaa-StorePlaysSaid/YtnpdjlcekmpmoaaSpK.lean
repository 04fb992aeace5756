/- Stage 14: an act of kind 1. -/
import Derived.Test.YtnpdjlcekmpmoaaSpI
set_option maxRecDepth 20000
namespace Go.Proofs.Ytnpdjlcekmpmoaa
open Go.RowKit Go.Sort Go.Maps Go.ChangeShapes Go.WideShapes Go.ChangeAt

section
variable {w : World} {base g mb fb : Nat} {D : Nat → Prop} {A A2 : Option Addr} {c c2 : Nat} {m : Sm}
set_option maxHeartbeats 12800000 in
theorem does_get (h : StAt w base g mb fb m D) (hr : RsAt w D A c A2 c2 m) (x : Id) (Ab : Option Addr) (cb bn0 : Nat) (Au : Option Addr) (cu un : Nat) :
    Calls Try.prog 11 #[sptr g, .agg (rsCells A c A2 c2 m), .agg #[.int .i64 1, .int .u8 (x.f : Int), .int .u64 (x.s : Int), .slice Ab bn0 cb, .slice Au un cu]] w (DidS w base g mb fb D m) := by
  have mixed := mixedOrders
  have HST := Lib.hid h
  have HRS := Lib.hid hr
  have HEX : Hid (∃ N rm L, m.n = N ∧ m.room = rm ∧ m.l.length = L) := ⟨_, _, _, rfl, rfl, rfl⟩
  have HDB : Hid (∀ k, D k → k < w.heap.size) := fun k hk => (h.din k hk).2
  have HG : Hid (∀ W, RowKit.Below w.heap.size w W → Calls Try.prog 27 #[.agg #[.int .i64 (m.n : Int), .int .i64 (m.room : Int), .slice A m.l.length c, .slice A2 m.n c2], .agg #[.int .u8 (x.f : Int), .int .u64 (x.s : Int)]] W fun e w' => e = .returned (.tuple #[.string (str (getL m.l x)), .bool (hasL m.l x)]) ∧ RowKit.Below W.heap.size W w') := fun W hW => refGet_any (hr.on hW) x
  have HSG : Hid (∀ W, RowKit.Below w.heap.size w W → Calls Try.prog 24 #[.pointer (some ⟨g, 0, none⟩), .agg #[.int .u8 (x.f : Int), .int .u64 (x.s : Int)]] W (Told W (getL m.l x) (hasL m.l x))) := fun W hW => get_any (h.on hW) x
  clear h hr
  have hgs : rsCells A c A2 c2 m = #[.int .i64 (m.n : Int), .int .i64 (m.room : Int), .slice A m.l.length c, .slice A2 m.n c2] := rfl
  rw [hgs]
  have HGS0 := Lib.hid hgs
  clear hgs
  obtain ⟨N, rm, L, e1, e2, e3⟩ := HEX.out
  rw [e1, e2, e3] at HG HGS0 ⊢
  clear e1 e2 e3 HEX
  have HHAS : Hid (∀ q, q = hasL m.l x → ∀ W, StAt W base g mb fb m D → Calls Try.prog 22 #[.pointer (some ⟨g, 0, none⟩), .slice (some ⟨W.heap.size, 0, none⟩) 1 1] (W.alloc (.cells #[.int .u8 (x.f : Int), .int .u64 (x.s : Int)] 33)) fun e w' => e = .returned (.bool q) ∧ RowKit.Below (W.alloc (.cells #[.int .u8 (x.f : Int), .int .u64 (x.s : Int)] 33)).heap.size (W.alloc (.cells #[.int .u8 (x.f : Int), .int .u64 (x.s : Int)] 33)) w') := fun q hq W hW => by
    have := has_any (hW.on (alloc_below W (.cells #[.int .u8 (x.f : Int), .int .u64 (x.s : Int)] 33))) (some ⟨W.heap.size, 0, none⟩) 1 1 [x] rfl (by omega) ((lies_new W #[.int .u8 (x.f : Int), .int .u64 (x.s : Int)] 33).more (by simp))
    rw [show [x].all (hasL m.l) = q from by rw [hq]; simp] at this
    exact this
  generalize hqq : hasL m.l x = q at HG HSG
  have HQ := Lib.hid hqq
  clear hqq
  generalize getL m.l x = gb at HG HSG
  unfold sptr
  go_enter Try.func11, Try.ntmps11
  go_upto_region 12 with fail
  generalize hw0 : World.alloc (World.alloc (World.alloc w _) _) _ = w0
  have BB0 := Lib.hid (show DBx w #[.int .i64 (N : Int), .int .i64 (rm : Int), .slice A L c, .slice A2 N c2] #[.int .i64 1, .int .u8 (x.f : Int), .int .u64 (x.s : Int), .slice Ab bn0 cb, .slice Au un cu] zeroS w0 ∧ RowKit.Below w.heap.size w w0 from DBx.start hw0)
  have B0 := Lib.hid BB0.out.1
  clear hw0
  have hs0 := B0.out.lt
  have x0 := B0.out.c (i := 0) rfl
  have x1 := B0.out.c (i := 1) rfl
  have x2 := B0.out.c (i := 2) rfl
  have x3 := B0.out.c (i := 3) rfl
  have y1 := B0.out.ca (i := 1) rfl
  have y2 := B0.out.ca (i := 2) rfl
  go_wp2_with fail
  refine (HG.out w0 BB0.out.2).mono ?_
  rintro e w1 ⟨rfl, hb1⟩
  have B1 := Lib.hid (B0.out.on hb1)
  have HB1 := Lib.hid (BB0.out.2.trans (hb1.mono BB0.out.2.size))
  have hs01 : w0.heap.size ≤ w1.heap.size := hb1.size
  clear x0 x1 x2 x3 y1 y2 hb1 B0 BB0 HG
  have y1 := B1.out.ca (i := 1) rfl
  have y2 := B1.out.ca (i := 2) rfl
  go_wp2_with fail
  refine (HSG.out w1 HB1.out).mono ?_
  rintro e w2 ⟨Ao, bn, co, rfl, hbn, hnc, hcm, ho2, hb2⟩
  have B2 := Lib.hid (B1.out.on hb2)
  have HB2 := Lib.hid (HB1.out.trans (hb2.mono HB1.out.size))
  have HO2 := Lib.hid ho2
  have hs12 : w1.heap.size ≤ w2.heap.size := hb2.size
  clear y1 y2 hb2 ho2 B1 HSG
  obtain ⟨D1, hD1⟩ : ∃ D1 : Nat → Prop, D1 = fun k => D k ∨ (Value.slice Ao bn co).ownBlock = some k ∨ k = w.heap.size + 2 := ⟨_, rfl⟩
  have hob : ∀ k, (Value.slice Ao bn co).ownBlock = some k → w1.heap.size ≤ k ∧ k < w2.heap.size := fun k hk => HO2.out.lt k hk
  have ST2 : Hid (StAt w2 base g mb fb m D1) := by
    subst hD1
    refine HST.out.grow HB2.out (fun k hk => .inl hk) fun k hk => ?_
    have hlo := HST.out.lo
    rcases hk with hk | hk | hk
    · exact ⟨(HST.out.din k hk).1, Nat.lt_of_lt_of_le (HST.out.din k hk).2 HB2.out.size, .inl hk⟩
    · have := hob k hk
      exact ⟨by omega, this.2, .inr (by omega)⟩
    · subst hk
      exact ⟨by omega, by omega, .inr (by omega)⟩
  have SD2 := Lib.hid (HST.out.on HB2.out)
  have RS2 : Hid (RsAt w2 D1 A c A2 c2 m) := by
    subst hD1
    refine (HRS.out.widen fun k hk => ?_).on HB2.out
    rcases hk with hk | hk | hk
    · exact .inr hk
    · have := hob k hk
      exact .inl (by omega)
    · exact .inl (by omega)
  have HD1 : Hid ((∀ k, D1 k → k < w2.heap.size) ∧ (∀ k, D k → D1 k) ∧ (∀ k, (Value.slice Ao bn co).ownBlock = some k → D1 k) ∧ D1 (w.heap.size + 2) ∧ (∀ k, (Value.slice Ao bn co).ownBlock = some k → w.heap.size + 3 ≤ k)) := by
    subst hD1
    refine ⟨fun k hk => ?_, fun k hk => .inl hk, fun k hk => .inr (.inl hk), .inr (.inr rfl), fun k hk => Nat.le_trans hs0 (Nat.le_trans hs01 (hob k hk).1)⟩
    rcases hk with hk | hk | hk
    · exact Nat.lt_of_lt_of_le (HDB.out k hk) HB2.out.size
    · exact (hob k hk).2
    · omega
  have hgd : Hid (g < w.heap.size ∧ mb < w.heap.size ∧ fb < w.heap.size) := ⟨HDB.out _ HST.out.dg, HDB.out _ HST.out.dm, HDB.out _ HST.out.df⟩
  have OE2 : Hid (OnlyE w w2 (own3 g mb fb)) := OnlyE.of_below HB2.out
  clear hD1 HRS hob HST HDB
  have HCV : Hid (∀ V, RowKit.Below w2.heap.size w2 V → (convert 34 9 (.slice Ao bn co)).run Try.prog V = .ok (.string (str gb)) V) := keepS_of hbn.out (Lies.of_own HO2.out)
  have hqq : (q == q) = true := by simp
  have hcv := HCV.out w2 (RowKit.Below.refl _ _)
  have y1 := B2.out.ca (i := 1) rfl
  have y2 := B2.out.ca (i := 2) rfl
  have P3 := HHAS.out q HQ.out.symm w2 SD2.out
  go_wp2_with fail
  refine P3.mono ?_
  rintro e w4 ⟨rfl, hb4⟩
  have hHeld : RowKit.Below w2.heap.size w2 w4 := (alloc_below w2 _).trans (hb4.mono (by simp))
  clear y1 y2 P3 hcv hb4
  have B4 := Lib.hid (B2.out.on hHeld)
  have ST4 := Lib.hid (ST2.out.on hHeld)
  have RS4 := Lib.hid (RS2.out.on hHeld)
  have HO4 := Lib.hid (own_below HO2.out hHeld)
  have OE4 := Lib.hid (OE2.out.trans (OnlyE.of_below hHeld))
  have hs24 : w2.heap.size ≤ w4.heap.size := hHeld.size
  clear hHeld B2 ST2 RS2 SD2 HO2 OE2 HCV HHAS hbn
  go_wp2_with fail
  go_loopw [18] (fun s wr => ∃ q' : Nat, s = .int .i64 (q' : Int) ∧ IncS w4 w1.heap.size bn q' (.slice Ao bn co) wr) (fun s _ => bn - (intOf s).toNat)
  case atStart => exact ⟨0, rfl, IncS.start HO4.out⟩
  case round =>
    obtain ⟨q', rfl, hR⟩ := hrel
    by_cases hq : q' < bn
    · obtain ⟨gO, c', kb, hv, hkb, hcell, hfr⟩ := hR.cell hq
      obtain ⟨rfl, rfl⟩ : Ao = some ⟨gO, 0, none⟩ ∧ co = c' := by injection hv with e1 _ e3; exact ⟨e1, e3⟩
      have hq2 : ¬ bn ≤ q' := by omega
      have HR := Lib.hid hR
      have hbm : bn ≤ 9223372036854775807 := by unfold maxLen at hcm; omega
      clear hR hv
      go_wp2
      go_roundw
      case rel =>
        refine ⟨q' + 1, by go_num, ?_⟩
        have := HR.out.step hq ((kb + 1) % 256) (Nat.mod_lt _ (by decide))
        simpa using this
      case measure => simp [intOf]; omega
    · have hq0 := hR.1
      obtain rfl : bn = q' := by omega
      obtain ⟨_, _, _, _, hOO⟩ := hR
      have ST5 := Lib.hid (ST4.out.kept hOO fun k hk => .inr ⟨HD1.out.2.2.1 k hk, by have := HD1.out.2.2.2.2 k hk; have := hgd.out; omega, by have := HD1.out.2.2.2.2 k hk; have := hgd.out; omega, by have := HD1.out.2.2.2.2 k hk; have := hgd.out; omega⟩)
      have RS5 := Lib.hid (RS4.out.kept (hOO.mono fun k hk => HD1.out.2.2.1 k hk))
      have B5 := Lib.hid (B4.out.only hOO fun k hk => .inr (HD1.out.2.2.2.2 k hk))
      have OE5 : Hid (OnlyE w wr (own3 g mb fb)) := OE4.out.andNew hOO fun k hk => .inl (by have := HD1.out.2.2.2.2 k hk; omega)
      clear hOO ST4 RS4 B4 OE4 HO4 hq
      have hq3 : ¬ (bn : Int) < (bn : Int) := by omega
      obtain ⟨W5, rfl⟩ : ∃ V, V = wr := ⟨wr, rfl⟩
      go_wp2_with fail
      refine wp_region_Z 3 (fun V => RowKit.Below W5.heap.size W5 V) (by kernel_rfl) ?_
      have hHeld : RowKit.Below W5.heap.size W5 W5.drew := drewB W5
      generalize hW00 : World.drew W5 = W00 at hHeld ⊢
      clear hW00
      refine wpZ_take (i := 0) (d := 104) (v := ?_) rfl rfl (by kernel_rfl) (by kernel_rfl) (by kernel_rfl) (by kernel_rfl) (fun _ _ _ h => h) (Or.inl ⟨by rfl, ?_⟩) hHeld ?_
      rotate_left
      · (intro _ hSw; have n0 := (B5.out.on hSw).c (i := 0) rfl; have n1 := (B5.out.on hSw).c (i := 1) rfl; have n2 := (B5.out.on hSw).c (i := 2) rfl; have n3 := (B5.out.on hSw).c (i := 3) rfl; go_simp; try with_reducible rfl)
      simp only [List.setIfInBounds_toArray, List.set_cons_zero, List.set_cons_succ]
      refine wpZ_take (i := 1) (d := 105) (v := ?_) rfl rfl (by kernel_rfl) (by kernel_rfl) (by kernel_rfl) (by kernel_rfl) (fun _ _ _ h => h) (Or.inl ⟨by rfl, ?_⟩) hHeld ?_
      rotate_left
      · (intro _ hSw; have n0 := (B5.out.on hSw).c (i := 0) rfl; have n1 := (B5.out.on hSw).c (i := 1) rfl; have n2 := (B5.out.on hSw).c (i := 2) rfl; have n3 := (B5.out.on hSw).c (i := 3) rfl; go_simp; try with_reducible rfl)
      simp only [List.setIfInBounds_toArray, List.set_cons_zero, List.set_cons_succ]
      refine wpZ_take (i := 2) (d := 6) (v := ?_) rfl rfl (by kernel_rfl) (by kernel_rfl) (by kernel_rfl) (by kernel_rfl) (fun _ _ _ h => h) (Or.inl ⟨by rfl, ?_⟩) hHeld ?_
      rotate_left
      · (intro _ hSw; have n0 := (B5.out.on hSw).c (i := 0) rfl; have n1 := (B5.out.on hSw).c (i := 1) rfl; have n2 := (B5.out.on hSw).c (i := 2) rfl; have n3 := (B5.out.on hSw).c (i := 3) rfl; go_simp; try with_reducible rfl)
      simp only [List.setIfInBounds_toArray, List.set_cons_zero, List.set_cons_succ]
      have B6 := Lib.hid (B5.out.on hHeld)
      have hl6 := B6.out.lt
      have hl7 : w.heap.size + 2 < W00.heap.size := by omega
      have r0 := B6.out.cr (i := 0) rfl
      have r1 := B6.out.cr (i := 1) rfl
      have r2 := B6.out.cr (i := 2) rfl
      have r3 := B6.out.cr (i := 3) rfl
      have g0 := B6.out.fr 0
      have g1 := B6.out.fr 1
      have g2 := B6.out.fr 2
      have g3 := B6.out.fr 3
      have ST6 := Lib.hid (ST5.out.on hHeld)
      have RS6 := Lib.hid (RS5.out.on hHeld)
      have OE6 := Lib.hid (OE5.out.trans (OnlyE.of_below hHeld))
      clear hHeld
      refine wpZ_ready (rs := [3]) (by kernel_rfl) (by simp) ?_
      refine AllReadyZ.cons rfl (fun K hK => ?_) AllReadyZ.nil
      go_simp
      refine hK.out _ _ (fun h => absurd rfl h) ?_
      clear hK K
      refine wpZ_done (by kernel_rfl) ?_ _
      have HF := (((B6.out.setRes 0 (.int .i64 (N : Int))).setRes 1 (.int .i64 (rm : Int))).setRes 2 (.slice A L c)).setRes 3 (.slice A2 N c2)
      have hset := set4_only W00 (w.heap.size + 2) (.int .i64 (N : Int)) (.int .i64 (rm : Int)) (.slice A L c) (.slice A2 N c2)
      have S7 := Lib.hid (ST6.out.kept hset fun k hk => .inr (by have := hgd.out; subst hk; exact ⟨HD1.out.2.2.2.1, by omega, by omega, by omega⟩))
      have R7 := Lib.hid (RS6.out.kept (hset.mono fun k hk => by subst hk; exact HD1.out.2.2.2.1))
      have O7 := Lib.hid (OE6.out.andNew hset fun k hk => .inl (by omega))
      have HRES := Lib.hid HF.res
      clear hset HF
      go_wp2
      refine bodyPost_ret (results_tmp_cell rfl _ _ (w.heap.size + 2) _ rfl (load_rowS HRES.out rfl)) rfl ?_
      exact ⟨A, c, A2, c2, D1, by rw [HGS0.out]; rfl, S7.out, R7.out, O7.out, HD1.out.2.1⟩
end

end Go.Proofs.Ytnpdjlcekmpmoaa
