/- Stage 13: the document's Put: a part that begins: whole (the door seat alone). -/
import Derived.Test.YthkongnjokmmfaaDoorGdK
set_option maxRecDepth 20000
namespace Go.Proofs.YthkongnjokmmfaaDoor
open Go.RowKit Go.Sort

section
variable {w : World} {D : Nat → Prop} {A : Option Addr} {n c : Nat} {R : List Rp} {m : Gm}
set_option maxRecDepth 100000 in
set_option maxHeartbeats 3200000 in
theorem refPut_wanted_whole (h : RgAt w D A n c R m) (hn : n ≤ 500000) (h6 : m.counts.length = 6) (hwt : m.weight ≤ 50000) (F : Fr) (fc : Array Value) (hF : FrL w F fc) (hw : F.Wf) (hmay : mayB F.id = true) (hrig : rightZ F m.chunk m.most = true) (m1 : Gm) (hm1 : m1 = { m with l := (evict m.room F.size m.l).1 ++ [newPart F.id F.size F.of_], counts := bump m.counts 3 (evict m.room F.size m.l).2 }) (hato : F.at_ < F.of_) (hD : ∀ k, D k → k < w.heap.size) (hz : fndZ m.l F.id = -1) (hu : usedL m.l ≤ m.room) (hrm : m.room ≤ 9223372036854775807) (hsr : F.size ≤ m.room) (hof : F.of_ ≤ 2000000) (hfull : ((newPart F.id F.size F.of_).putCut F.at_ F.data).full = true) (hfl : ((newPart F.id F.size F.of_).cuts.set F.at_ F.data).flatten.length ≤ 10000000000000) (hroom : m.room < usedL m.l + F.size) (hwt2 : F.id = m.wanted) :
    Calls Tryd.prog 9 #[.agg (rgCells (.slice A n c) m), .agg fc] w (PutQ w D { m1 with l := m1.l.eraseIdx (evict m.room F.size m.l).1.length, counts := bump m1.counts 5 1 } ((newPart F.id F.size F.of_).putCut F.at_ F.data).cuts.flatten 5) := by
  obtain ⟨W0, hW0⟩ : ∃ W0, W0 = ((w.alloc (.cells (rgCells (.slice A n c) m) 32)).alloc (.cells fc 41)).alloc (.cells rgZero 32) := ⟨_, rfl⟩
  have hS := PuS.start h fc hW0
  have HS : Hid (PuS w D fc A n c R m W0) := Lib.hid hS
  have HF : Hid (FrL w F fc) := Lib.hid hF
  have HMY : Hid (∀ W, Calls Tryd.prog 24 #[valId F.id, .int .i64 64] W fun e w' => e = .returned (.bool true) ∧ RowKit.Below W.heap.size W w') := fun W => (refMay_any F.id 64 W (by omega)).mono fun e w' ⟨h1, h2⟩ => ⟨by rw [h1, ← hmay]; congr 2; unfold mayB; rw [Bool.eq_iff_iff]; simp only [Bool.and_eq_true, decide_eq_true_eq]; omega, h2.below⟩
  have HRI : Hid (∀ W, RowKit.Below w.heap.size w W → Calls Tryd.prog 25 #[.agg fc, .int .i64 (m.chunk : Int), .int .i64 (m.most : Int)] W fun e w' => e = .returned (.bool true) ∧ RowKit.Below W.heap.size W w') := fun W hW => by rw [← hrig]; exact refRight_any F fc m.chunk m.most W (hF.on hW) hw
  have HFI : Hid (∀ W, PuS w D fc A n c R m W → Calls Tryd.prog 26 #[.agg (rgCells (.slice A n c) m), valId F.id] W fun e w' => e = .returned (.int .i64 (-1)) ∧ RowKit.Below W.heap.size W w') := fun W hW => by rw [← hz]; exact refFind_any hW.at_ (by omega) F.id
  have hfsz : fc.size = 16 := hF.size
  obtain ⟨gc, hgc⟩ : ∃ gc, rgCells (.slice A n c) m = gc := ⟨_, rfl⟩
  have HGC : Hid (rgCells (.slice A n c) m = gc) := Lib.hid hgc
  have HGZ : Hid (gc.size = 12) := by show gc.size = 12; rw [← hgc]; exact rg_size _ _
  have HW0 := Lib.hid (show W0 = ((w.alloc (.cells gc 32)).alloc (.cells fc 41)).alloc (.cells rgZero 32) by rw [← hgc]; exact hW0)
  obtain ⟨-, -, -, b3, b4, -, b6, b7, b8, -, -⟩ := hF.at_
  have x3 := hS.fcell 3 _ b3
  have x4 := hS.fcell 4 _ b4
  rw [hgc] at HFI ⊢
  unfold valId at HMY HFI
  unfold rgZero at HW0
  have hsz := hS.size
  have B3 := Lib.hid b3
  have B4 := Lib.hid b4
  have B6 := Lib.hid b6
  have B7 := Lib.hid b7
  have B8 := Lib.hid b8
  clear hS hF hW0 hgc h hmay hrig b3 b4 b6 b7 b8 hz
  have HWT2 := Lib.hid hwt2
  clear hwt2
  go_enter Tryd.func9, Tryd.ntmps9
  go_upto_region 1 with fail
  rw [← HW0.out]
  go_wp2_with fail
  refine (HMY.out _).mono ?_
  rintro e w1 ⟨rfl, hb1⟩
  have hs1 := HS.out.on hb1
  have HS1 := Lib.hid hs1
  have HF1 := Lib.hid hs1.f
  have x0 := hs1.gc 0 (.int .i64 (m.chunk : Int)) rfl
  have x1 := hs1.gc 1 (.int .i64 (m.most : Int)) rfl
  have HR1 := Lib.hid (HRI.out w1 hs1.below)
  clear x3 x4 hb1 HMY HRI hs1 HW0 HS
  go_wp2_with (first | ((with_reducible_and_instances refine load_frame_on (.tmp 3) ?_ ?_ HF1.out hfsz ?_); exact rfl; exact rfl) | fail)
  refine HR1.out.mono ?_
  rintro e w2 ⟨rfl, hb2⟩
  have hs2 := HS1.out.on hb2
  have HS2 := Lib.hid hs2
  have HG2 := Lib.hid (HGC.out ▸ hs2.g : w2.heap[w.heap.size]? = some (.cells gc 32 (0, 0)))
  have x3 := hs2.fcell 3 _ B3.out
  have x4 := hs2.fcell 4 _ B4.out
  have HF2 := Lib.hid (HFI.out w2 hs2)
  clear x0 x1 hb2 HR1 HF1 HFI hs2 HS1
  go_wp2_with (first | ((with_reducible_and_instances refine load_Rg (.tmp 2) ?_ HG2.out HGZ.out ?_); exact rfl) | fail)
  refine HF2.out.mono ?_
  rintro e w3 ⟨rfl, hb3⟩
  have hs3 := HS2.out.on hb3
  have HS3 := Lib.hid hs3
  clear x3 x4 hb3 HF2 HG2 HS2
  clear hs3
  go_upto_region 5 with fail
  go_quiet (fail)
  have hs4 := HS3.out.on (below_drewN (RowKit.Below.refl w3.heap.size w3) nq)
  generalize hwd3 : w3.drewN nq = w4 at hs4 ⊢
  have HS4 := Lib.hid hs4
  clear hwd3 HS3
  clear hs4
  go_upto_region 8 with fail
  go_quiet (fail)
  have hs5 := HS4.out.on (below_drewN (RowKit.Below.refl w4.heap.size w4) nq)
  generalize hwd4 : w4.drewN nq = w5 at hs5 ⊢
  have HS5 := Lib.hid hs5
  clear hwd4 HS4
  have hfs : F.size < 4294967296 := hw.size
  have y3 := hs5.fl 3 _ B3.out
  have y4 := hs5.fl 4 _ B4.out
  have y8 := hs5.fl 8 _ B8.out
  obtain ⟨q0, q1, q2, q3, q4, q5, x0, x1, x2, x3, x4, x5, x6, x7, x8, x9, x10, x11, hus⟩ := hs5.whole (by omega)
  have hnn : 0 ≤ m.room := Nat.zero_le _
  
  clear hs5
  go_upto_region 11 with fail
  have hd : decide (((m.room : Int) - (usedL m.l : Int)) < (F.size : Int)) = true := decide_eq_true (by omega)
  have he := fun W' => neqId F.id m.wanted W'
  rw [decide_eq_true HWT2.out, Bool.not_true] at he
  have hgd := guardId
  generalize (F.id.f : Int) = ff at y3 he
  generalize (F.id.s : Int) = ss at y4 he
  clear hroom
  refine wp_region_later mixedOrders (by kernel_rfl) ?_
  repeat (go_big_quiet_step (first | (go_at_call 15; exact hus _) | fail))
  refine wpQuiet_nil ?_
  intro _ hw'
  obtain ⟨p6, rfl⟩ := hw'
  have HS6 := Lib.hid (HS5.out.on p6.hb)
  generalize p6.w = w6 at HS6 ⊢
  clear x0 x1 x2 x3 x4 x5 x6 x7 x8 x9 x10 x11 y3 y4 y8 hus HS5
  clear hgd he
  go_wp2_with fail
  go_loopw [117] (fun _ wr => ∃ k A1 n1 c1 mk, Hid (EvS w D fc R m F.size k A1 n1 c1 mk wr)) (fun _ wr => lenAt wr w.heap.size)
  case atStart => exact ⟨0, A, n, c, m, EvS.start HS6.out h6⟩
  case round =>
    obtain ⟨k0, A1, n1, c1, mk, hE⟩ := hrel
    have HE := hE
    have hE := hE.out
    have hmr : mk.room = m.room := by rw [hE.m_eq]; rfl
    have hml : mk.l = m.l.drop k0 := by rw [hE.m_eq]; rfl
    have hmu : usedL mk.l ≤ m.room := by rw [hml]; have := usedL_drop m.l k0; omega
    have hn1 : n1 ≤ 500000 := by have := hE.n_eq; have := HS6.out.at_.len; omega
    have hmz : 0 < n1 ∨ usedL mk.l = 0 := by
      rcases Nat.eq_zero_or_pos n1 with h0 | h0
      · right
        have h9 := hE.s.at_.mlen
        rw [h0] at h9
        rw [List.eq_nil_of_length_eq_zero h9]
        rfl
      · exact .inl h0
    have y8 := hE.s.fl 8 _ B8.out
    have hfs : F.size < 4294967296 := hw.size
    obtain ⟨q0, q1, q2, q3, q4, q5, x0, x1, x2, x3, x4, x5, x6, x7, x8, x9, x10, x11, hus⟩ := hE.s.whole (by omega)
    have HSE := Lib.hid hE.s
    rw [hmr] at x2 hus
    have HMZ := Lib.hid hmz
    have HNOW : Hid (m.room < usedL mk.l + F.size → m.room < usedL mk.l + F.size) := id
    have HNO2 : Hid (¬ m.room < usedL mk.l + F.size → ¬ m.room < usedL mk.l + F.size) := id
    have hrm2 := hrm
    by_cases hroom : m.room < usedL mk.l + F.size
    · have hpos : 0 < n1 := by rcases hmz with h | h <;> omega
      have HNO := Lib.hid hroom
      have hd : decide (((m.room : Int) - (usedL mk.l : Int)) < (F.size : Int)) = true := decide_eq_true (by omega)
      have hrm3 : (usedL mk.l : Int) ≤ (m.room : Int) := by omega
      clear hmz hE hroom hmr hml HNOW HNO2
      generalize usedL mk.l = us at hus hd hmu hrm3
      generalize m.room = rm at x2 hus hd hmu hrm2 hrm3
      have HBE : Hid (∀ V, RowKit.Below wr.heap.size wr V → RowKit.Below wr.heap.size wr V) := fun _ h => h
      go_upto_region 15 with fail
      refine wp_region_later mixedOrders (by kernel_rfl) ?_
      repeat (go_big_quiet_step (first | (go_at_call 15; exact hus _) | fail))
      refine wpQuiet_nil ?_
      intro _ hw'
      obtain ⟨p7, rfl⟩ := hw'
      have HB7 := Lib.hid p7.hb
      generalize p7.w = w7 at HB7 ⊢
      clear x0 x1 x2 x3 x4 x5 x6 x7 x8 x9 x10 x11 y8 hus
      have hs7 := HSE.out.on HB7.out
      obtain ⟨gk, hgk⟩ : ∃ gk, rgCells (.slice A1 n1 c1) mk = gk := ⟨_, rfl⟩
      have HGR := Lib.hid (hgk ▸ hs7.g : w7.heap[w.heap.size]? = some (.cells gk 32 (0, 0)))
      have HGKZ : Hid (gk.size = 12) := by show gk.size = 12; rw [← hgk]; exact rg_size _ _
      have hwo := refWithout_any hs7.at_ (by omega) (hs7.lt hD) 0 hpos
      rw [hgk] at hwo
      have HWO := Lib.hid hwo
      have hsz7 := hs7.size
      clear hs7 hwo hgk hmu hd hrm3 HBE
      go_wp2_with (first | ((with_reducible_and_instances refine load_Rg (.tmp 2) ?_ HGR.out HGKZ.out ?_); exact rfl) | fail)
      refine HWO.out.mono ?_
      rintro e w8 ⟨A2, c2, rfl, hR8, hb8⟩
      have hb78 : RowKit.Below wr.heap.size wr w8 := HB7.out.trans (hb8.mono HB7.out.size)
      obtain ⟨v9, f9, hq, hE9⟩ := HE.out.next h6 HNO.out hb78 hpos hR8
      have HGR8 := Lib.hid ((hb8.block _ (by omega)).trans HGR.out)
      obtain ⟨ds, hds⟩ : ∃ ds, rgCells (.slice A2 (n1 - 1) c2) { mk with l := mk.l.eraseIdx 0 } = ds := ⟨_, rfl⟩
      have HDZ : Hid (ds.size = 12) := by show ds.size = 12; rw [← hds]; exact rg_size _ _
      have HD1 : Hid (ds.all (·.oneCell') = true) := by show ds.all (·.oneCell') = true; rw [← hds]; exact rg_one _ _ _ _
      rw [hds] at v9 f9 hE9 ⊢
      obtain ⟨w9, hw9⟩ : ∃ w9, w9 = w8.setRow w.heap.size ds := ⟨_, rfl⟩
      rw [← hw9] at v9 f9 hE9
      have HW9 := Lib.hid hw9
      have hqb : mk.counts.getD 3 0 ≤ 2000000 := by
        have h1 := HE.out.k_le
        have h2 := HS6.out.at_.len
        have h3 := getD_le_sum m.counts 3
        unfold Gm.weight at hwt
        omega
      generalize mk.counts.getD 3 0 = q at v9 hE9 hqb
      have HE9 := Lib.hid hE9
      have HN1 := Lib.hid hpos
      clear hE9 hq hds hw9 hb8 hb78 hR8 HWO HGR hpos
      go_upto_region 17 with (first | ((with_reducible_and_instances refine store_Rg (.tmp 2) (.tmp 119) ?_ ?_ HGR8.out HGKZ.out HDZ.out HD1.out ?_); exact rfl; exact rfl) | fail)
      rw [← HW9.out]
      clear HGR8 HGKZ HDZ HD1 HW9
      go_wp2
      go_roundw
      case rel => exact ⟨k0 + 1, A2, n1 - 1, c2, evG m (k0 + 1), HE9.out⟩
      case measure =>
        have h1 := HE9.out.lenAt
        have h2 := HE.out.lenAt
        have h3 := HN1.out
        show lenAt _ _ < lenAt _ _
        rw [h1, h2]
        omega
    · have HEV : Hid (evict m.room F.size m.l = (m.l.drop k0, k0)) := evict_stop _ _ _ _ (by have h1 := hE.k_le; have h2 := HS6.out.at_.len; have h3 := HS6.out.at_.mlen; omega) hE.gone (by rw [← hml]; exact hroom)
      have hd : decide (((m.room : Int) - (usedL mk.l : Int)) < (F.size : Int)) = false := decide_eq_false (by omega)
      have hrm3 : (usedL mk.l : Int) ≤ (m.room : Int) := by omega
      clear hmz hE hroom hmr hml HNOW HNO2
      generalize usedL mk.l = us at hus hd hmu hrm3
      generalize m.room = rm at x2 hus hd hmu hrm2 hrm3
      go_upto_region 15 with fail
      refine wp_region_later mixedOrders (by kernel_rfl) ?_
      repeat (go_big_quiet_step (first | (go_at_call 15; exact hus _) | fail))
      refine wpQuiet_nil ?_
      intro _ hw'
      obtain ⟨p7, rfl⟩ := hw'
      have HB7 := Lib.hid p7.hb
      generalize p7.w = w7 at HB7 ⊢
      clear x0 x1 x2 x3 x4 x5 x6 x7 x8 x9 x10 x11 y8 hus
      have hs7 := HSE.out.on HB7.out
      have HS7 := Lib.hid hs7
      have x3 := hs7.fcell 3 _ B3.out
      have x4 := hs7.fcell 4 _ B4.out
      have x8 := hs7.fcell 8 _ B8.out
      obtain ⟨V0, hV0⟩ : ∃ V0, V0 = (w7.alloc (.cells #[.int .u8 0, .int .u64 0, .int .i64 0, .slice none 0 0, .slice none 0 0] 71)).setRow w7.heap.size #[.int .u8 (F.id.f : Int), .int .u64 (F.id.s : Int), .int .i64 (F.size : Int), .slice none 0 0, .slice none 0 0] := ⟨_, rfl⟩
      have hnw := NwS.start (TlS.start w7 #[.int .u8 0, .int .u64 0, .int .i64 0, .slice none 0 0, .slice none 0 0] #[.int .u8 (F.id.f : Int), .int .u64 (F.id.s : Int), .int .i64 (F.size : Int), .slice none 0 0, .slice none 0 0])
      rw [← hV0] at hnw
      have HNW := Lib.hid hnw
      have HV0 := Lib.hid hV0
      have HR0 := Lib.hid (heap_alloc_new w7 (.cells #[.int .u8 0, .int .u64 0, .int .i64 0, .slice none 0 0, .slice none 0 0] 71 (0, 0)))
      have HPZ := Lib.hid (rfl : (#[.int .u8 (F.id.f : Int), .int .u64 (F.id.s : Int), .int .i64 (F.size : Int), .slice none 0 0, .slice none 0 0] : Array Value).size = 5)
      have HP1 : Hid ((#[.int .u8 (F.id.f : Int), .int .u64 (F.id.s : Int), .int .i64 (F.size : Int), .slice none 0 0, .slice none 0 0] : Array Value).all (·.oneCell') = true) := by show (Array.all _ _) = true; simp [Value.oneCell']
      clear hs7 hnw hV0 hmu hd hrm3 HB7 HSE
      go_upto_region 18 with fail
      go_upto_region 19 with (first | ((with_reducible_and_instances refine store_P (.tmp 8) (.tmp 131) ?_ ?_ HR0.out ?_ HPZ.out HP1.out ?_); exact rfl; exact rfl; exact rfl) | fail)
      rw [← HV0.out]
      clear x3 x4 x8 HV0 HR0 HPZ HP1
      go_wp2_with fail
      go_loopw [9] (fun s9 V => ∃ k A2 c2 A3 c3, k ≤ F.of_ ∧ s9 = .int .i64 ((k : Nat) : Int) ∧ Hid (NwS w7 F.id F.size k A2 c2 A3 c3 V)) (fun s9 _ => F.of_ - (intOf s9).toNat)
      case atStart => exact ⟨0, none, 0, none, 0, Nat.zero_le _, rfl, HNW.out⟩
      case round =>
        obtain ⟨k, A2, c2, A3, c3, hk, rfl, hN⟩ := hrel
        have hN := hN.out
        have hsV := HS7.out.on hN.t.below
        have x7 := hsV.fcell 7 _ B7.out
        have hfo : F.of_ < 4294967296 := hw.of_
        have HSV := Lib.hid hsV
        by_cases hlt : k < F.of_
        · have hkn : (k : Int) < (F.of_ : Int) := by omega
          obtain ⟨A4, c4, W3, A5, c5, W6, hr1, hs3, hr2, hs6, hN2⟩ := hN.step (by omega)
          have z3 := hN.t.c 3 (.slice A2 k c2) rfl
          have u3 := hs3.c 3 (.slice A2 k c2) rfl
          have uf3 := hs3.f 3
          have u4 := hs3.c 4 (.slice A3 k c3) rfl
          have y4 := hs6.c 4 (.slice A3 k c3) rfl
          have yf4 := hs6.f 4
          have hbv := hN.t.size
          have hbv3 := hs3.size
          have HR1 := Lib.hid hr1
          have HR2 := Lib.hid hr2
          have HN2 := Lib.hid hN2
          clear hN hsV hr1 hr2 hs3 hs6 hN2 HSV
          go_upto_region 23 with (first | (at_builtin; refine wpList_append_run rfl (.tmp 140) (.tmp 141) 68 rfl rfl rfl HR1.out ?_) | fail)
          clear z3 u3 uf3 x7 HR1
          go_wp2_with (first | (at_builtin; refine wpList_append_run rfl (.tmp 145) (.tmp 146) 69 rfl rfl rfl HR2.out ?_) | fail)
          go_roundw
          case rel => exact ⟨k + 1, A4, c4, A5, c5, by omega, by go_num, HN2.out⟩
          case measure => simp [intOf]; omega
        · have hkn : ¬ (k : Int) < (F.of_ : Int) := by omega
          have hke : k = F.of_ := by omega
          obtain ⟨z, hz⟩ : ∃ z, z = newRp F.id F.size k A2 c2 A3 c3 := ⟨_, rfl⟩
          have h0 := hN.done HS7.out hD
          rw [← hz] at h0
          have H0 := Lib.hid h0
          have x3 := h0.s.gc 3 (.slice A1 n1 c1) rfl
          have HZX : Hid (z.x = newPart F.id F.size F.of_) := by show z.x = _; rw [hz, hke]; rfl
          clear hN hsV hz h0 HSV
          go_upto_region 25 with fail
          refine wp_region_Z 8 (NwE w D fc A1 n1 c1 (R.drop k0) mk w7 z) (by kernel_rfl) ?_
          have hHeld : NwE w D fc A1 n1 c1 (R.drop k0) mk w7 z wr.drew := H0.out.on (drewB _)
          generalize World.drew wr = W00 at hHeld ⊢
          have H1 := Lib.hid hHeld
          have HL : Hid ((R.drop k0).length = n1) := hHeld.s.at_.len
          have HAL : Hid (∀ V, RowKit.Below W00.heap.size W00 V → Lies V V.heap.size A1 (flat encRp (R.drop k0))) := fun V hV => (H1.out.s.on hV).at_.lies.lies
          have hb00 : w.heap.size + 2 < W00.heap.size := hHeld.s.size
          have HB00 := Lib.hid hb00
          clear H0 x3
          refine wpZ_take (i := 1) (d := 153) (v := ?_) rfl rfl (by kernel_rfl) (by kernel_rfl) (by kernel_rfl) (by kernel_rfl) (fun _ _ _ h => h) (Or.inl ⟨by rfl, ?_⟩) hHeld ?_
          rotate_left
          · (intro _ hSw; go_simp; try with_reducible rfl)
          simp only [List.setIfInBounds_toArray, List.set_cons_zero, List.set_cons_succ]
          refine wpZ_take (i := 2) (d := 154) (v := ?_) rfl rfl (by kernel_rfl) (by kernel_rfl) (by kernel_rfl) (by kernel_rfl) (fun _ _ _ h => h) (Or.inl ⟨by rfl, ?_⟩) hHeld ?_
          rotate_left
          · (intro _ hSw; have x1 := hSw.s.gc 3 (.slice A1 n1 c1) rfl; go_simp; try with_reducible rfl)
          simp only [List.setIfInBounds_toArray, List.set_cons_zero, List.set_cons_succ]
          refine wpZ_take (i := 4) (d := 156) (v := .agg (encRp z).toArray) rfl rfl (by kernel_rfl) (by kernel_rfl) (by kernel_rfl) (by kernel_rfl) (fun _ _ _ h => h) (yields_P (S := (NwE w D fc A1 n1 c1 (R.drop k0) mk w7 z)) (x := .tmp 8) (g := w7.heap.size) rfl rfl rfl rfl (fun V hV => hV.t.p)) hHeld ?_
          simp only [List.setIfInBounds_toArray, List.set_cons_zero, List.set_cons_succ]
          refine wpZ_ready (rs := [0, 5]) (by kernel_rfl) (by simp) ?_
          refine AllReadyZ.cons rfl (fun K hK => ?_) (AllReadyZ.cons rfl (fun K hK => ?_) AllReadyZ.nil)
          · skip
            go_simp
            have hba : RowKit.Below W00.heap.size W00 (W00.alloc (.cells #[] 71)) := (RowKit.Below.refl _ _).alloc (Nat.le_refl _) _
            have hGa := H1.out.on hba
            have hoa : (W00.alloc (.cells #[] 71)).ownsRow W00.heap.size 71 5 (.slice (some ⟨W00.heap.size, 0, none⟩) 0 0) 0 [] := World.ownsRow_lit W00 #[] 0 (Nat.le_refl _) (Nat.zero_le _) rfl
            have hHeld2 := hGa
            refine hK.out _ _ (fun _ => hHeld2) ?_
            clear hK K hHeld
            have hHeld := hHeld2
            clear hHeld2
            refine wpZ_ready (rs := [3, 5]) (by kernel_rfl) (by simp) ?_
            refine AllReadyZ.cons rfl (fun K hK => ?_) (AllReadyZ.cons rfl (fun K hK => ?_) AllReadyZ.nil)
            · skip
              obtain ⟨A3, c3, W3, hrun3, ho3, hg3, hb3⟩ := app_rpB (c := c1) hoa HL.out (HAL.out _ hba) hba.size (by omega)
              rw [Nat.zero_add, List.nil_append] at ho3
              rw [Nat.zero_add] at hrun3
              have hb03 := hba.trans hb3
              have hG3 := H1.out.on hb03
              refine wp_append_step (s := .tmp 152) (x := .tmp 154) (t := 29) rfl rfl rfl rfl hrun3 ?_
              go_simp
              have hHeld2 := hG3
              refine hK.out _ _ (fun _ => hHeld2) ?_
              clear hK K hHeld
              have hHeld := hHeld2
              clear hHeld2
              refine wpZ_ready (rs := [5]) (by kernel_rfl) (by simp) ?_
              refine AllReadyZ.cons rfl (fun K hK => ?_) AllReadyZ.nil
              refine wp_build1P_step (x := .tmp 156) (y := z) rfl rfl rfl ?_
              go_simp
              have hbl : RowKit.Below W3.heap.size W3 (W3.alloc (.cells (encRp z).toArray 71)) := (RowKit.Below.refl _ _).alloc (Nat.le_refl _) _
              have hbc := hb03.trans (hbl.mono hb03.size)
              have hGl := H1.out.on hbc
              have hx1 := own_below ho3 hbl
              have hx2 := lies_new W3 (encRp z).toArray 71
              rw [← flat_singleR] at hx2
              clear ho3 hg3 hb3 hbl hoa hGa hG3 hrun3 hba hb03
              have hHeld2 := hGl
              refine hK.out _ _ (fun _ => hHeld2) ?_
              clear hK K hHeld
              have hHeld := hHeld2
              clear hHeld2
              clear hGl
              obtain ⟨A4, c4, W4, hrun4, ho4, -, hb4⟩ := app_rpB (ys := [z]) (m := 1) (c := 1) hx1 rfl hx2 hbc.size (by omega)
              rw [← flat_append] at ho4
              have HO4 := Lib.hid ho4
              have hb04 := hbc.trans hb4
              have hG4 := H1.out.on hb04
              clear hx1 hx2 ho4 hb4 hbc
              refine wpZ_ready (rs := [6]) (by kernel_rfl) (by simp) ?_
              refine AllReadyZ.cons rfl (fun K hK => ?_) AllReadyZ.nil
              refine wp_append_step (s := .tmp 155) (x := .tmp 157) (t := 29) rfl rfl rfl rfl hrun4 ?_
              go_simp
              have hHeld2 := hG4
              refine hK.out _ _ (fun _ => hHeld2) ?_
              clear hK K hHeld
              have hHeld := hHeld2
              clear hHeld2
              refine wpZ_take (i := 7) (d := 159) (v := ?_) rfl rfl (by kernel_rfl) (by kernel_rfl) (by kernel_rfl) (by kernel_rfl) (fun _ _ _ h => h) (Or.inl ⟨by rfl, ?_⟩) hHeld ?_
              rotate_left
              · (intro _ hSw; go_simp; try with_reducible rfl)
              simp only [List.setIfInBounds_toArray, List.set_cons_zero, List.set_cons_succ]
              have HG4 := Lib.hid hG4
              have y1 := hG4.s.gc 3 (.slice A1 n1 c1) rfl
              have y2 := hG4.s.gf 3
              clear hG4 hHeld hrun4
              refine wpZ_ready (rs := [8]) (by kernel_rfl) (by simp) ?_
              refine AllReadyZ.cons rfl (fun K hK => ?_) AllReadyZ.nil
              go_simp
              refine hK.out _ _ (fun h => absurd rfl h) ?_
              clear hK K
              refine wpZ_done (by kernel_rfl) ?_ _
              have hsE := HG4.out.done HO4.out HB00.out hD
              generalize World.setCell W4 ⟨w.heap.size, 3, none⟩ (.slice A4 (n1 + 1) c4) = w6 at hsE ⊢
              clear y1 y2 HG4 HO4 hb04
              have hEE := HE.out
              have hml2 : mk.l ++ [z.x] = (evict m.room F.size m.l).1 ++ [newPart F.id F.size F.of_] := by rw [HZX.out, HEV.out, hEE.m_eq]; rfl
              have hmc2 : mk.counts = bump m.counts 3 (evict m.room F.size m.l).2 := by rw [HEV.out, hEE.m_eq]; rfl
              have hme2 : ({ mk with l := mk.l ++ [z.x] } : Gm) = m1 := by
                rw [hm1, hml2]
                rw [hEE.m_eq] at hmc2 ⊢
                show ({ m with l := _, counts := (evG m k0).counts } : Gm) = _
                rw [hmc2]
              have hw2 : m1.weight ≤ 100000 := by
                rw [← hme2, hEE.m_eq]
                unfold Gm.weight at hwt ⊢
                show (bump m.counts 3 k0).sum + (m.l.drop k0 ++ [z.x]).length ≤ _
                rw [bump_sum _ _ _ (by omega), List.length_append, List.length_drop]
                have h1 := hEE.k_le
                have h2 := HS6.out.at_.len
                have h3 := HS6.out.at_.mlen
                simp only [List.length_singleton]
                omega
              have h62 : m1.counts.length = 6 := by rw [hm1]; show (bump _ _ _).length = 6; rw [bump_len, h6]
              have hle : (evict m.room F.size m.l).1.length = n1 := by rw [HEV.out]; have h1 := HS7.out.at_.mlen; rw [hEE.m_eq] at h1; exact h1
              have hiR : n1 < (R.drop k0 ++ [z]).length := by rw [List.length_append, HL.out]; simp
              have hiz : (R.drop k0 ++ [z])[n1] = z := by simp [HL.out]
              rw [hme2] at hsE
              have hn2 : n1 + 1 ≤ 1000000 := by omega
              obtain ⟨A, n, c, R, i, hi, hsN, hxi, hie, hn⟩ : ∃ (A : Option Addr) (n c : Nat) (R : List Rp) (i : Nat), ∃ hi : i < R.length, PuS w D fc A n c R m1 w6 ∧ R[i].x = newPart F.id F.size F.of_ ∧ i = n1 ∧ n ≤ 1000000 := ⟨A4, n1 + 1, c4, R.drop k0 ++ [z], n1, hiR, hsE, by rw [hiz]; exact HZX.out, rfl, hn2⟩
              have HIE := Lib.hid (hle.trans hie.symm)
              subst hie
              clear HGC HGZ hml2 hmc2 hme2 hiR hiz hEE HE HEV HNW HS7 HS6 H1 HL HAL HB00 HZX hle hn2 h6 hwt hn1 hN
              obtain ⟨m, hmm⟩ : ∃ m, m = m1 := ⟨_, rfl⟩
              subst hmm
              have h6 := h62
              have hwt := hw2
              clear hm1
              have HS6 := Lib.hid hsN
              have HX := Lib.hid hxi
              obtain ⟨gc, hgc⟩ : ∃ gc, rgCells (.slice A n c) m = gc := ⟨_, rfl⟩
              have HGC : Hid (rgCells (.slice A n c) m = gc) := Lib.hid hgc
              have HGZ : Hid (gc.size = 12) := by show gc.size = 12; rw [← hgc]; exact rg_size _ _
              have HAT : Hid (F.at_ < R[i].x.has.length) := by show _ < _; rw [hxi]; show _ < (List.replicate _ _).length; rw [List.length_replicate]; exact hato
              have HLEN : Hid (R[i].x.has.length ≤ 2000000) := by show _ ≤ _; rw [hxi]; show (List.replicate _ _).length ≤ _; rw [List.length_replicate]; exact hof
              have HCL : Hid (R[i].x.cuts.length = R[i].x.has.length) := by show _ = _; rw [hxi]; show (List.replicate _ _).length = (List.replicate _ _).length; rw [List.length_replicate, List.length_replicate]
              have HLD : Hid True := trivial
              have hfull : (R[i].x.putCut F.at_ F.data).full = true := by rw [hxi]; exact hfull
              have hfl : (R[i].x.cuts.set F.at_ F.data).flatten.length ≤ 10000000000000 := by rw [hxi]; exact hfl
              have hdi : True := trivial
              have hdn : True := trivial
              clear hsE hsN hgc hxi h62 hw2
              have hat := HAT.out
              have hlen := HLEN.out
              have hcl := HCL.out
              have hsT := HS6.out
              have hlR := hsT.at_.len
              obtain ⟨pb, po, hA, hrg⟩ := hsT.at_.range hi
              have x3 := hsT.gc 3 (.slice (some ⟨pb, po, none⟩) n c) (by rw [hA]; rfl)
              have hin : i < n := by omega
              have hnc := hsT.at_.nc
              have hcm : c ≤ 9223372036854775807 := by have := hsT.at_.cm; unfold maxLen at this; omega
              obtain ⟨V1, hV1⟩ : ∃ V1, V1 = (w6.alloc (.cells #[.int .u8 0, .int .u64 0, .int .i64 0, .slice none 0 0, .slice none 0 0] 71)).setRow w6.heap.size (encRp R[i]).toArray := ⟨_, rfl⟩
              obtain ⟨hs1, g1, c1, W3, g2, c2, W6, hr1, hs3, hr2, hs6, k1, k2, k3, k4, V7, hV7, hs7, ⟨ob, hob⟩, hfz7, V8, hV8, hs8, ⟨os, hos⟩, hfz8, hE⟩ := tail_mem hsT.at_ (hsT.lt hD) hi hlen hcl hat F.data #[.int .u8 0, .int .u64 0, .int .i64 0, .slice none 0 0, .slice none 0 0] hV1
              have hV1s : w6.heap.size < V1.heap.size := by rw [hV1]; simp
              unfold maxLen at k2 k4
              obtain ⟨pc0, hpc0⟩ : ∃ pc0, (encRp R[i]).toArray = pc0 := ⟨_, rfl⟩
              have hpz : pc0.size = 5 := by rw [← hpc0]; rfl
              have hp1 : pc0.all (·.oneCell') = true := by rw [← hpc0]; exact encRp_oneA _
              have HPZ := Lib.hid hpz
              have HP1 := Lib.hid hp1
              have HPC := Lib.hid hpc0
              have HRG := Lib.hid hrg
              have HV1 := Lib.hid (hpc0 ▸ hV1)
              have HR0 := Lib.hid (heap_alloc_new w6 (.cells #[.int .u8 0, .int .u64 0, .int .i64 0, .slice none 0 0, .slice none 0 0] 71 (0, 0)))
              have HR1 := Lib.hid hr1
              have HR2 := Lib.hid hr2
              have HS3 := Lib.hid hs3
              have HT6 := Lib.hid hs6
              have HS7 := Lib.hid hs7
              have HS8 := Lib.hid hs8
              have HB7 := Lib.hid hob
              have HZ7 := Lib.hid hfz7
              have HB8 := Lib.hid hos
              have HZ8 := Lib.hid hfz8
              have HV7 := Lib.hid hV7
              have HV8 := Lib.hid hV8
              have HE9 := Lib.hid hE
              have HST := Lib.hid hsT
              have HS1 := Lib.hid hs1
              clear hsT hrg hV1 hs1 hr1 hr2 hs3 hs6 hV7 hs7 hob hfz7 hV8 hs8 hos hfz8 hE hpc0 hpz hp1 hA hat hlen hcl HLD
              have HAT2 := HAT
              have HLEN2 := HLEN
              have HCL2 := HCL
              clear HAT HLEN HCL
              go_upto_region 26 with fail
              go_upto_region 27 with (first | ((with_reducible_and_instances refine load_Pc (.tmp 163) ?_ HRG.out HPC.out ?_); exact rfl) | ((with_reducible_and_instances refine store_P (.tmp 10) (.tmp 164) ?_ ?_ HR0.out ?_ HPZ.out HP1.out ?_); exact rfl; exact rfl; exact rfl) | fail)
              rw [← HV1.out]
              have y3 := HS1.out.c 3 (.slice R[i].h.1 R[i].x.has.length R[i].h.2) rfl
              have z3 := HS3.out.c 3 (.slice R[i].h.1 R[i].x.has.length R[i].h.2) rfl
              have zf3 := HS3.out.f 3
              have hsz3 := HS3.out.size
              clear x3 HV1 HR0 HPZ HP1 HPC HRG hdi hdn
              go_upto_region 28 with (first | (at_builtin; refine wpList_append_run rfl (.tmp 165) (.tmp 167) 68 rfl rfl rfl HR1.out ?_) | fail)
              have z4 : W3.cell? ⟨w6.heap.size, 4, none⟩ = some (.slice R[i].c.1 R[i].x.has.length R[i].c.2) := by rw [← HCL2.out]; exact HS3.out.c 4 _ rfl
              have u4 : W6.cell? ⟨w6.heap.size, 4, none⟩ = some (.slice R[i].c.1 R[i].x.has.length R[i].c.2) := by rw [← HCL2.out]; exact HT6.out.c 4 _ rfl
              have uf4 := HT6.out.f 4
              clear y3 z3 zf3 HR1 HS1
              go_upto_region 29 with (first | (at_builtin; refine wpList_append_run rfl (.tmp 170) (.tmp 172) 69 rfl rfl rfl HR2.out ?_) | fail)
              rw [← HV7.out]
              have y3 := HS7.out.c 3 (.slice (some ⟨g1, 0, none⟩) R[i].x.has.length c1) rfl
              have x6 := (HST.out.on HS7.out.below).fcell 6 _ B6.out
              have hob := HB7.out
              have hfz7 := HZ7.out
              have hat := HAT2.out
              have hfa : F.at_ < 4294967296 := hw.at_
              clear z4 u4 uf4 HR2 HS3 HT6 HV7 HB7 HZ7
              go_upto_region 30 with fail
              rw [← HV8.out]
              have hs8 := HST.out.on HS8.out.below
              obtain ⟨hdp, hde, -, -, -, -, hdl⟩ := HF.out.on hs8.below
              have y4 := HS8.out.c 4 (.slice (some ⟨g2, 0, none⟩) R[i].x.has.length c2) rfl
              have x6 := hs8.fcell 6 _ B6.out
              have x15 := hs8.fcell 15 (.slice (hdp 4).1 F.data.length (hdp 4).2) (by rw [hde]; rfl)
              have hos := HB8.out
              have hfz8 := HZ8.out
              have hst : ∀ cc, (convert 39 9 (.slice (hdp 4).1 F.data.length cc)).run Tryd.prog V8 = .ok (.string (str F.data)) V8 := fun cc => strs_of rfl hdl cc
              generalize (hdp 4).1 = dA at x15 hst
              generalize (hdp 4).2 = dc at x15
              generalize F.data.length = dn at x15 hst
              clear y3 hob hfz7 HS7 HV8 HB8 HZ8 hs8 hde hdl HF
              go_upto_region 31 with fail
              have HV9 := Lib.hid (rfl : V8.setCell ⟨g2, F.at_, none⟩ (.string (str F.data)) = V8.setCell ⟨g2, F.at_, none⟩ (.string (str F.data)))
              generalize hv9 : V8.setCell ⟨g2, F.at_, none⟩ (.string (str F.data)) = V9 at HE9 ⊢
              clear hv9 HV9 hos hfz8 hst y4 x6 x15 HS8 hfa
              have hfu := refFull_any (R[i].x.has.set F.at_ true) (.int .u8 (R[i].x.id.f : Int)) (.int .u64 (R[i].x.id.s : Int)) (.int .i64 (R[i].x.size : Int)) (some ⟨g1, 0, none⟩) c1 (.slice (some ⟨g2, 0, none⟩) R[i].x.has.length c2) V9 HE9.out.l1.lies (by rw [List.length_set]; have := HLEN2.out; omega) ⟨_, rfl⟩ ⟨_, rfl⟩ ⟨_, rfl⟩ ⟨_, _, _, rfl⟩
              rw [List.length_set, show ((R[i].x.has.set F.at_ true).all fun b => b) = _ from hfull] at hfu
              have hrow := HE9.out.s.p
              obtain ⟨pc, hpc⟩ : ∃ pc : Array Value, #[.int .u8 (R[i].x.id.f : Int), .int .u64 (R[i].x.id.s : Int), .int .i64 (R[i].x.size : Int), .slice (some ⟨g1, 0, none⟩) R[i].x.has.length c1, .slice (some ⟨g2, 0, none⟩) R[i].x.has.length c2] = pc := ⟨_, rfl⟩
              have hpcz : pc.size = 5 := by rw [← hpc]; rfl
              rw [hpc] at hfu hrow
              have HPC := Lib.hid hpc
              have HPZ := Lib.hid hpcz
              have HFU := Lib.hid hfu
              have HROW := Lib.hid hrow
              clear hpc hpcz hfu hrow
              go_wp2_with (first | ((with_reducible_and_instances refine load_P (.tmp 10) ?_ HROW.out HPZ.out ?_); exact rfl) | fail)
              refine HFU.out.mono ?_
              rintro e w10 ⟨rfl, hb10⟩
              have HE10 := Lib.hid (HE9.out.on hb10)
              have HS10 := Lib.hid (HST.out.on HE10.out.s.below)
              clear hb10 HFU HROW HE9 HST
              have hs10 := HS10.out
              have hin : i < n := by have := hs10.at_.len; omega
              have HG10 := Lib.hid (HGC.out ▸ hs10.g : w10.heap[w.heap.size]? = some (.cells gc 32 (0, 0)))
              have hwo := refWithout_any hs10.at_ hn (hs10.lt hD) i hin
              rw [HGC.out] at hwo
              have HWO := Lib.hid hwo
              have c4 := HE10.out.s.c 4 (.slice (some ⟨g2, 0, none⟩) R[i].x.has.length c2) rfl
              have hl2 := HE10.out.l2
              have hl0 := HLEN2.out
              have hctl : (R[i].x.cuts.set F.at_ F.data).length = R[i].x.has.length := by rw [List.length_set]; exact HCL2.out
              obtain ⟨ct, hct⟩ : ∃ ct, R[i].x.cuts.set F.at_ F.data = ct := ⟨_, rfl⟩
              obtain ⟨hl, hhl⟩ : ∃ hl, R[i].x.has.length = hl := ⟨_, rfl⟩
              rw [hct] at hl2 hctl hfl
              have HFL := Lib.hid hfl
              rw [hhl] at c4 hctl k3 hl0
              have HCT := Lib.hid hct
              have HL2 := Lib.hid hl2
              have HCTL := Lib.hid hctl
              clear hfl hs10 hwo hct hhl hl2 hctl HE10 HPC HPZ hat k1 hfull HAT2
              go_wp2_with fail
              go_loopw [11, 12, 193] (fun s11 _ s193 wr => ∃ k : Nat, k ≤ hl ∧ s193 = .int .i64 (k : Int) ∧ s11 = .string (str (ct.take k).flatten) ∧ wr = w10) (fun _ _ s193 _ => hl - (intOf s193).toNat)
              case atStart => exact ⟨0, Nat.zero_le _, rfl, rfl, rfl⟩
              case round =>
                obtain ⟨k, hk, rfl, rfl, rfl⟩ := hrel
                obtain ⟨sv, hsv⟩ : ∃ sv, str (ct.take k).flatten = sv := ⟨_, rfl⟩
                rw [hsv]
                by_cases hlt : k < hl
                · have hkc : k < ct.length := by have := HCTL.out; omega
                  obtain ⟨bb, o2, e2, -, -, hcell⟩ := HL2.out (by intro e; have := congrArg List.length e; rw [svl_len] at this; simp at this; rw [this] at hkc; exact absurd hkc (Nat.not_lt_zero _))
                  have ck := hcell k (.string (str ct[k])) (by rw [svl, List.getElem?_map, List.getElem?_eq_getElem hkc]; rfl)
                  injection e2 with e2
                  injection e2 with e2 e3
                  subst e2 e3
                  rw [Nat.zero_add] at ck
                  have HNX : Hid (str (ct.take (k + 1)).flatten = sv ++ str ct[k]) := by
                    show str (ct.take (k + 1)).flatten = sv ++ str ct[k]
                    rw [List.take_succ_eq_append_getElem hkc, List.flatten_append, str_append, hsv]
                    simp
                  have hbz : ¬ 9223372036854775807 < sv.size + (str ct[k]).size := by
                    have h1 := congrArg ByteArray.size HNX.out
                    rw [ByteArray.size_append, str_size] at h1
                    have h2 := flatten_take_le ct (k + 1)
                    have h3 := HFL.out
                    omega
                  clear hsv hcell
                  generalize str ct[k] = sk at ck HNX hbz
                  have hnk : (k : Int) < (hl : Int) := by omega
                  go_wp2
                  go_roundw
                  case rel => exact ⟨k + 1, by omega, by go_num, by rw [HNX.out], trivial⟩
                  case measure => simp [intOf]; omega
                · have hnk : ¬ (k : Int) < (hl : Int) := by omega
                  have HTK : Hid (sv = str (R[i].x.putCut F.at_ F.data).cuts.flatten) := by
                    show sv = str (R[i].x.cuts.set F.at_ F.data).flatten
                    rw [← hsv, HCT.out, List.take_of_length_le (by have := HCTL.out; omega)]
                  clear hsv c4
                  go_wp2_with (first | ((with_reducible_and_instances refine load_Rg (.tmp 2) ?_ HG10.out HGZ.out ?_); exact rfl) | fail)
                  refine HWO.out.mono ?_
                  rintro e w11 ⟨A', c', rfl, hR11, hb11⟩
                  have hs11 := HS10.out.on hb11
                  have hs12 := hs11.setAll hR11
                  have HG11 := Lib.hid (HGC.out ▸ hs11.g : w11.heap[w.heap.size]? = some (.cells gc 32 (0, 0)))
                  obtain ⟨ds, hds⟩ : ∃ ds, rgCells (.slice A' (n - 1) c') { m with l := m.l.eraseIdx i } = ds := ⟨_, rfl⟩
                  have HDZ : Hid (ds.size = 12) := by show ds.size = 12; rw [← hds]; exact rg_size _ _
                  have HD1 : Hid (ds.all (·.oneCell') = true) := by show ds.all (·.oneCell') = true; rw [← hds]; exact rg_one _ _ _ _
                  rw [hds] at hs12 ⊢
                  obtain ⟨w12, hw12⟩ : ∃ w12, w12 = w11.setRow w.heap.size ds := ⟨_, rfl⟩
                  rw [← hw12] at hs12
                  have HS12 := Lib.hid hs12
                  have HW12 := Lib.hid hw12
                  clear hs11 hs12 hds hb11 hR11 HWO HG10 HS10 hw12 HL2
                  go_upto_region 39 with (first | ((with_reducible_and_instances refine store_Rg (.tmp 2) (.tmp 206) ?_ ?_ HG11.out HGZ.out HDZ.out HD1.out ?_); exact rfl; exact rfl) | fail)
                  rw [← HW12.out]
                  clear HG11 HDZ HD1 HW12
                  have HEND : Hid (∀ W, PuS w D fc A' (n - 1) c' (R.eraseIdx i) { m with l := m.l.eraseIdx i } W → W.cell? ⟨w.heap.size, 11, none⟩ = some (.int .i64 (m.counts.getD 5 0 : Int)) ∧ W.frozen? ⟨w.heap.size, 11, none⟩ = false ∧ ∃ cs, Dn w D { { m with l := m.l.eraseIdx i } with counts := bump m.counts 5 1 } cs (W.setCell ⟨w.heap.size, 11, none⟩ (.int .i64 ((m.counts.getD 5 0 : Int) + 1)))) := fun W hW =>
                    ⟨hW.gc 11 _ rfl, hW.gf 11, (hW.bump 5 (by decide) h6).dn⟩
                  have hcn : m.counts.getD 5 0 ≤ 100000 := by have := getD_le_sum m.counts 5; unfold Gm.weight at hwt; omega
                  obtain ⟨c7, fz7, cs, hdn⟩ := HEND.out _ HS12.out
                  generalize m.counts.getD 5 0 = q at c7 hdn hcn
                  have HDN := Lib.hid hdn
                  have HG := Lib.hid hdn.g
                  have HR := Lib.hid hdn.r
                  have HZ := Lib.hid hdn.size
                  have HO := Lib.hid hdn.one
                  unfold rgZero at HR
                  clear hdn HEND
                  go_upto_region 40 with fail
                  go_wp2_with (first | ((with_reducible_and_instances refine load_Rg (.tmp 2) ?_ HG.out HZ.out ?_); exact rfl) | ((with_reducible_and_instances refine store_Rg (.tmp 4) (.tmp 213) ?_ ?_ HR.out ?_ HZ.out HO.out ?_); exact rfl; exact rfl; exact rfl) | fail)
                  exact bodyPost_ret (results_cell_tmp2 rfl _ _ (w.heap.size + 1 + 1) _ rfl (run_loadVar_row _ (w.heap.size + 1 + 1) _ _ cs (0, 0) _ HDN.out.row Tryd.underlying32 rfl (infoRg HZ.out))) rfl (by rw [HIE.out, ← HX.out, HTK.out]; exact HDN.out.q _ 5)
            · skip
              refine wp_build1P_step (x := .tmp 156) (y := z) rfl rfl rfl ?_
              go_simp
              have hbl : RowKit.Below (W00.alloc (.cells #[] 71)).heap.size (W00.alloc (.cells #[] 71)) ((W00.alloc (.cells #[] 71)).alloc (.cells (encRp z).toArray 71)) := (RowKit.Below.refl _ _).alloc (Nat.le_refl _) _
              have hb02 := hba.trans (hbl.mono hba.size)
              have hGl := H1.out.on hb02
              have hol := own_below hoa hbl
              have hlx : LiesX ((W00.alloc (.cells #[] 71)).alloc (.cells (encRp z).toArray 71)) (fun k => k = W00.heap.size) (some ⟨W00.heap.size + 1, 0, none⟩) (flat encRp [z]) := LiesX.at_row (alloc2_new W00 (.cells #[] 71) (.cells (encRp z).toArray 71)) (by omega) (flat_singleR z).symm
              clear hbl hoa hGa hba
              have hHeld2 := hGl
              refine hK.out _ _ (fun _ => hHeld2) ?_
              clear hK K hHeld
              have hHeld := hHeld2
              clear hHeld2
              refine wpZ_ready (rs := [3]) (by kernel_rfl) (by simp) ?_
              refine AllReadyZ.cons rfl (fun K hK => ?_) AllReadyZ.nil
              obtain ⟨A3, c3, W3, hrun3, ho3, hg3, hb3⟩ := app_rpB (c := c1) hol HL.out (HAL.out _ hb02) hb02.size (by omega)
              rw [Nat.zero_add, List.nil_append] at ho3
              rw [Nat.zero_add] at hrun3
              have hb03 := hb02.trans hb3
              have hG3 := H1.out.on hb03
              refine wp_append_step (s := .tmp 152) (x := .tmp 154) (t := 29) rfl rfl rfl rfl hrun3 ?_
              go_simp
              have hx1 := ho3
              have hx2 := (hlx.kept (OnlyE.of_grown hg3 rfl)).lies
              have hbc := hb03
              clear ho3 hg3 hb3 hlx hrun3 hb03 hol hb02 hGl
              have hHeld2 := hG3
              refine hK.out _ _ (fun _ => hHeld2) ?_
              clear hK K hHeld
              have hHeld := hHeld2
              clear hHeld2
              clear hG3
              obtain ⟨A4, c4, W4, hrun4, ho4, -, hb4⟩ := app_rpB (ys := [z]) (m := 1) (c := 1) hx1 rfl hx2 hbc.size (by omega)
              rw [← flat_append] at ho4
              have HO4 := Lib.hid ho4
              have hb04 := hbc.trans hb4
              have hG4 := H1.out.on hb04
              clear hx1 hx2 ho4 hb4 hbc
              refine wpZ_ready (rs := [6]) (by kernel_rfl) (by simp) ?_
              refine AllReadyZ.cons rfl (fun K hK => ?_) AllReadyZ.nil
              refine wp_append_step (s := .tmp 155) (x := .tmp 157) (t := 29) rfl rfl rfl rfl hrun4 ?_
              go_simp
              have hHeld2 := hG4
              refine hK.out _ _ (fun _ => hHeld2) ?_
              clear hK K hHeld
              have hHeld := hHeld2
              clear hHeld2
              refine wpZ_take (i := 7) (d := 159) (v := ?_) rfl rfl (by kernel_rfl) (by kernel_rfl) (by kernel_rfl) (by kernel_rfl) (fun _ _ _ h => h) (Or.inl ⟨by rfl, ?_⟩) hHeld ?_
              rotate_left
              · (intro _ hSw; go_simp; try with_reducible rfl)
              simp only [List.setIfInBounds_toArray, List.set_cons_zero, List.set_cons_succ]
              have HG4 := Lib.hid hG4
              have y1 := hG4.s.gc 3 (.slice A1 n1 c1) rfl
              have y2 := hG4.s.gf 3
              clear hG4 hHeld hrun4
              refine wpZ_ready (rs := [8]) (by kernel_rfl) (by simp) ?_
              refine AllReadyZ.cons rfl (fun K hK => ?_) AllReadyZ.nil
              go_simp
              refine hK.out _ _ (fun h => absurd rfl h) ?_
              clear hK K
              refine wpZ_done (by kernel_rfl) ?_ _
              have hsE := HG4.out.done HO4.out HB00.out hD
              generalize World.setCell W4 ⟨w.heap.size, 3, none⟩ (.slice A4 (n1 + 1) c4) = w6 at hsE ⊢
              clear y1 y2 HG4 HO4 hb04
              have hEE := HE.out
              have hml2 : mk.l ++ [z.x] = (evict m.room F.size m.l).1 ++ [newPart F.id F.size F.of_] := by rw [HZX.out, HEV.out, hEE.m_eq]; rfl
              have hmc2 : mk.counts = bump m.counts 3 (evict m.room F.size m.l).2 := by rw [HEV.out, hEE.m_eq]; rfl
              have hme2 : ({ mk with l := mk.l ++ [z.x] } : Gm) = m1 := by
                rw [hm1, hml2]
                rw [hEE.m_eq] at hmc2 ⊢
                show ({ m with l := _, counts := (evG m k0).counts } : Gm) = _
                rw [hmc2]
              have hw2 : m1.weight ≤ 100000 := by
                rw [← hme2, hEE.m_eq]
                unfold Gm.weight at hwt ⊢
                show (bump m.counts 3 k0).sum + (m.l.drop k0 ++ [z.x]).length ≤ _
                rw [bump_sum _ _ _ (by omega), List.length_append, List.length_drop]
                have h1 := hEE.k_le
                have h2 := HS6.out.at_.len
                have h3 := HS6.out.at_.mlen
                simp only [List.length_singleton]
                omega
              have h62 : m1.counts.length = 6 := by rw [hm1]; show (bump _ _ _).length = 6; rw [bump_len, h6]
              have hle : (evict m.room F.size m.l).1.length = n1 := by rw [HEV.out]; have h1 := HS7.out.at_.mlen; rw [hEE.m_eq] at h1; exact h1
              have hiR : n1 < (R.drop k0 ++ [z]).length := by rw [List.length_append, HL.out]; simp
              have hiz : (R.drop k0 ++ [z])[n1] = z := by simp [HL.out]
              rw [hme2] at hsE
              have hn2 : n1 + 1 ≤ 1000000 := by omega
              obtain ⟨A, n, c, R, i, hi, hsN, hxi, hie, hn⟩ : ∃ (A : Option Addr) (n c : Nat) (R : List Rp) (i : Nat), ∃ hi : i < R.length, PuS w D fc A n c R m1 w6 ∧ R[i].x = newPart F.id F.size F.of_ ∧ i = n1 ∧ n ≤ 1000000 := ⟨A4, n1 + 1, c4, R.drop k0 ++ [z], n1, hiR, hsE, by rw [hiz]; exact HZX.out, rfl, hn2⟩
              have HIE := Lib.hid (hle.trans hie.symm)
              subst hie
              clear HGC HGZ hml2 hmc2 hme2 hiR hiz hEE HE HEV HNW HS7 HS6 H1 HL HAL HB00 HZX hle hn2 h6 hwt hn1 hN
              obtain ⟨m, hmm⟩ : ∃ m, m = m1 := ⟨_, rfl⟩
              subst hmm
              have h6 := h62
              have hwt := hw2
              clear hm1
              have HS6 := Lib.hid hsN
              have HX := Lib.hid hxi
              obtain ⟨gc, hgc⟩ : ∃ gc, rgCells (.slice A n c) m = gc := ⟨_, rfl⟩
              have HGC : Hid (rgCells (.slice A n c) m = gc) := Lib.hid hgc
              have HGZ : Hid (gc.size = 12) := by show gc.size = 12; rw [← hgc]; exact rg_size _ _
              have HAT : Hid (F.at_ < R[i].x.has.length) := by show _ < _; rw [hxi]; show _ < (List.replicate _ _).length; rw [List.length_replicate]; exact hato
              have HLEN : Hid (R[i].x.has.length ≤ 2000000) := by show _ ≤ _; rw [hxi]; show (List.replicate _ _).length ≤ _; rw [List.length_replicate]; exact hof
              have HCL : Hid (R[i].x.cuts.length = R[i].x.has.length) := by show _ = _; rw [hxi]; show (List.replicate _ _).length = (List.replicate _ _).length; rw [List.length_replicate, List.length_replicate]
              have HLD : Hid True := trivial
              have hfull : (R[i].x.putCut F.at_ F.data).full = true := by rw [hxi]; exact hfull
              have hfl : (R[i].x.cuts.set F.at_ F.data).flatten.length ≤ 10000000000000 := by rw [hxi]; exact hfl
              have hdi : True := trivial
              have hdn : True := trivial
              clear hsE hsN hgc hxi h62 hw2
              have hat := HAT.out
              have hlen := HLEN.out
              have hcl := HCL.out
              have hsT := HS6.out
              have hlR := hsT.at_.len
              obtain ⟨pb, po, hA, hrg⟩ := hsT.at_.range hi
              have x3 := hsT.gc 3 (.slice (some ⟨pb, po, none⟩) n c) (by rw [hA]; rfl)
              have hin : i < n := by omega
              have hnc := hsT.at_.nc
              have hcm : c ≤ 9223372036854775807 := by have := hsT.at_.cm; unfold maxLen at this; omega
              obtain ⟨V1, hV1⟩ : ∃ V1, V1 = (w6.alloc (.cells #[.int .u8 0, .int .u64 0, .int .i64 0, .slice none 0 0, .slice none 0 0] 71)).setRow w6.heap.size (encRp R[i]).toArray := ⟨_, rfl⟩
              obtain ⟨hs1, g1, c1, W3, g2, c2, W6, hr1, hs3, hr2, hs6, k1, k2, k3, k4, V7, hV7, hs7, ⟨ob, hob⟩, hfz7, V8, hV8, hs8, ⟨os, hos⟩, hfz8, hE⟩ := tail_mem hsT.at_ (hsT.lt hD) hi hlen hcl hat F.data #[.int .u8 0, .int .u64 0, .int .i64 0, .slice none 0 0, .slice none 0 0] hV1
              have hV1s : w6.heap.size < V1.heap.size := by rw [hV1]; simp
              unfold maxLen at k2 k4
              obtain ⟨pc0, hpc0⟩ : ∃ pc0, (encRp R[i]).toArray = pc0 := ⟨_, rfl⟩
              have hpz : pc0.size = 5 := by rw [← hpc0]; rfl
              have hp1 : pc0.all (·.oneCell') = true := by rw [← hpc0]; exact encRp_oneA _
              have HPZ := Lib.hid hpz
              have HP1 := Lib.hid hp1
              have HPC := Lib.hid hpc0
              have HRG := Lib.hid hrg
              have HV1 := Lib.hid (hpc0 ▸ hV1)
              have HR0 := Lib.hid (heap_alloc_new w6 (.cells #[.int .u8 0, .int .u64 0, .int .i64 0, .slice none 0 0, .slice none 0 0] 71 (0, 0)))
              have HR1 := Lib.hid hr1
              have HR2 := Lib.hid hr2
              have HS3 := Lib.hid hs3
              have HT6 := Lib.hid hs6
              have HS7 := Lib.hid hs7
              have HS8 := Lib.hid hs8
              have HB7 := Lib.hid hob
              have HZ7 := Lib.hid hfz7
              have HB8 := Lib.hid hos
              have HZ8 := Lib.hid hfz8
              have HV7 := Lib.hid hV7
              have HV8 := Lib.hid hV8
              have HE9 := Lib.hid hE
              have HST := Lib.hid hsT
              have HS1 := Lib.hid hs1
              clear hsT hrg hV1 hs1 hr1 hr2 hs3 hs6 hV7 hs7 hob hfz7 hV8 hs8 hos hfz8 hE hpc0 hpz hp1 hA hat hlen hcl HLD
              have HAT2 := HAT
              have HLEN2 := HLEN
              have HCL2 := HCL
              clear HAT HLEN HCL
              go_upto_region 26 with fail
              go_upto_region 27 with (first | ((with_reducible_and_instances refine load_Pc (.tmp 163) ?_ HRG.out HPC.out ?_); exact rfl) | ((with_reducible_and_instances refine store_P (.tmp 10) (.tmp 164) ?_ ?_ HR0.out ?_ HPZ.out HP1.out ?_); exact rfl; exact rfl; exact rfl) | fail)
              rw [← HV1.out]
              have y3 := HS1.out.c 3 (.slice R[i].h.1 R[i].x.has.length R[i].h.2) rfl
              have z3 := HS3.out.c 3 (.slice R[i].h.1 R[i].x.has.length R[i].h.2) rfl
              have zf3 := HS3.out.f 3
              have hsz3 := HS3.out.size
              clear x3 HV1 HR0 HPZ HP1 HPC HRG hdi hdn
              go_upto_region 28 with (first | (at_builtin; refine wpList_append_run rfl (.tmp 165) (.tmp 167) 68 rfl rfl rfl HR1.out ?_) | fail)
              have z4 : W3.cell? ⟨w6.heap.size, 4, none⟩ = some (.slice R[i].c.1 R[i].x.has.length R[i].c.2) := by rw [← HCL2.out]; exact HS3.out.c 4 _ rfl
              have u4 : W6.cell? ⟨w6.heap.size, 4, none⟩ = some (.slice R[i].c.1 R[i].x.has.length R[i].c.2) := by rw [← HCL2.out]; exact HT6.out.c 4 _ rfl
              have uf4 := HT6.out.f 4
              clear y3 z3 zf3 HR1 HS1
              go_upto_region 29 with (first | (at_builtin; refine wpList_append_run rfl (.tmp 170) (.tmp 172) 69 rfl rfl rfl HR2.out ?_) | fail)
              rw [← HV7.out]
              have y3 := HS7.out.c 3 (.slice (some ⟨g1, 0, none⟩) R[i].x.has.length c1) rfl
              have x6 := (HST.out.on HS7.out.below).fcell 6 _ B6.out
              have hob := HB7.out
              have hfz7 := HZ7.out
              have hat := HAT2.out
              have hfa : F.at_ < 4294967296 := hw.at_
              clear z4 u4 uf4 HR2 HS3 HT6 HV7 HB7 HZ7
              go_upto_region 30 with fail
              rw [← HV8.out]
              have hs8 := HST.out.on HS8.out.below
              obtain ⟨hdp, hde, -, -, -, -, hdl⟩ := HF.out.on hs8.below
              have y4 := HS8.out.c 4 (.slice (some ⟨g2, 0, none⟩) R[i].x.has.length c2) rfl
              have x6 := hs8.fcell 6 _ B6.out
              have x15 := hs8.fcell 15 (.slice (hdp 4).1 F.data.length (hdp 4).2) (by rw [hde]; rfl)
              have hos := HB8.out
              have hfz8 := HZ8.out
              have hst : ∀ cc, (convert 39 9 (.slice (hdp 4).1 F.data.length cc)).run Tryd.prog V8 = .ok (.string (str F.data)) V8 := fun cc => strs_of rfl hdl cc
              generalize (hdp 4).1 = dA at x15 hst
              generalize (hdp 4).2 = dc at x15
              generalize F.data.length = dn at x15 hst
              clear y3 hob hfz7 HS7 HV8 HB8 HZ8 hs8 hde hdl HF
              go_upto_region 31 with fail
              have HV9 := Lib.hid (rfl : V8.setCell ⟨g2, F.at_, none⟩ (.string (str F.data)) = V8.setCell ⟨g2, F.at_, none⟩ (.string (str F.data)))
              generalize hv9 : V8.setCell ⟨g2, F.at_, none⟩ (.string (str F.data)) = V9 at HE9 ⊢
              clear hv9 HV9 hos hfz8 hst y4 x6 x15 HS8 hfa
              have hfu := refFull_any (R[i].x.has.set F.at_ true) (.int .u8 (R[i].x.id.f : Int)) (.int .u64 (R[i].x.id.s : Int)) (.int .i64 (R[i].x.size : Int)) (some ⟨g1, 0, none⟩) c1 (.slice (some ⟨g2, 0, none⟩) R[i].x.has.length c2) V9 HE9.out.l1.lies (by rw [List.length_set]; have := HLEN2.out; omega) ⟨_, rfl⟩ ⟨_, rfl⟩ ⟨_, rfl⟩ ⟨_, _, _, rfl⟩
              rw [List.length_set, show ((R[i].x.has.set F.at_ true).all fun b => b) = _ from hfull] at hfu
              have hrow := HE9.out.s.p
              obtain ⟨pc, hpc⟩ : ∃ pc : Array Value, #[.int .u8 (R[i].x.id.f : Int), .int .u64 (R[i].x.id.s : Int), .int .i64 (R[i].x.size : Int), .slice (some ⟨g1, 0, none⟩) R[i].x.has.length c1, .slice (some ⟨g2, 0, none⟩) R[i].x.has.length c2] = pc := ⟨_, rfl⟩
              have hpcz : pc.size = 5 := by rw [← hpc]; rfl
              rw [hpc] at hfu hrow
              have HPC := Lib.hid hpc
              have HPZ := Lib.hid hpcz
              have HFU := Lib.hid hfu
              have HROW := Lib.hid hrow
              clear hpc hpcz hfu hrow
              go_wp2_with (first | ((with_reducible_and_instances refine load_P (.tmp 10) ?_ HROW.out HPZ.out ?_); exact rfl) | fail)
              refine HFU.out.mono ?_
              rintro e w10 ⟨rfl, hb10⟩
              have HE10 := Lib.hid (HE9.out.on hb10)
              have HS10 := Lib.hid (HST.out.on HE10.out.s.below)
              clear hb10 HFU HROW HE9 HST
              have hs10 := HS10.out
              have hin : i < n := by have := hs10.at_.len; omega
              have HG10 := Lib.hid (HGC.out ▸ hs10.g : w10.heap[w.heap.size]? = some (.cells gc 32 (0, 0)))
              have hwo := refWithout_any hs10.at_ hn (hs10.lt hD) i hin
              rw [HGC.out] at hwo
              have HWO := Lib.hid hwo
              have c4 := HE10.out.s.c 4 (.slice (some ⟨g2, 0, none⟩) R[i].x.has.length c2) rfl
              have hl2 := HE10.out.l2
              have hl0 := HLEN2.out
              have hctl : (R[i].x.cuts.set F.at_ F.data).length = R[i].x.has.length := by rw [List.length_set]; exact HCL2.out
              obtain ⟨ct, hct⟩ : ∃ ct, R[i].x.cuts.set F.at_ F.data = ct := ⟨_, rfl⟩
              obtain ⟨hl, hhl⟩ : ∃ hl, R[i].x.has.length = hl := ⟨_, rfl⟩
              rw [hct] at hl2 hctl hfl
              have HFL := Lib.hid hfl
              rw [hhl] at c4 hctl k3 hl0
              have HCT := Lib.hid hct
              have HL2 := Lib.hid hl2
              have HCTL := Lib.hid hctl
              clear hfl hs10 hwo hct hhl hl2 hctl HE10 HPC HPZ hat k1 hfull HAT2
              go_wp2_with fail
              go_loopw [11, 12, 193] (fun s11 _ s193 wr => ∃ k : Nat, k ≤ hl ∧ s193 = .int .i64 (k : Int) ∧ s11 = .string (str (ct.take k).flatten) ∧ wr = w10) (fun _ _ s193 _ => hl - (intOf s193).toNat)
              case atStart => exact ⟨0, Nat.zero_le _, rfl, rfl, rfl⟩
              case round =>
                obtain ⟨k, hk, rfl, rfl, rfl⟩ := hrel
                obtain ⟨sv, hsv⟩ : ∃ sv, str (ct.take k).flatten = sv := ⟨_, rfl⟩
                rw [hsv]
                by_cases hlt : k < hl
                · have hkc : k < ct.length := by have := HCTL.out; omega
                  obtain ⟨bb, o2, e2, -, -, hcell⟩ := HL2.out (by intro e; have := congrArg List.length e; rw [svl_len] at this; simp at this; rw [this] at hkc; exact absurd hkc (Nat.not_lt_zero _))
                  have ck := hcell k (.string (str ct[k])) (by rw [svl, List.getElem?_map, List.getElem?_eq_getElem hkc]; rfl)
                  injection e2 with e2
                  injection e2 with e2 e3
                  subst e2 e3
                  rw [Nat.zero_add] at ck
                  have HNX : Hid (str (ct.take (k + 1)).flatten = sv ++ str ct[k]) := by
                    show str (ct.take (k + 1)).flatten = sv ++ str ct[k]
                    rw [List.take_succ_eq_append_getElem hkc, List.flatten_append, str_append, hsv]
                    simp
                  have hbz : ¬ 9223372036854775807 < sv.size + (str ct[k]).size := by
                    have h1 := congrArg ByteArray.size HNX.out
                    rw [ByteArray.size_append, str_size] at h1
                    have h2 := flatten_take_le ct (k + 1)
                    have h3 := HFL.out
                    omega
                  clear hsv hcell
                  generalize str ct[k] = sk at ck HNX hbz
                  have hnk : (k : Int) < (hl : Int) := by omega
                  go_wp2
                  go_roundw
                  case rel => exact ⟨k + 1, by omega, by go_num, by rw [HNX.out], trivial⟩
                  case measure => simp [intOf]; omega
                · have hnk : ¬ (k : Int) < (hl : Int) := by omega
                  have HTK : Hid (sv = str (R[i].x.putCut F.at_ F.data).cuts.flatten) := by
                    show sv = str (R[i].x.cuts.set F.at_ F.data).flatten
                    rw [← hsv, HCT.out, List.take_of_length_le (by have := HCTL.out; omega)]
                  clear hsv c4
                  go_wp2_with (first | ((with_reducible_and_instances refine load_Rg (.tmp 2) ?_ HG10.out HGZ.out ?_); exact rfl) | fail)
                  refine HWO.out.mono ?_
                  rintro e w11 ⟨A', c', rfl, hR11, hb11⟩
                  have hs11 := HS10.out.on hb11
                  have hs12 := hs11.setAll hR11
                  have HG11 := Lib.hid (HGC.out ▸ hs11.g : w11.heap[w.heap.size]? = some (.cells gc 32 (0, 0)))
                  obtain ⟨ds, hds⟩ : ∃ ds, rgCells (.slice A' (n - 1) c') { m with l := m.l.eraseIdx i } = ds := ⟨_, rfl⟩
                  have HDZ : Hid (ds.size = 12) := by show ds.size = 12; rw [← hds]; exact rg_size _ _
                  have HD1 : Hid (ds.all (·.oneCell') = true) := by show ds.all (·.oneCell') = true; rw [← hds]; exact rg_one _ _ _ _
                  rw [hds] at hs12 ⊢
                  obtain ⟨w12, hw12⟩ : ∃ w12, w12 = w11.setRow w.heap.size ds := ⟨_, rfl⟩
                  rw [← hw12] at hs12
                  have HS12 := Lib.hid hs12
                  have HW12 := Lib.hid hw12
                  clear hs11 hs12 hds hb11 hR11 HWO HG10 HS10 hw12 HL2
                  go_upto_region 39 with (first | ((with_reducible_and_instances refine store_Rg (.tmp 2) (.tmp 206) ?_ ?_ HG11.out HGZ.out HDZ.out HD1.out ?_); exact rfl; exact rfl) | fail)
                  rw [← HW12.out]
                  clear HG11 HDZ HD1 HW12
                  have HEND : Hid (∀ W, PuS w D fc A' (n - 1) c' (R.eraseIdx i) { m with l := m.l.eraseIdx i } W → W.cell? ⟨w.heap.size, 11, none⟩ = some (.int .i64 (m.counts.getD 5 0 : Int)) ∧ W.frozen? ⟨w.heap.size, 11, none⟩ = false ∧ ∃ cs, Dn w D { { m with l := m.l.eraseIdx i } with counts := bump m.counts 5 1 } cs (W.setCell ⟨w.heap.size, 11, none⟩ (.int .i64 ((m.counts.getD 5 0 : Int) + 1)))) := fun W hW =>
                    ⟨hW.gc 11 _ rfl, hW.gf 11, (hW.bump 5 (by decide) h6).dn⟩
                  have hcn : m.counts.getD 5 0 ≤ 100000 := by have := getD_le_sum m.counts 5; unfold Gm.weight at hwt; omega
                  obtain ⟨c7, fz7, cs, hdn⟩ := HEND.out _ HS12.out
                  generalize m.counts.getD 5 0 = q at c7 hdn hcn
                  have HDN := Lib.hid hdn
                  have HG := Lib.hid hdn.g
                  have HR := Lib.hid hdn.r
                  have HZ := Lib.hid hdn.size
                  have HO := Lib.hid hdn.one
                  unfold rgZero at HR
                  clear hdn HEND
                  go_upto_region 40 with fail
                  go_wp2_with (first | ((with_reducible_and_instances refine load_Rg (.tmp 2) ?_ HG.out HZ.out ?_); exact rfl) | ((with_reducible_and_instances refine store_Rg (.tmp 4) (.tmp 213) ?_ ?_ HR.out ?_ HZ.out HO.out ?_); exact rfl; exact rfl; exact rfl) | fail)
                  exact bodyPost_ret (results_cell_tmp2 rfl _ _ (w.heap.size + 1 + 1) _ rfl (run_loadVar_row _ (w.heap.size + 1 + 1) _ _ cs (0, 0) _ HDN.out.row Tryd.underlying32 rfl (infoRg HZ.out))) rfl (by rw [HIE.out, ← HX.out, HTK.out]; exact HDN.out.q _ 5)
          · skip
            refine wp_build1P_step (x := .tmp 156) (y := z) rfl rfl rfl ?_
            go_simp
            have hbl : RowKit.Below W00.heap.size W00 (W00.alloc (.cells (encRp z).toArray 71)) := (RowKit.Below.refl _ _).alloc (Nat.le_refl _) _
            have hGl := H1.out.on hbl
            clear hHeld
            have hHeld := hGl
            have hHeld2 := hGl
            refine hK.out _ _ (fun _ => hHeld2) ?_
            clear hK K hHeld
            have hHeld := hHeld2
            clear hHeld2
            refine wpZ_ready (rs := [0]) (by kernel_rfl) (by simp) ?_
            refine AllReadyZ.cons rfl (fun K hK => ?_) AllReadyZ.nil
            go_simp
            have hba : RowKit.Below (W00.alloc (.cells (encRp z).toArray 71)).heap.size (W00.alloc (.cells (encRp z).toArray 71)) ((W00.alloc (.cells (encRp z).toArray 71)).alloc (.cells #[] 71)) := (RowKit.Below.refl _ _).alloc (Nat.le_refl _) _
            have hb02 := hbl.trans (hba.mono hbl.size)
            have hGa := H1.out.on hb02
            have hoa : ((W00.alloc (.cells (encRp z).toArray 71)).alloc (.cells #[] 71)).ownsRow W00.heap.size 71 5 (.slice (some ⟨(W00.alloc (.cells (encRp z).toArray 71)).heap.size, 0, none⟩) 0 0) 0 [] := World.ownsRow_lit (W00.alloc (.cells (encRp z).toArray 71)) #[] 0 hbl.size (Nat.zero_le _) rfl
            have hlx : LiesX ((W00.alloc (.cells (encRp z).toArray 71)).alloc (.cells #[] 71)) (fun k => k = W00.heap.size + 1) (some ⟨W00.heap.size, 0, none⟩) (flat encRp [z]) := LiesX.at_row ((heap_alloc_old _ _ (by simp)).trans (heap_alloc_new W00 (.cells (encRp z).toArray 71))) (by omega) (flat_singleR z).symm
            rw [show (W00.alloc (.cells (encRp z).toArray 71)).heap.size = W00.heap.size + 1 by simp] at hoa
            clear hGl hba hbl
            have hHeld2 := hGa
            refine hK.out _ _ (fun _ => hHeld2) ?_
            clear hK K hHeld
            have hHeld := hHeld2
            clear hHeld2
            refine wpZ_ready (rs := [3]) (by kernel_rfl) (by simp) ?_
            refine AllReadyZ.cons rfl (fun K hK => ?_) AllReadyZ.nil
            obtain ⟨A3, c3, W3, hrun3, ho3, hg3, hb3⟩ := app_rpB (c := c1) hoa HL.out (HAL.out _ hb02) hb02.size (by omega)
            rw [Nat.zero_add, List.nil_append] at ho3
            rw [Nat.zero_add] at hrun3
            have hb03 := hb02.trans hb3
            have hG3 := H1.out.on hb03
            refine wp_append_step (s := .tmp 152) (x := .tmp 154) (t := 29) rfl rfl rfl rfl hrun3 ?_
            go_simp
            have hx1 := ho3
            have hx2 := (hlx.kept (OnlyE.of_grown hg3 rfl)).lies
            have hbc := hb03
            clear ho3 hg3 hb3 hlx hrun3 hb03 hoa hb02 hGa
            have hHeld2 := hG3
            refine hK.out _ _ (fun _ => hHeld2) ?_
            clear hK K hHeld
            have hHeld := hHeld2
            clear hHeld2
            clear hG3
            obtain ⟨A4, c4, W4, hrun4, ho4, -, hb4⟩ := app_rpB (ys := [z]) (m := 1) (c := 1) hx1 rfl hx2 hbc.size (by omega)
            rw [← flat_append] at ho4
            have HO4 := Lib.hid ho4
            have hb04 := hbc.trans hb4
            have hG4 := H1.out.on hb04
            clear hx1 hx2 ho4 hb4 hbc
            refine wpZ_ready (rs := [6]) (by kernel_rfl) (by simp) ?_
            refine AllReadyZ.cons rfl (fun K hK => ?_) AllReadyZ.nil
            refine wp_append_step (s := .tmp 155) (x := .tmp 157) (t := 29) rfl rfl rfl rfl hrun4 ?_
            go_simp
            have hHeld2 := hG4
            refine hK.out _ _ (fun _ => hHeld2) ?_
            clear hK K hHeld
            have hHeld := hHeld2
            clear hHeld2
            refine wpZ_take (i := 7) (d := 159) (v := ?_) rfl rfl (by kernel_rfl) (by kernel_rfl) (by kernel_rfl) (by kernel_rfl) (fun _ _ _ h => h) (Or.inl ⟨by rfl, ?_⟩) hHeld ?_
            rotate_left
            · (intro _ hSw; go_simp; try with_reducible rfl)
            simp only [List.setIfInBounds_toArray, List.set_cons_zero, List.set_cons_succ]
            have HG4 := Lib.hid hG4
            have y1 := hG4.s.gc 3 (.slice A1 n1 c1) rfl
            have y2 := hG4.s.gf 3
            clear hG4 hHeld hrun4
            refine wpZ_ready (rs := [8]) (by kernel_rfl) (by simp) ?_
            refine AllReadyZ.cons rfl (fun K hK => ?_) AllReadyZ.nil
            go_simp
            refine hK.out _ _ (fun h => absurd rfl h) ?_
            clear hK K
            refine wpZ_done (by kernel_rfl) ?_ _
            have hsE := HG4.out.done HO4.out HB00.out hD
            generalize World.setCell W4 ⟨w.heap.size, 3, none⟩ (.slice A4 (n1 + 1) c4) = w6 at hsE ⊢
            clear y1 y2 HG4 HO4 hb04
            have hEE := HE.out
            have hml2 : mk.l ++ [z.x] = (evict m.room F.size m.l).1 ++ [newPart F.id F.size F.of_] := by rw [HZX.out, HEV.out, hEE.m_eq]; rfl
            have hmc2 : mk.counts = bump m.counts 3 (evict m.room F.size m.l).2 := by rw [HEV.out, hEE.m_eq]; rfl
            have hme2 : ({ mk with l := mk.l ++ [z.x] } : Gm) = m1 := by
              rw [hm1, hml2]
              rw [hEE.m_eq] at hmc2 ⊢
              show ({ m with l := _, counts := (evG m k0).counts } : Gm) = _
              rw [hmc2]
            have hw2 : m1.weight ≤ 100000 := by
              rw [← hme2, hEE.m_eq]
              unfold Gm.weight at hwt ⊢
              show (bump m.counts 3 k0).sum + (m.l.drop k0 ++ [z.x]).length ≤ _
              rw [bump_sum _ _ _ (by omega), List.length_append, List.length_drop]
              have h1 := hEE.k_le
              have h2 := HS6.out.at_.len
              have h3 := HS6.out.at_.mlen
              simp only [List.length_singleton]
              omega
            have h62 : m1.counts.length = 6 := by rw [hm1]; show (bump _ _ _).length = 6; rw [bump_len, h6]
            have hle : (evict m.room F.size m.l).1.length = n1 := by rw [HEV.out]; have h1 := HS7.out.at_.mlen; rw [hEE.m_eq] at h1; exact h1
            have hiR : n1 < (R.drop k0 ++ [z]).length := by rw [List.length_append, HL.out]; simp
            have hiz : (R.drop k0 ++ [z])[n1] = z := by simp [HL.out]
            rw [hme2] at hsE
            have hn2 : n1 + 1 ≤ 1000000 := by omega
            obtain ⟨A, n, c, R, i, hi, hsN, hxi, hie, hn⟩ : ∃ (A : Option Addr) (n c : Nat) (R : List Rp) (i : Nat), ∃ hi : i < R.length, PuS w D fc A n c R m1 w6 ∧ R[i].x = newPart F.id F.size F.of_ ∧ i = n1 ∧ n ≤ 1000000 := ⟨A4, n1 + 1, c4, R.drop k0 ++ [z], n1, hiR, hsE, by rw [hiz]; exact HZX.out, rfl, hn2⟩
            have HIE := Lib.hid (hle.trans hie.symm)
            subst hie
            clear HGC HGZ hml2 hmc2 hme2 hiR hiz hEE HE HEV HNW HS7 HS6 H1 HL HAL HB00 HZX hle hn2 h6 hwt hn1 hN
            obtain ⟨m, hmm⟩ : ∃ m, m = m1 := ⟨_, rfl⟩
            subst hmm
            have h6 := h62
            have hwt := hw2
            clear hm1
            have HS6 := Lib.hid hsN
            have HX := Lib.hid hxi
            obtain ⟨gc, hgc⟩ : ∃ gc, rgCells (.slice A n c) m = gc := ⟨_, rfl⟩
            have HGC : Hid (rgCells (.slice A n c) m = gc) := Lib.hid hgc
            have HGZ : Hid (gc.size = 12) := by show gc.size = 12; rw [← hgc]; exact rg_size _ _
            have HAT : Hid (F.at_ < R[i].x.has.length) := by show _ < _; rw [hxi]; show _ < (List.replicate _ _).length; rw [List.length_replicate]; exact hato
            have HLEN : Hid (R[i].x.has.length ≤ 2000000) := by show _ ≤ _; rw [hxi]; show (List.replicate _ _).length ≤ _; rw [List.length_replicate]; exact hof
            have HCL : Hid (R[i].x.cuts.length = R[i].x.has.length) := by show _ = _; rw [hxi]; show (List.replicate _ _).length = (List.replicate _ _).length; rw [List.length_replicate, List.length_replicate]
            have HLD : Hid True := trivial
            have hfull : (R[i].x.putCut F.at_ F.data).full = true := by rw [hxi]; exact hfull
            have hfl : (R[i].x.cuts.set F.at_ F.data).flatten.length ≤ 10000000000000 := by rw [hxi]; exact hfl
            have hdi : True := trivial
            have hdn : True := trivial
            clear hsE hsN hgc hxi h62 hw2
            have hat := HAT.out
            have hlen := HLEN.out
            have hcl := HCL.out
            have hsT := HS6.out
            have hlR := hsT.at_.len
            obtain ⟨pb, po, hA, hrg⟩ := hsT.at_.range hi
            have x3 := hsT.gc 3 (.slice (some ⟨pb, po, none⟩) n c) (by rw [hA]; rfl)
            have hin : i < n := by omega
            have hnc := hsT.at_.nc
            have hcm : c ≤ 9223372036854775807 := by have := hsT.at_.cm; unfold maxLen at this; omega
            obtain ⟨V1, hV1⟩ : ∃ V1, V1 = (w6.alloc (.cells #[.int .u8 0, .int .u64 0, .int .i64 0, .slice none 0 0, .slice none 0 0] 71)).setRow w6.heap.size (encRp R[i]).toArray := ⟨_, rfl⟩
            obtain ⟨hs1, g1, c1, W3, g2, c2, W6, hr1, hs3, hr2, hs6, k1, k2, k3, k4, V7, hV7, hs7, ⟨ob, hob⟩, hfz7, V8, hV8, hs8, ⟨os, hos⟩, hfz8, hE⟩ := tail_mem hsT.at_ (hsT.lt hD) hi hlen hcl hat F.data #[.int .u8 0, .int .u64 0, .int .i64 0, .slice none 0 0, .slice none 0 0] hV1
            have hV1s : w6.heap.size < V1.heap.size := by rw [hV1]; simp
            unfold maxLen at k2 k4
            obtain ⟨pc0, hpc0⟩ : ∃ pc0, (encRp R[i]).toArray = pc0 := ⟨_, rfl⟩
            have hpz : pc0.size = 5 := by rw [← hpc0]; rfl
            have hp1 : pc0.all (·.oneCell') = true := by rw [← hpc0]; exact encRp_oneA _
            have HPZ := Lib.hid hpz
            have HP1 := Lib.hid hp1
            have HPC := Lib.hid hpc0
            have HRG := Lib.hid hrg
            have HV1 := Lib.hid (hpc0 ▸ hV1)
            have HR0 := Lib.hid (heap_alloc_new w6 (.cells #[.int .u8 0, .int .u64 0, .int .i64 0, .slice none 0 0, .slice none 0 0] 71 (0, 0)))
            have HR1 := Lib.hid hr1
            have HR2 := Lib.hid hr2
            have HS3 := Lib.hid hs3
            have HT6 := Lib.hid hs6
            have HS7 := Lib.hid hs7
            have HS8 := Lib.hid hs8
            have HB7 := Lib.hid hob
            have HZ7 := Lib.hid hfz7
            have HB8 := Lib.hid hos
            have HZ8 := Lib.hid hfz8
            have HV7 := Lib.hid hV7
            have HV8 := Lib.hid hV8
            have HE9 := Lib.hid hE
            have HST := Lib.hid hsT
            have HS1 := Lib.hid hs1
            clear hsT hrg hV1 hs1 hr1 hr2 hs3 hs6 hV7 hs7 hob hfz7 hV8 hs8 hos hfz8 hE hpc0 hpz hp1 hA hat hlen hcl HLD
            have HAT2 := HAT
            have HLEN2 := HLEN
            have HCL2 := HCL
            clear HAT HLEN HCL
            go_upto_region 26 with fail
            go_upto_region 27 with (first | ((with_reducible_and_instances refine load_Pc (.tmp 163) ?_ HRG.out HPC.out ?_); exact rfl) | ((with_reducible_and_instances refine store_P (.tmp 10) (.tmp 164) ?_ ?_ HR0.out ?_ HPZ.out HP1.out ?_); exact rfl; exact rfl; exact rfl) | fail)
            rw [← HV1.out]
            have y3 := HS1.out.c 3 (.slice R[i].h.1 R[i].x.has.length R[i].h.2) rfl
            have z3 := HS3.out.c 3 (.slice R[i].h.1 R[i].x.has.length R[i].h.2) rfl
            have zf3 := HS3.out.f 3
            have hsz3 := HS3.out.size
            clear x3 HV1 HR0 HPZ HP1 HPC HRG hdi hdn
            go_upto_region 28 with (first | (at_builtin; refine wpList_append_run rfl (.tmp 165) (.tmp 167) 68 rfl rfl rfl HR1.out ?_) | fail)
            have z4 : W3.cell? ⟨w6.heap.size, 4, none⟩ = some (.slice R[i].c.1 R[i].x.has.length R[i].c.2) := by rw [← HCL2.out]; exact HS3.out.c 4 _ rfl
            have u4 : W6.cell? ⟨w6.heap.size, 4, none⟩ = some (.slice R[i].c.1 R[i].x.has.length R[i].c.2) := by rw [← HCL2.out]; exact HT6.out.c 4 _ rfl
            have uf4 := HT6.out.f 4
            clear y3 z3 zf3 HR1 HS1
            go_upto_region 29 with (first | (at_builtin; refine wpList_append_run rfl (.tmp 170) (.tmp 172) 69 rfl rfl rfl HR2.out ?_) | fail)
            rw [← HV7.out]
            have y3 := HS7.out.c 3 (.slice (some ⟨g1, 0, none⟩) R[i].x.has.length c1) rfl
            have x6 := (HST.out.on HS7.out.below).fcell 6 _ B6.out
            have hob := HB7.out
            have hfz7 := HZ7.out
            have hat := HAT2.out
            have hfa : F.at_ < 4294967296 := hw.at_
            clear z4 u4 uf4 HR2 HS3 HT6 HV7 HB7 HZ7
            go_upto_region 30 with fail
            rw [← HV8.out]
            have hs8 := HST.out.on HS8.out.below
            obtain ⟨hdp, hde, -, -, -, -, hdl⟩ := HF.out.on hs8.below
            have y4 := HS8.out.c 4 (.slice (some ⟨g2, 0, none⟩) R[i].x.has.length c2) rfl
            have x6 := hs8.fcell 6 _ B6.out
            have x15 := hs8.fcell 15 (.slice (hdp 4).1 F.data.length (hdp 4).2) (by rw [hde]; rfl)
            have hos := HB8.out
            have hfz8 := HZ8.out
            have hst : ∀ cc, (convert 39 9 (.slice (hdp 4).1 F.data.length cc)).run Tryd.prog V8 = .ok (.string (str F.data)) V8 := fun cc => strs_of rfl hdl cc
            generalize (hdp 4).1 = dA at x15 hst
            generalize (hdp 4).2 = dc at x15
            generalize F.data.length = dn at x15 hst
            clear y3 hob hfz7 HS7 HV8 HB8 HZ8 hs8 hde hdl HF
            go_upto_region 31 with fail
            have HV9 := Lib.hid (rfl : V8.setCell ⟨g2, F.at_, none⟩ (.string (str F.data)) = V8.setCell ⟨g2, F.at_, none⟩ (.string (str F.data)))
            generalize hv9 : V8.setCell ⟨g2, F.at_, none⟩ (.string (str F.data)) = V9 at HE9 ⊢
            clear hv9 HV9 hos hfz8 hst y4 x6 x15 HS8 hfa
            have hfu := refFull_any (R[i].x.has.set F.at_ true) (.int .u8 (R[i].x.id.f : Int)) (.int .u64 (R[i].x.id.s : Int)) (.int .i64 (R[i].x.size : Int)) (some ⟨g1, 0, none⟩) c1 (.slice (some ⟨g2, 0, none⟩) R[i].x.has.length c2) V9 HE9.out.l1.lies (by rw [List.length_set]; have := HLEN2.out; omega) ⟨_, rfl⟩ ⟨_, rfl⟩ ⟨_, rfl⟩ ⟨_, _, _, rfl⟩
            rw [List.length_set, show ((R[i].x.has.set F.at_ true).all fun b => b) = _ from hfull] at hfu
            have hrow := HE9.out.s.p
            obtain ⟨pc, hpc⟩ : ∃ pc : Array Value, #[.int .u8 (R[i].x.id.f : Int), .int .u64 (R[i].x.id.s : Int), .int .i64 (R[i].x.size : Int), .slice (some ⟨g1, 0, none⟩) R[i].x.has.length c1, .slice (some ⟨g2, 0, none⟩) R[i].x.has.length c2] = pc := ⟨_, rfl⟩
            have hpcz : pc.size = 5 := by rw [← hpc]; rfl
            rw [hpc] at hfu hrow
            have HPC := Lib.hid hpc
            have HPZ := Lib.hid hpcz
            have HFU := Lib.hid hfu
            have HROW := Lib.hid hrow
            clear hpc hpcz hfu hrow
            go_wp2_with (first | ((with_reducible_and_instances refine load_P (.tmp 10) ?_ HROW.out HPZ.out ?_); exact rfl) | fail)
            refine HFU.out.mono ?_
            rintro e w10 ⟨rfl, hb10⟩
            have HE10 := Lib.hid (HE9.out.on hb10)
            have HS10 := Lib.hid (HST.out.on HE10.out.s.below)
            clear hb10 HFU HROW HE9 HST
            have hs10 := HS10.out
            have hin : i < n := by have := hs10.at_.len; omega
            have HG10 := Lib.hid (HGC.out ▸ hs10.g : w10.heap[w.heap.size]? = some (.cells gc 32 (0, 0)))
            have hwo := refWithout_any hs10.at_ hn (hs10.lt hD) i hin
            rw [HGC.out] at hwo
            have HWO := Lib.hid hwo
            have c4 := HE10.out.s.c 4 (.slice (some ⟨g2, 0, none⟩) R[i].x.has.length c2) rfl
            have hl2 := HE10.out.l2
            have hl0 := HLEN2.out
            have hctl : (R[i].x.cuts.set F.at_ F.data).length = R[i].x.has.length := by rw [List.length_set]; exact HCL2.out
            obtain ⟨ct, hct⟩ : ∃ ct, R[i].x.cuts.set F.at_ F.data = ct := ⟨_, rfl⟩
            obtain ⟨hl, hhl⟩ : ∃ hl, R[i].x.has.length = hl := ⟨_, rfl⟩
            rw [hct] at hl2 hctl hfl
            have HFL := Lib.hid hfl
            rw [hhl] at c4 hctl k3 hl0
            have HCT := Lib.hid hct
            have HL2 := Lib.hid hl2
            have HCTL := Lib.hid hctl
            clear hfl hs10 hwo hct hhl hl2 hctl HE10 HPC HPZ hat k1 hfull HAT2
            go_wp2_with fail
            go_loopw [11, 12, 193] (fun s11 _ s193 wr => ∃ k : Nat, k ≤ hl ∧ s193 = .int .i64 (k : Int) ∧ s11 = .string (str (ct.take k).flatten) ∧ wr = w10) (fun _ _ s193 _ => hl - (intOf s193).toNat)
            case atStart => exact ⟨0, Nat.zero_le _, rfl, rfl, rfl⟩
            case round =>
              obtain ⟨k, hk, rfl, rfl, rfl⟩ := hrel
              obtain ⟨sv, hsv⟩ : ∃ sv, str (ct.take k).flatten = sv := ⟨_, rfl⟩
              rw [hsv]
              by_cases hlt : k < hl
              · have hkc : k < ct.length := by have := HCTL.out; omega
                obtain ⟨bb, o2, e2, -, -, hcell⟩ := HL2.out (by intro e; have := congrArg List.length e; rw [svl_len] at this; simp at this; rw [this] at hkc; exact absurd hkc (Nat.not_lt_zero _))
                have ck := hcell k (.string (str ct[k])) (by rw [svl, List.getElem?_map, List.getElem?_eq_getElem hkc]; rfl)
                injection e2 with e2
                injection e2 with e2 e3
                subst e2 e3
                rw [Nat.zero_add] at ck
                have HNX : Hid (str (ct.take (k + 1)).flatten = sv ++ str ct[k]) := by
                  show str (ct.take (k + 1)).flatten = sv ++ str ct[k]
                  rw [List.take_succ_eq_append_getElem hkc, List.flatten_append, str_append, hsv]
                  simp
                have hbz : ¬ 9223372036854775807 < sv.size + (str ct[k]).size := by
                  have h1 := congrArg ByteArray.size HNX.out
                  rw [ByteArray.size_append, str_size] at h1
                  have h2 := flatten_take_le ct (k + 1)
                  have h3 := HFL.out
                  omega
                clear hsv hcell
                generalize str ct[k] = sk at ck HNX hbz
                have hnk : (k : Int) < (hl : Int) := by omega
                go_wp2
                go_roundw
                case rel => exact ⟨k + 1, by omega, by go_num, by rw [HNX.out], trivial⟩
                case measure => simp [intOf]; omega
              · have hnk : ¬ (k : Int) < (hl : Int) := by omega
                have HTK : Hid (sv = str (R[i].x.putCut F.at_ F.data).cuts.flatten) := by
                  show sv = str (R[i].x.cuts.set F.at_ F.data).flatten
                  rw [← hsv, HCT.out, List.take_of_length_le (by have := HCTL.out; omega)]
                clear hsv c4
                go_wp2_with (first | ((with_reducible_and_instances refine load_Rg (.tmp 2) ?_ HG10.out HGZ.out ?_); exact rfl) | fail)
                refine HWO.out.mono ?_
                rintro e w11 ⟨A', c', rfl, hR11, hb11⟩
                have hs11 := HS10.out.on hb11
                have hs12 := hs11.setAll hR11
                have HG11 := Lib.hid (HGC.out ▸ hs11.g : w11.heap[w.heap.size]? = some (.cells gc 32 (0, 0)))
                obtain ⟨ds, hds⟩ : ∃ ds, rgCells (.slice A' (n - 1) c') { m with l := m.l.eraseIdx i } = ds := ⟨_, rfl⟩
                have HDZ : Hid (ds.size = 12) := by show ds.size = 12; rw [← hds]; exact rg_size _ _
                have HD1 : Hid (ds.all (·.oneCell') = true) := by show ds.all (·.oneCell') = true; rw [← hds]; exact rg_one _ _ _ _
                rw [hds] at hs12 ⊢
                obtain ⟨w12, hw12⟩ : ∃ w12, w12 = w11.setRow w.heap.size ds := ⟨_, rfl⟩
                rw [← hw12] at hs12
                have HS12 := Lib.hid hs12
                have HW12 := Lib.hid hw12
                clear hs11 hs12 hds hb11 hR11 HWO HG10 HS10 hw12 HL2
                go_upto_region 39 with (first | ((with_reducible_and_instances refine store_Rg (.tmp 2) (.tmp 206) ?_ ?_ HG11.out HGZ.out HDZ.out HD1.out ?_); exact rfl; exact rfl) | fail)
                rw [← HW12.out]
                clear HG11 HDZ HD1 HW12
                have HEND : Hid (∀ W, PuS w D fc A' (n - 1) c' (R.eraseIdx i) { m with l := m.l.eraseIdx i } W → W.cell? ⟨w.heap.size, 11, none⟩ = some (.int .i64 (m.counts.getD 5 0 : Int)) ∧ W.frozen? ⟨w.heap.size, 11, none⟩ = false ∧ ∃ cs, Dn w D { { m with l := m.l.eraseIdx i } with counts := bump m.counts 5 1 } cs (W.setCell ⟨w.heap.size, 11, none⟩ (.int .i64 ((m.counts.getD 5 0 : Int) + 1)))) := fun W hW =>
                  ⟨hW.gc 11 _ rfl, hW.gf 11, (hW.bump 5 (by decide) h6).dn⟩
                have hcn : m.counts.getD 5 0 ≤ 100000 := by have := getD_le_sum m.counts 5; unfold Gm.weight at hwt; omega
                obtain ⟨c7, fz7, cs, hdn⟩ := HEND.out _ HS12.out
                generalize m.counts.getD 5 0 = q at c7 hdn hcn
                have HDN := Lib.hid hdn
                have HG := Lib.hid hdn.g
                have HR := Lib.hid hdn.r
                have HZ := Lib.hid hdn.size
                have HO := Lib.hid hdn.one
                unfold rgZero at HR
                clear hdn HEND
                go_upto_region 40 with fail
                go_wp2_with (first | ((with_reducible_and_instances refine load_Rg (.tmp 2) ?_ HG.out HZ.out ?_); exact rfl) | ((with_reducible_and_instances refine store_Rg (.tmp 4) (.tmp 213) ?_ ?_ HR.out ?_ HZ.out HO.out ?_); exact rfl; exact rfl; exact rfl) | fail)
                exact bodyPost_ret (results_cell_tmp2 rfl _ _ (w.heap.size + 1 + 1) _ rfl (run_loadVar_row _ (w.heap.size + 1 + 1) _ _ cs (0, 0) _ HDN.out.row Tryd.underlying32 rfl (infoRg HZ.out))) rfl (by rw [HIE.out, ← HX.out, HTK.out]; exact HDN.out.q _ 5)
end

end Go.Proofs.YthkongnjokmmfaaDoor
