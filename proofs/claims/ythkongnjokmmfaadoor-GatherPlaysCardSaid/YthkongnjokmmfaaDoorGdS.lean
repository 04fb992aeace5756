/- Stage 13: the document's Put: the part of the chunk is there: the part is kept (the door seat alone). -/
import Derived.Test.YthkongnjokmmfaaDoorGdK
set_option maxRecDepth 20000
namespace Go.Proofs.YthkongnjokmmfaaDoor
open Go.RowKit Go.Sort

section
variable {w : World} {D : Nat → Prop} {A : Option Addr} {n c : Nat} {R : List Rp} {m : Gm}
set_option maxRecDepth 100000 in
set_option maxHeartbeats 3200000 in
theorem refPut_in (h : RgAt w D A n c R m) (hn : n ≤ 1000000) (h6 : m.counts.length = 6) (hwt : m.weight ≤ 100000) (F : Fr) (fc : Array Value) (hF : FrL w F fc) (hw : F.Wf) (hmay : mayB F.id = true) (hrig : rightZ F m.chunk m.most = true) (i : Nat) (hi : i < R.length) (hz : fndZ m.l F.id = (i : Int)) (hsz2 : R[i].x.size = F.size) (hat : F.at_ < R[i].x.has.length) (hold : R[i].x.has.getD F.at_ false = false) (hlen : R[i].x.has.length ≤ 2000000) (hcl : R[i].x.cuts.length = R[i].x.has.length) (hD : ∀ k, D k → k < w.heap.size) (hfull : (R[i].x.putCut F.at_ F.data).full = false) :
    Calls Tryd.prog 9 #[.agg (rgCells (.slice A n c) m), .agg fc] w (PutQ w D { m with l := m.l.set i (R[i].x.putCut F.at_ F.data), counts := bump m.counts 4 1 } [] 4) := by
  obtain ⟨W0, hW0⟩ : ∃ W0, W0 = ((w.alloc (.cells (rgCells (.slice A n c) m) 32)).alloc (.cells fc 41)).alloc (.cells rgZero 32) := ⟨_, rfl⟩
  have hS := PuS.start h fc hW0
  have HS : Hid (PuS w D fc A n c R m W0) := Lib.hid hS
  have HF : Hid (FrL w F fc) := Lib.hid hF
  have HMY : Hid (∀ W, Calls Tryd.prog 24 #[valId F.id, .int .i64 64] W fun e w' => e = .returned (.bool true) ∧ RowKit.Below W.heap.size W w') := fun W => (refMay_any F.id 64 W (by omega)).mono fun e w' ⟨h1, h2⟩ => ⟨by rw [h1, ← hmay]; congr 2; unfold mayB; rw [Bool.eq_iff_iff]; simp only [Bool.and_eq_true, decide_eq_true_eq]; omega, h2.below⟩
  have HRI : Hid (∀ W, RowKit.Below w.heap.size w W → Calls Tryd.prog 25 #[.agg fc, .int .i64 (m.chunk : Int), .int .i64 (m.most : Int)] W fun e w' => e = .returned (.bool true) ∧ RowKit.Below W.heap.size W w') := fun W hW => by rw [← hrig]; exact refRight_any F fc m.chunk m.most W (hF.on hW) hw
  have HFI : Hid (∀ W, PuS w D fc A n c R m W → Calls Tryd.prog 26 #[.agg (rgCells (.slice A n c) m), valId F.id] W fun e w' => e = .returned (.int .i64 ((i : Int))) ∧ RowKit.Below W.heap.size W w') := fun W hW => by rw [← hz]; exact refFind_any hW.at_ (by omega) F.id
  have hfsz : fc.size = 16 := hF.size
  obtain ⟨gc, hgc⟩ : ∃ gc, rgCells (.slice A n c) m = gc := ⟨_, rfl⟩
  have HGC : Hid (rgCells (.slice A n c) m = gc) := Lib.hid hgc
  have HGZ : Hid (gc.size = 12) := by show gc.size = 12; rw [← hgc]; exact rg_size _ _
  have HW0 := Lib.hid (show W0 = ((w.alloc (.cells gc 32)).alloc (.cells fc 41)).alloc (.cells rgZero 32) by rw [← hgc]; exact hW0)
  obtain ⟨-, -, -, b3, b4, -, b6, b7, b8, -, -⟩ := hF.at_
  have x3 := hS.fcell 3 _ b3
  have x4 := hS.fcell 4 _ b4
  rw [hgc] at HFI ⊢
  unfold valId at HMY HFI
  unfold rgZero at HW0
  have hsz := hS.size
  have B3 := Lib.hid b3
  have B4 := Lib.hid b4
  have B6 := Lib.hid b6
  have B7 := Lib.hid b7
  have B8 := Lib.hid b8
  clear hS hF hW0 hgc h hmay hrig b3 b4 b6 b7 b8 hz
  have HAT := Lib.hid hat
  have HLEN := Lib.hid hlen
  have HCL := Lib.hid hcl
  have HLD := Lib.hid hold
  clear hat hlen hcl hold
  go_enter Tryd.func9, Tryd.ntmps9
  go_upto_region 1 with fail
  rw [← HW0.out]
  go_wp2_with fail
  refine (HMY.out _).mono ?_
  rintro e w1 ⟨rfl, hb1⟩
  have hs1 := HS.out.on hb1
  have HS1 := Lib.hid hs1
  have HF1 := Lib.hid hs1.f
  have x0 := hs1.gc 0 (.int .i64 (m.chunk : Int)) rfl
  have x1 := hs1.gc 1 (.int .i64 (m.most : Int)) rfl
  have HR1 := Lib.hid (HRI.out w1 hs1.below)
  clear x3 x4 hb1 HMY HRI hs1 HW0 HS
  go_wp2_with (first | ((with_reducible_and_instances refine load_frame_on (.tmp 3) ?_ ?_ HF1.out hfsz ?_); exact rfl; exact rfl) | fail)
  refine HR1.out.mono ?_
  rintro e w2 ⟨rfl, hb2⟩
  have hs2 := HS1.out.on hb2
  have HS2 := Lib.hid hs2
  have HG2 := Lib.hid (HGC.out ▸ hs2.g : w2.heap[w.heap.size]? = some (.cells gc 32 (0, 0)))
  have x3 := hs2.fcell 3 _ B3.out
  have x4 := hs2.fcell 4 _ B4.out
  have HF2 := Lib.hid (HFI.out w2 hs2)
  clear x0 x1 hb2 HR1 HF1 HFI hs2 HS1
  go_wp2_with (first | ((with_reducible_and_instances refine load_Rg (.tmp 2) ?_ HG2.out HGZ.out ?_); exact rfl) | fail)
  refine HF2.out.mono ?_
  rintro e w3 ⟨rfl, hb3⟩
  have hs3 := HS2.out.on hb3
  have HS3 := Lib.hid hs3
  clear x3 x4 hb3 HF2 HG2 HS2
  obtain ⟨pb, po, hA, -, -, -, p2, -, -⟩ := hs3.at_.part hi
  have x3 := hs3.gc 3 (.slice (some ⟨pb, po, none⟩) n c) (by rw [hA]; rfl)
  have hin : i < n := by have := hs3.at_.len; omega
  have hnc := hs3.at_.nc
  have hcm : c ≤ 9223372036854775807 := by have := hs3.at_.cm; unfold maxLen at this; omega
  clear hA
  have x8 := hs3.fcell 8 _ B8.out
  have hfs : F.size < 4294967296 := hw.size
  rw [hsz2] at p2
  have hbn : ((F.size : Int) != (F.size : Int)) = false := by simp
  clear hs3
  go_upto_region 5 with fail
  go_quiet (fail)
  have hs4 := HS3.out.on (below_drewN (RowKit.Below.refl w3.heap.size w3) nq)
  generalize hwd3 : w3.drewN nq = w4 at hs4 ⊢
  have HS4 := Lib.hid hs4
  clear hwd3 HS3
  clear p2 x3 x8 hfs hbn hnc hcm hin
  obtain ⟨pb, po, hA, -, -, -, -, p3, -⟩ := hs4.at_.part hi
  have x3 := hs4.gc 3 (.slice (some ⟨pb, po, none⟩) n c) (by rw [hA]; rfl)
  have hin : i < n := by have := hs4.at_.len; omega
  have hnc := hs4.at_.nc
  have hcm : c ≤ 9223372036854775807 := by have := hs4.at_.cm; unfold maxLen at this; omega
  clear hA
  have x6 := hs4.fcell 6 _ B6.out
  have hfa : F.at_ < 4294967296 := hw.at_
  have hat := HAT.out
  have hold := HLD.out
  obtain ⟨hb, ho, hHA, -, -, hcell⟩ := (hs4.at_.has _ (List.getElem_mem hi)).1 (by intro e; have := congrArg List.length e; simp [bvl] at this; rw [this] at hat; exact absurd hat (Nat.not_lt_zero _))
  have q1 := hcell F.at_ (.bool false) (by rw [bvl, List.getElem?_map, List.getElem?_eq_getElem hat]; rw [List.getD_eq_getElem?_getD, List.getElem?_eq_getElem hat] at hold; simpa using hold)
  obtain ⟨-, hh1, hh2⟩ := hs4.at_.has _ (List.getElem_mem hi)
  unfold maxLen at hh2
  rw [hHA] at p3
  generalize R[i].x.has.length = hl at p3 hat hh1
  generalize R[i].h.2 = hc at p3 hh1 hh2
  clear hs4 hcell hHA hold
  go_upto_region 8 with fail
  go_quiet (fail)
  have hs5 := HS4.out.on (below_drewN (RowKit.Below.refl w4.heap.size w4) nq)
  generalize hwd4 : w4.drewN nq = w5 at hs5 ⊢
  have HS5 := Lib.hid hs5
  clear hwd4 HS4
  clear hat hs5 p3 x3 x6 q1 hfa hh1 hh2 hnc hcm hin
  have hdi : decide ((i : Int) < 0) = false := decide_eq_false (by omega)
  have hdn : ¬ (i : Int) < 0 := by omega
  go_upto_region 11 with fail
  go_quiet (fail)
  have hs6 := HS5.out.on (below_drewN (RowKit.Below.refl w5.heap.size w5) nq)
  generalize hwd5 : w5.drewN nq = w6 at hs6 ⊢
  have HS6 := Lib.hid hs6
  clear hwd5 HS5
  clear hs6
  have hat := HAT.out
  have hlen := HLEN.out
  have hcl := HCL.out
  have hsT := HS6.out
  have hlR := hsT.at_.len
  obtain ⟨pb, po, hA, hrg⟩ := hsT.at_.range hi
  have x3 := hsT.gc 3 (.slice (some ⟨pb, po, none⟩) n c) (by rw [hA]; rfl)
  have hin : i < n := by omega
  have hnc := hsT.at_.nc
  have hcm : c ≤ 9223372036854775807 := by have := hsT.at_.cm; unfold maxLen at this; omega
  obtain ⟨V1, hV1⟩ : ∃ V1, V1 = (w6.alloc (.cells #[.int .u8 0, .int .u64 0, .int .i64 0, .slice none 0 0, .slice none 0 0] 71)).setRow w6.heap.size (encRp R[i]).toArray := ⟨_, rfl⟩
  obtain ⟨hs1, g1, c1, W3, g2, c2, W6, hr1, hs3, hr2, hs6, k1, k2, k3, k4, V7, hV7, hs7, ⟨ob, hob⟩, hfz7, V8, hV8, hs8, ⟨os, hos⟩, hfz8, hE⟩ := tail_mem hsT.at_ (hsT.lt hD) hi hlen hcl hat F.data #[.int .u8 0, .int .u64 0, .int .i64 0, .slice none 0 0, .slice none 0 0] hV1
  have hV1s : w6.heap.size < V1.heap.size := by rw [hV1]; simp
  unfold maxLen at k2 k4
  obtain ⟨pc0, hpc0⟩ : ∃ pc0, (encRp R[i]).toArray = pc0 := ⟨_, rfl⟩
  have hpz : pc0.size = 5 := by rw [← hpc0]; rfl
  have hp1 : pc0.all (·.oneCell') = true := by rw [← hpc0]; exact encRp_oneA _
  have HPZ := Lib.hid hpz
  have HP1 := Lib.hid hp1
  have HPC := Lib.hid hpc0
  have HRG := Lib.hid hrg
  have HV1 := Lib.hid (hpc0 ▸ hV1)
  have HR0 := Lib.hid (heap_alloc_new w6 (.cells #[.int .u8 0, .int .u64 0, .int .i64 0, .slice none 0 0, .slice none 0 0] 71 (0, 0)))
  have HR1 := Lib.hid hr1
  have HR2 := Lib.hid hr2
  have HS3 := Lib.hid hs3
  have HT6 := Lib.hid hs6
  have HS7 := Lib.hid hs7
  have HS8 := Lib.hid hs8
  have HB7 := Lib.hid hob
  have HZ7 := Lib.hid hfz7
  have HB8 := Lib.hid hos
  have HZ8 := Lib.hid hfz8
  have HV7 := Lib.hid hV7
  have HV8 := Lib.hid hV8
  have HE9 := Lib.hid hE
  have HST := Lib.hid hsT
  have HS1 := Lib.hid hs1
  clear hsT hrg hV1 hs1 hr1 hr2 hs3 hs6 hV7 hs7 hob hfz7 hV8 hs8 hos hfz8 hE hpc0 hpz hp1 hA hat hlen hcl HLD
  have HAT2 := HAT
  have HLEN2 := HLEN
  have HCL2 := HCL
  clear HAT HLEN HCL
  go_upto_region 26 with fail
  go_upto_region 27 with (first | ((with_reducible_and_instances refine load_Pc (.tmp 163) ?_ HRG.out HPC.out ?_); exact rfl) | ((with_reducible_and_instances refine store_P (.tmp 10) (.tmp 164) ?_ ?_ HR0.out ?_ HPZ.out HP1.out ?_); exact rfl; exact rfl; exact rfl) | fail)
  rw [← HV1.out]
  have y3 := HS1.out.c 3 (.slice R[i].h.1 R[i].x.has.length R[i].h.2) rfl
  have z3 := HS3.out.c 3 (.slice R[i].h.1 R[i].x.has.length R[i].h.2) rfl
  have zf3 := HS3.out.f 3
  have hsz3 := HS3.out.size
  clear x3 HV1 HR0 HPZ HP1 HPC HRG hdi hdn
  go_upto_region 28 with (first | (at_builtin; refine wpList_append_run rfl (.tmp 165) (.tmp 167) 68 rfl rfl rfl HR1.out ?_) | fail)
  have z4 : W3.cell? ⟨w6.heap.size, 4, none⟩ = some (.slice R[i].c.1 R[i].x.has.length R[i].c.2) := by rw [← HCL2.out]; exact HS3.out.c 4 _ rfl
  have u4 : W6.cell? ⟨w6.heap.size, 4, none⟩ = some (.slice R[i].c.1 R[i].x.has.length R[i].c.2) := by rw [← HCL2.out]; exact HT6.out.c 4 _ rfl
  have uf4 := HT6.out.f 4
  clear y3 z3 zf3 HR1 HS1
  go_upto_region 29 with (first | (at_builtin; refine wpList_append_run rfl (.tmp 170) (.tmp 172) 69 rfl rfl rfl HR2.out ?_) | fail)
  rw [← HV7.out]
  have y3 := HS7.out.c 3 (.slice (some ⟨g1, 0, none⟩) R[i].x.has.length c1) rfl
  have x6 := (HST.out.on HS7.out.below).fcell 6 _ B6.out
  have hob := HB7.out
  have hfz7 := HZ7.out
  have hat := HAT2.out
  have hfa : F.at_ < 4294967296 := hw.at_
  clear z4 u4 uf4 HR2 HS3 HT6 HV7 HB7 HZ7
  go_upto_region 30 with fail
  rw [← HV8.out]
  have hs8 := HST.out.on HS8.out.below
  obtain ⟨hdp, hde, -, -, -, -, hdl⟩ := HF.out.on hs8.below
  have y4 := HS8.out.c 4 (.slice (some ⟨g2, 0, none⟩) R[i].x.has.length c2) rfl
  have x6 := hs8.fcell 6 _ B6.out
  have x15 := hs8.fcell 15 (.slice (hdp 4).1 F.data.length (hdp 4).2) (by rw [hde]; rfl)
  have hos := HB8.out
  have hfz8 := HZ8.out
  have hst : ∀ cc, (convert 39 9 (.slice (hdp 4).1 F.data.length cc)).run Tryd.prog V8 = .ok (.string (str F.data)) V8 := fun cc => strs_of rfl hdl cc
  generalize (hdp 4).1 = dA at x15 hst
  generalize (hdp 4).2 = dc at x15
  generalize F.data.length = dn at x15 hst
  clear y3 hob hfz7 HS7 HV8 HB8 HZ8 hs8 hde hdl HF
  go_upto_region 31 with fail
  have HV9 := Lib.hid (rfl : V8.setCell ⟨g2, F.at_, none⟩ (.string (str F.data)) = V8.setCell ⟨g2, F.at_, none⟩ (.string (str F.data)))
  generalize hv9 : V8.setCell ⟨g2, F.at_, none⟩ (.string (str F.data)) = V9 at HE9 ⊢
  clear hv9 HV9 hos hfz8 hst y4 x6 x15 HS8 hfa
  have hfu := refFull_any (R[i].x.has.set F.at_ true) (.int .u8 (R[i].x.id.f : Int)) (.int .u64 (R[i].x.id.s : Int)) (.int .i64 (R[i].x.size : Int)) (some ⟨g1, 0, none⟩) c1 (.slice (some ⟨g2, 0, none⟩) R[i].x.has.length c2) V9 HE9.out.l1.lies (by rw [List.length_set]; have := HLEN2.out; omega) ⟨_, rfl⟩ ⟨_, rfl⟩ ⟨_, rfl⟩ ⟨_, _, _, rfl⟩
  rw [List.length_set, show ((R[i].x.has.set F.at_ true).all fun b => b) = _ from hfull] at hfu
  have hrow := HE9.out.s.p
  obtain ⟨pc, hpc⟩ : ∃ pc : Array Value, #[.int .u8 (R[i].x.id.f : Int), .int .u64 (R[i].x.id.s : Int), .int .i64 (R[i].x.size : Int), .slice (some ⟨g1, 0, none⟩) R[i].x.has.length c1, .slice (some ⟨g2, 0, none⟩) R[i].x.has.length c2] = pc := ⟨_, rfl⟩
  have hpcz : pc.size = 5 := by rw [← hpc]; rfl
  rw [hpc] at hfu hrow
  have HPC := Lib.hid hpc
  have HPZ := Lib.hid hpcz
  have HFU := Lib.hid hfu
  have HROW := Lib.hid hrow
  clear hpc hpcz hfu hrow
  go_wp2_with (first | ((with_reducible_and_instances refine load_P (.tmp 10) ?_ HROW.out HPZ.out ?_); exact rfl) | fail)
  refine HFU.out.mono ?_
  rintro e w10 ⟨rfl, hb10⟩
  have HE10 := Lib.hid (HE9.out.on hb10)
  have HS10 := Lib.hid (HST.out.on HE10.out.s.below)
  clear hb10 HFU HROW HE9 HST
  obtain ⟨g3, c3, V11, hr3, hrow, hth, k5, k6, hV12⟩ := kept_mem HS10.out hn hD hi HCL2.out HE10.out
  rw [HPC.out] at hrow
  have x3 := HS10.out.gc 3 (.slice A n c) rfl
  have HR3 := Lib.hid hr3
  have HROW := Lib.hid hrow
  have HTH := Lib.hid hth
  have HV12 := Lib.hid hV12
  have HP1 : Hid (pc.all (·.oneCell') = true) := by show pc.all (·.oneCell') = true; rw [← HPC.out]; simp [Value.oneCell']
  have hs10 : w.heap.size < w10.heap.size := by have := HS10.out.size; omega
  clear hr3 hrow hth hV12 HE10
  go_upto_region 42 with (first | (at_builtin; refine wpList_append_run rfl (.tmp 215) (.tmp 217) 29 rfl rfl rfl HR3.out ?_) | fail)
  clear x3
  go_upto_region 43 with (first | ((with_reducible_and_instances refine load_P (.tmp 10) ?_ HROW.out HPZ.out ?_); exact rfl) | ((with_reducible_and_instances refine store_Pm (.tmp 222) (.tmp 221) ?_ ?_ HPZ.out HP1.out HTH.out ?_); exact rfl; exact rfl) | fail)
  have hV12 : ∃ V12, V12 = V11.setCells g3 (i * 5) pc.toList := ⟨_, rfl⟩
  obtain ⟨V12, hV12⟩ := hV12
  obtain ⟨x3, xf3, hs13⟩ := HV12.out V12 (by rw [hV12, ← HPC.out])
  rw [← hV12]
  have HS13 := Lib.hid hs13
  clear hs13 HR3 HROW HTH HV12 hV12 HS10
  go_upto_region 44 with fail
  clear x3 xf3
  have HEND : Hid (∀ W, PuS w D fc (some ⟨g3, 0, none⟩) n c3 (R.set i (putRp R[i].x F.at_ F.data g1 c1 g2 c2)) { m with l := m.l.set i (R[i].x.putCut F.at_ F.data) } W → W.cell? ⟨w.heap.size, 10, none⟩ = some (.int .i64 (m.counts.getD 4 0 : Int)) ∧ W.frozen? ⟨w.heap.size, 10, none⟩ = false ∧ ∃ cs, Dn w D { { m with l := m.l.set i (R[i].x.putCut F.at_ F.data) } with counts := bump m.counts 4 1 } cs (W.setCell ⟨w.heap.size, 10, none⟩ (.int .i64 ((m.counts.getD 4 0 : Int) + 1)))) := fun W hW =>
    ⟨hW.gc 10 _ rfl, hW.gf 10, (hW.bump 4 (by decide) h6).dn⟩
  have hcn : m.counts.getD 4 0 ≤ 100000 := by have := getD_le_sum m.counts 4; unfold Gm.weight at hwt; omega
  obtain ⟨c7, fz7, cs, hdn⟩ := HEND.out _ HS13.out
  generalize m.counts.getD 4 0 = q at c7 hdn hcn
  have HDN := Lib.hid hdn
  have HG := Lib.hid hdn.g
  have HR := Lib.hid hdn.r
  have HZ := Lib.hid hdn.size
  have HO := Lib.hid hdn.one
  unfold rgZero at HR
  clear hdn HEND
  go_upto_region 45 with fail
  go_wp2_with (first | ((with_reducible_and_instances refine load_Rg (.tmp 2) ?_ HG.out HZ.out ?_); exact rfl) | ((with_reducible_and_instances refine store_Rg (.tmp 4) (.tmp 231) ?_ ?_ HR.out ?_ HZ.out HO.out ?_); exact rfl; exact rfl; exact rfl) | fail)
  exact bodyPost_ret (results_cell_tmp2 rfl _ _ (w.heap.size + 1 + 1) _ rfl (run_loadVar_row _ (w.heap.size + 1 + 1) _ _ cs (0, 0) _ HDN.out.row Tryd.underlying32 rfl (infoRg HZ.out))) rfl (HDN.out.q [] 4)
end

end Go.Proofs.YthkongnjokmmfaaDoor

set_option maxRecDepth 20000
namespace Go.Proofs.YthkongnjokmmfaaDoor
open Go.RowKit Go.Sort

section
variable {w : World} {D : Nat → Prop} {A : Option Addr} {n c : Nat} {R : List Rp} {m : Gm}
set_option maxRecDepth 100000 in
set_option maxHeartbeats 3200000 in
theorem refPut_whole (h : RgAt w D A n c R m) (hn : n ≤ 1000000) (h6 : m.counts.length = 6) (hwt : m.weight ≤ 100000) (F : Fr) (fc : Array Value) (hF : FrL w F fc) (hw : F.Wf) (hmay : mayB F.id = true) (hrig : rightZ F m.chunk m.most = true) (i : Nat) (hi : i < R.length) (hz : fndZ m.l F.id = (i : Int)) (hsz2 : R[i].x.size = F.size) (hat : F.at_ < R[i].x.has.length) (hold : R[i].x.has.getD F.at_ false = false) (hlen : R[i].x.has.length ≤ 2000000) (hcl : R[i].x.cuts.length = R[i].x.has.length) (hD : ∀ k, D k → k < w.heap.size) (hfull : (R[i].x.putCut F.at_ F.data).full = true) (hfl : (R[i].x.cuts.set F.at_ F.data).flatten.length ≤ 10000000000000) :
    Calls Tryd.prog 9 #[.agg (rgCells (.slice A n c) m), .agg fc] w (PutQ w D { m with l := m.l.eraseIdx i, counts := bump m.counts 5 1 } (R[i].x.putCut F.at_ F.data).cuts.flatten 5) := by
  obtain ⟨W0, hW0⟩ : ∃ W0, W0 = ((w.alloc (.cells (rgCells (.slice A n c) m) 32)).alloc (.cells fc 41)).alloc (.cells rgZero 32) := ⟨_, rfl⟩
  have hS := PuS.start h fc hW0
  have HS : Hid (PuS w D fc A n c R m W0) := Lib.hid hS
  have HF : Hid (FrL w F fc) := Lib.hid hF
  have HMY : Hid (∀ W, Calls Tryd.prog 24 #[valId F.id, .int .i64 64] W fun e w' => e = .returned (.bool true) ∧ RowKit.Below W.heap.size W w') := fun W => (refMay_any F.id 64 W (by omega)).mono fun e w' ⟨h1, h2⟩ => ⟨by rw [h1, ← hmay]; congr 2; unfold mayB; rw [Bool.eq_iff_iff]; simp only [Bool.and_eq_true, decide_eq_true_eq]; omega, h2.below⟩
  have HRI : Hid (∀ W, RowKit.Below w.heap.size w W → Calls Tryd.prog 25 #[.agg fc, .int .i64 (m.chunk : Int), .int .i64 (m.most : Int)] W fun e w' => e = .returned (.bool true) ∧ RowKit.Below W.heap.size W w') := fun W hW => by rw [← hrig]; exact refRight_any F fc m.chunk m.most W (hF.on hW) hw
  have HFI : Hid (∀ W, PuS w D fc A n c R m W → Calls Tryd.prog 26 #[.agg (rgCells (.slice A n c) m), valId F.id] W fun e w' => e = .returned (.int .i64 ((i : Int))) ∧ RowKit.Below W.heap.size W w') := fun W hW => by rw [← hz]; exact refFind_any hW.at_ (by omega) F.id
  have hfsz : fc.size = 16 := hF.size
  obtain ⟨gc, hgc⟩ : ∃ gc, rgCells (.slice A n c) m = gc := ⟨_, rfl⟩
  have HGC : Hid (rgCells (.slice A n c) m = gc) := Lib.hid hgc
  have HGZ : Hid (gc.size = 12) := by show gc.size = 12; rw [← hgc]; exact rg_size _ _
  have HW0 := Lib.hid (show W0 = ((w.alloc (.cells gc 32)).alloc (.cells fc 41)).alloc (.cells rgZero 32) by rw [← hgc]; exact hW0)
  obtain ⟨-, -, -, b3, b4, -, b6, b7, b8, -, -⟩ := hF.at_
  have x3 := hS.fcell 3 _ b3
  have x4 := hS.fcell 4 _ b4
  rw [hgc] at HFI ⊢
  unfold valId at HMY HFI
  unfold rgZero at HW0
  have hsz := hS.size
  have B3 := Lib.hid b3
  have B4 := Lib.hid b4
  have B6 := Lib.hid b6
  have B7 := Lib.hid b7
  have B8 := Lib.hid b8
  clear hS hF hW0 hgc h hmay hrig b3 b4 b6 b7 b8 hz
  have HAT := Lib.hid hat
  have HLEN := Lib.hid hlen
  have HCL := Lib.hid hcl
  have HLD := Lib.hid hold
  clear hat hlen hcl hold
  go_enter Tryd.func9, Tryd.ntmps9
  go_upto_region 1 with fail
  rw [← HW0.out]
  go_wp2_with fail
  refine (HMY.out _).mono ?_
  rintro e w1 ⟨rfl, hb1⟩
  have hs1 := HS.out.on hb1
  have HS1 := Lib.hid hs1
  have HF1 := Lib.hid hs1.f
  have x0 := hs1.gc 0 (.int .i64 (m.chunk : Int)) rfl
  have x1 := hs1.gc 1 (.int .i64 (m.most : Int)) rfl
  have HR1 := Lib.hid (HRI.out w1 hs1.below)
  clear x3 x4 hb1 HMY HRI hs1 HW0 HS
  go_wp2_with (first | ((with_reducible_and_instances refine load_frame_on (.tmp 3) ?_ ?_ HF1.out hfsz ?_); exact rfl; exact rfl) | fail)
  refine HR1.out.mono ?_
  rintro e w2 ⟨rfl, hb2⟩
  have hs2 := HS1.out.on hb2
  have HS2 := Lib.hid hs2
  have HG2 := Lib.hid (HGC.out ▸ hs2.g : w2.heap[w.heap.size]? = some (.cells gc 32 (0, 0)))
  have x3 := hs2.fcell 3 _ B3.out
  have x4 := hs2.fcell 4 _ B4.out
  have HF2 := Lib.hid (HFI.out w2 hs2)
  clear x0 x1 hb2 HR1 HF1 HFI hs2 HS1
  go_wp2_with (first | ((with_reducible_and_instances refine load_Rg (.tmp 2) ?_ HG2.out HGZ.out ?_); exact rfl) | fail)
  refine HF2.out.mono ?_
  rintro e w3 ⟨rfl, hb3⟩
  have hs3 := HS2.out.on hb3
  have HS3 := Lib.hid hs3
  clear x3 x4 hb3 HF2 HG2 HS2
  obtain ⟨pb, po, hA, -, -, -, p2, -, -⟩ := hs3.at_.part hi
  have x3 := hs3.gc 3 (.slice (some ⟨pb, po, none⟩) n c) (by rw [hA]; rfl)
  have hin : i < n := by have := hs3.at_.len; omega
  have hnc := hs3.at_.nc
  have hcm : c ≤ 9223372036854775807 := by have := hs3.at_.cm; unfold maxLen at this; omega
  clear hA
  have x8 := hs3.fcell 8 _ B8.out
  have hfs : F.size < 4294967296 := hw.size
  rw [hsz2] at p2
  have hbn : ((F.size : Int) != (F.size : Int)) = false := by simp
  clear hs3
  go_upto_region 5 with fail
  go_quiet (fail)
  have hs4 := HS3.out.on (below_drewN (RowKit.Below.refl w3.heap.size w3) nq)
  generalize hwd3 : w3.drewN nq = w4 at hs4 ⊢
  have HS4 := Lib.hid hs4
  clear hwd3 HS3
  clear p2 x3 x8 hfs hbn hnc hcm hin
  obtain ⟨pb, po, hA, -, -, -, -, p3, -⟩ := hs4.at_.part hi
  have x3 := hs4.gc 3 (.slice (some ⟨pb, po, none⟩) n c) (by rw [hA]; rfl)
  have hin : i < n := by have := hs4.at_.len; omega
  have hnc := hs4.at_.nc
  have hcm : c ≤ 9223372036854775807 := by have := hs4.at_.cm; unfold maxLen at this; omega
  clear hA
  have x6 := hs4.fcell 6 _ B6.out
  have hfa : F.at_ < 4294967296 := hw.at_
  have hat := HAT.out
  have hold := HLD.out
  obtain ⟨hb, ho, hHA, -, -, hcell⟩ := (hs4.at_.has _ (List.getElem_mem hi)).1 (by intro e; have := congrArg List.length e; simp [bvl] at this; rw [this] at hat; exact absurd hat (Nat.not_lt_zero _))
  have q1 := hcell F.at_ (.bool false) (by rw [bvl, List.getElem?_map, List.getElem?_eq_getElem hat]; rw [List.getD_eq_getElem?_getD, List.getElem?_eq_getElem hat] at hold; simpa using hold)
  obtain ⟨-, hh1, hh2⟩ := hs4.at_.has _ (List.getElem_mem hi)
  unfold maxLen at hh2
  rw [hHA] at p3
  generalize R[i].x.has.length = hl at p3 hat hh1
  generalize R[i].h.2 = hc at p3 hh1 hh2
  clear hs4 hcell hHA hold
  go_upto_region 8 with fail
  go_quiet (fail)
  have hs5 := HS4.out.on (below_drewN (RowKit.Below.refl w4.heap.size w4) nq)
  generalize hwd4 : w4.drewN nq = w5 at hs5 ⊢
  have HS5 := Lib.hid hs5
  clear hwd4 HS4
  clear hat hs5 p3 x3 x6 q1 hfa hh1 hh2 hnc hcm hin
  have hdi : decide ((i : Int) < 0) = false := decide_eq_false (by omega)
  have hdn : ¬ (i : Int) < 0 := by omega
  go_upto_region 11 with fail
  go_quiet (fail)
  have hs6 := HS5.out.on (below_drewN (RowKit.Below.refl w5.heap.size w5) nq)
  generalize hwd5 : w5.drewN nq = w6 at hs6 ⊢
  have HS6 := Lib.hid hs6
  clear hwd5 HS5
  clear hs6
  have hat := HAT.out
  have hlen := HLEN.out
  have hcl := HCL.out
  have hsT := HS6.out
  have hlR := hsT.at_.len
  obtain ⟨pb, po, hA, hrg⟩ := hsT.at_.range hi
  have x3 := hsT.gc 3 (.slice (some ⟨pb, po, none⟩) n c) (by rw [hA]; rfl)
  have hin : i < n := by omega
  have hnc := hsT.at_.nc
  have hcm : c ≤ 9223372036854775807 := by have := hsT.at_.cm; unfold maxLen at this; omega
  obtain ⟨V1, hV1⟩ : ∃ V1, V1 = (w6.alloc (.cells #[.int .u8 0, .int .u64 0, .int .i64 0, .slice none 0 0, .slice none 0 0] 71)).setRow w6.heap.size (encRp R[i]).toArray := ⟨_, rfl⟩
  obtain ⟨hs1, g1, c1, W3, g2, c2, W6, hr1, hs3, hr2, hs6, k1, k2, k3, k4, V7, hV7, hs7, ⟨ob, hob⟩, hfz7, V8, hV8, hs8, ⟨os, hos⟩, hfz8, hE⟩ := tail_mem hsT.at_ (hsT.lt hD) hi hlen hcl hat F.data #[.int .u8 0, .int .u64 0, .int .i64 0, .slice none 0 0, .slice none 0 0] hV1
  have hV1s : w6.heap.size < V1.heap.size := by rw [hV1]; simp
  unfold maxLen at k2 k4
  obtain ⟨pc0, hpc0⟩ : ∃ pc0, (encRp R[i]).toArray = pc0 := ⟨_, rfl⟩
  have hpz : pc0.size = 5 := by rw [← hpc0]; rfl
  have hp1 : pc0.all (·.oneCell') = true := by rw [← hpc0]; exact encRp_oneA _
  have HPZ := Lib.hid hpz
  have HP1 := Lib.hid hp1
  have HPC := Lib.hid hpc0
  have HRG := Lib.hid hrg
  have HV1 := Lib.hid (hpc0 ▸ hV1)
  have HR0 := Lib.hid (heap_alloc_new w6 (.cells #[.int .u8 0, .int .u64 0, .int .i64 0, .slice none 0 0, .slice none 0 0] 71 (0, 0)))
  have HR1 := Lib.hid hr1
  have HR2 := Lib.hid hr2
  have HS3 := Lib.hid hs3
  have HT6 := Lib.hid hs6
  have HS7 := Lib.hid hs7
  have HS8 := Lib.hid hs8
  have HB7 := Lib.hid hob
  have HZ7 := Lib.hid hfz7
  have HB8 := Lib.hid hos
  have HZ8 := Lib.hid hfz8
  have HV7 := Lib.hid hV7
  have HV8 := Lib.hid hV8
  have HE9 := Lib.hid hE
  have HST := Lib.hid hsT
  have HS1 := Lib.hid hs1
  clear hsT hrg hV1 hs1 hr1 hr2 hs3 hs6 hV7 hs7 hob hfz7 hV8 hs8 hos hfz8 hE hpc0 hpz hp1 hA hat hlen hcl HLD
  have HAT2 := HAT
  have HLEN2 := HLEN
  have HCL2 := HCL
  clear HAT HLEN HCL
  go_upto_region 26 with fail
  go_upto_region 27 with (first | ((with_reducible_and_instances refine load_Pc (.tmp 163) ?_ HRG.out HPC.out ?_); exact rfl) | ((with_reducible_and_instances refine store_P (.tmp 10) (.tmp 164) ?_ ?_ HR0.out ?_ HPZ.out HP1.out ?_); exact rfl; exact rfl; exact rfl) | fail)
  rw [← HV1.out]
  have y3 := HS1.out.c 3 (.slice R[i].h.1 R[i].x.has.length R[i].h.2) rfl
  have z3 := HS3.out.c 3 (.slice R[i].h.1 R[i].x.has.length R[i].h.2) rfl
  have zf3 := HS3.out.f 3
  have hsz3 := HS3.out.size
  clear x3 HV1 HR0 HPZ HP1 HPC HRG hdi hdn
  go_upto_region 28 with (first | (at_builtin; refine wpList_append_run rfl (.tmp 165) (.tmp 167) 68 rfl rfl rfl HR1.out ?_) | fail)
  have z4 : W3.cell? ⟨w6.heap.size, 4, none⟩ = some (.slice R[i].c.1 R[i].x.has.length R[i].c.2) := by rw [← HCL2.out]; exact HS3.out.c 4 _ rfl
  have u4 : W6.cell? ⟨w6.heap.size, 4, none⟩ = some (.slice R[i].c.1 R[i].x.has.length R[i].c.2) := by rw [← HCL2.out]; exact HT6.out.c 4 _ rfl
  have uf4 := HT6.out.f 4
  clear y3 z3 zf3 HR1 HS1
  go_upto_region 29 with (first | (at_builtin; refine wpList_append_run rfl (.tmp 170) (.tmp 172) 69 rfl rfl rfl HR2.out ?_) | fail)
  rw [← HV7.out]
  have y3 := HS7.out.c 3 (.slice (some ⟨g1, 0, none⟩) R[i].x.has.length c1) rfl
  have x6 := (HST.out.on HS7.out.below).fcell 6 _ B6.out
  have hob := HB7.out
  have hfz7 := HZ7.out
  have hat := HAT2.out
  have hfa : F.at_ < 4294967296 := hw.at_
  clear z4 u4 uf4 HR2 HS3 HT6 HV7 HB7 HZ7
  go_upto_region 30 with fail
  rw [← HV8.out]
  have hs8 := HST.out.on HS8.out.below
  obtain ⟨hdp, hde, -, -, -, -, hdl⟩ := HF.out.on hs8.below
  have y4 := HS8.out.c 4 (.slice (some ⟨g2, 0, none⟩) R[i].x.has.length c2) rfl
  have x6 := hs8.fcell 6 _ B6.out
  have x15 := hs8.fcell 15 (.slice (hdp 4).1 F.data.length (hdp 4).2) (by rw [hde]; rfl)
  have hos := HB8.out
  have hfz8 := HZ8.out
  have hst : ∀ cc, (convert 39 9 (.slice (hdp 4).1 F.data.length cc)).run Tryd.prog V8 = .ok (.string (str F.data)) V8 := fun cc => strs_of rfl hdl cc
  generalize (hdp 4).1 = dA at x15 hst
  generalize (hdp 4).2 = dc at x15
  generalize F.data.length = dn at x15 hst
  clear y3 hob hfz7 HS7 HV8 HB8 HZ8 hs8 hde hdl HF
  go_upto_region 31 with fail
  have HV9 := Lib.hid (rfl : V8.setCell ⟨g2, F.at_, none⟩ (.string (str F.data)) = V8.setCell ⟨g2, F.at_, none⟩ (.string (str F.data)))
  generalize hv9 : V8.setCell ⟨g2, F.at_, none⟩ (.string (str F.data)) = V9 at HE9 ⊢
  clear hv9 HV9 hos hfz8 hst y4 x6 x15 HS8 hfa
  have hfu := refFull_any (R[i].x.has.set F.at_ true) (.int .u8 (R[i].x.id.f : Int)) (.int .u64 (R[i].x.id.s : Int)) (.int .i64 (R[i].x.size : Int)) (some ⟨g1, 0, none⟩) c1 (.slice (some ⟨g2, 0, none⟩) R[i].x.has.length c2) V9 HE9.out.l1.lies (by rw [List.length_set]; have := HLEN2.out; omega) ⟨_, rfl⟩ ⟨_, rfl⟩ ⟨_, rfl⟩ ⟨_, _, _, rfl⟩
  rw [List.length_set, show ((R[i].x.has.set F.at_ true).all fun b => b) = _ from hfull] at hfu
  have hrow := HE9.out.s.p
  obtain ⟨pc, hpc⟩ : ∃ pc : Array Value, #[.int .u8 (R[i].x.id.f : Int), .int .u64 (R[i].x.id.s : Int), .int .i64 (R[i].x.size : Int), .slice (some ⟨g1, 0, none⟩) R[i].x.has.length c1, .slice (some ⟨g2, 0, none⟩) R[i].x.has.length c2] = pc := ⟨_, rfl⟩
  have hpcz : pc.size = 5 := by rw [← hpc]; rfl
  rw [hpc] at hfu hrow
  have HPC := Lib.hid hpc
  have HPZ := Lib.hid hpcz
  have HFU := Lib.hid hfu
  have HROW := Lib.hid hrow
  clear hpc hpcz hfu hrow
  go_wp2_with (first | ((with_reducible_and_instances refine load_P (.tmp 10) ?_ HROW.out HPZ.out ?_); exact rfl) | fail)
  refine HFU.out.mono ?_
  rintro e w10 ⟨rfl, hb10⟩
  have HE10 := Lib.hid (HE9.out.on hb10)
  have HS10 := Lib.hid (HST.out.on HE10.out.s.below)
  clear hb10 HFU HROW HE9 HST
  have hs10 := HS10.out
  have hin : i < n := by have := hs10.at_.len; omega
  have HG10 := Lib.hid (HGC.out ▸ hs10.g : w10.heap[w.heap.size]? = some (.cells gc 32 (0, 0)))
  have hwo := refWithout_any hs10.at_ hn (hs10.lt hD) i hin
  rw [HGC.out] at hwo
  have HWO := Lib.hid hwo
  have c4 := HE10.out.s.c 4 (.slice (some ⟨g2, 0, none⟩) R[i].x.has.length c2) rfl
  have hl2 := HE10.out.l2
  have hl0 := HLEN2.out
  have hctl : (R[i].x.cuts.set F.at_ F.data).length = R[i].x.has.length := by rw [List.length_set]; exact HCL2.out
  obtain ⟨ct, hct⟩ : ∃ ct, R[i].x.cuts.set F.at_ F.data = ct := ⟨_, rfl⟩
  obtain ⟨hl, hhl⟩ : ∃ hl, R[i].x.has.length = hl := ⟨_, rfl⟩
  rw [hct] at hl2 hctl hfl
  have HFL := Lib.hid hfl
  rw [hhl] at c4 hctl k3 hl0
  have HCT := Lib.hid hct
  have HL2 := Lib.hid hl2
  have HCTL := Lib.hid hctl
  clear hfl hs10 hwo hct hhl hl2 hctl HE10 HPC HPZ hat k1 hfull HAT2
  go_wp2_with fail
  go_loopw [11, 12, 193] (fun s11 _ s193 wr => ∃ k : Nat, k ≤ hl ∧ s193 = .int .i64 (k : Int) ∧ s11 = .string (str (ct.take k).flatten) ∧ wr = w10) (fun _ _ s193 _ => hl - (intOf s193).toNat)
  case atStart => exact ⟨0, Nat.zero_le _, rfl, rfl, rfl⟩
  case round =>
    obtain ⟨k, hk, rfl, rfl, rfl⟩ := hrel
    obtain ⟨sv, hsv⟩ : ∃ sv, str (ct.take k).flatten = sv := ⟨_, rfl⟩
    rw [hsv]
    by_cases hlt : k < hl
    · have hkc : k < ct.length := by have := HCTL.out; omega
      obtain ⟨bb, o2, e2, -, -, hcell⟩ := HL2.out (by intro e; have := congrArg List.length e; rw [svl_len] at this; simp at this; rw [this] at hkc; exact absurd hkc (Nat.not_lt_zero _))
      have ck := hcell k (.string (str ct[k])) (by rw [svl, List.getElem?_map, List.getElem?_eq_getElem hkc]; rfl)
      injection e2 with e2
      injection e2 with e2 e3
      subst e2 e3
      rw [Nat.zero_add] at ck
      have HNX : Hid (str (ct.take (k + 1)).flatten = sv ++ str ct[k]) := by
        show str (ct.take (k + 1)).flatten = sv ++ str ct[k]
        rw [List.take_succ_eq_append_getElem hkc, List.flatten_append, str_append, hsv]
        simp
      have hbz : ¬ 9223372036854775807 < sv.size + (str ct[k]).size := by
        have h1 := congrArg ByteArray.size HNX.out
        rw [ByteArray.size_append, str_size] at h1
        have h2 := flatten_take_le ct (k + 1)
        have h3 := HFL.out
        omega
      clear hsv hcell
      generalize str ct[k] = sk at ck HNX hbz
      have hnk : (k : Int) < (hl : Int) := by omega
      go_wp2
      go_roundw
      case rel => exact ⟨k + 1, by omega, by go_num, by rw [HNX.out], trivial⟩
      case measure => simp [intOf]; omega
    · have hnk : ¬ (k : Int) < (hl : Int) := by omega
      have HTK : Hid (sv = str (R[i].x.putCut F.at_ F.data).cuts.flatten) := by
        show sv = str (R[i].x.cuts.set F.at_ F.data).flatten
        rw [← hsv, HCT.out, List.take_of_length_le (by have := HCTL.out; omega)]
      clear hsv c4
      go_wp2_with (first | ((with_reducible_and_instances refine load_Rg (.tmp 2) ?_ HG10.out HGZ.out ?_); exact rfl) | fail)
      refine HWO.out.mono ?_
      rintro e w11 ⟨A', c', rfl, hR11, hb11⟩
      have hs11 := HS10.out.on hb11
      have hs12 := hs11.setAll hR11
      have HG11 := Lib.hid (HGC.out ▸ hs11.g : w11.heap[w.heap.size]? = some (.cells gc 32 (0, 0)))
      obtain ⟨ds, hds⟩ : ∃ ds, rgCells (.slice A' (n - 1) c') { m with l := m.l.eraseIdx i } = ds := ⟨_, rfl⟩
      have HDZ : Hid (ds.size = 12) := by show ds.size = 12; rw [← hds]; exact rg_size _ _
      have HD1 : Hid (ds.all (·.oneCell') = true) := by show ds.all (·.oneCell') = true; rw [← hds]; exact rg_one _ _ _ _
      rw [hds] at hs12 ⊢
      obtain ⟨w12, hw12⟩ : ∃ w12, w12 = w11.setRow w.heap.size ds := ⟨_, rfl⟩
      rw [← hw12] at hs12
      have HS12 := Lib.hid hs12
      have HW12 := Lib.hid hw12
      clear hs11 hs12 hds hb11 hR11 HWO HG10 HS10 hw12 HL2
      go_upto_region 39 with (first | ((with_reducible_and_instances refine store_Rg (.tmp 2) (.tmp 206) ?_ ?_ HG11.out HGZ.out HDZ.out HD1.out ?_); exact rfl; exact rfl) | fail)
      rw [← HW12.out]
      clear HG11 HDZ HD1 HW12
      have HEND : Hid (∀ W, PuS w D fc A' (n - 1) c' (R.eraseIdx i) { m with l := m.l.eraseIdx i } W → W.cell? ⟨w.heap.size, 11, none⟩ = some (.int .i64 (m.counts.getD 5 0 : Int)) ∧ W.frozen? ⟨w.heap.size, 11, none⟩ = false ∧ ∃ cs, Dn w D { { m with l := m.l.eraseIdx i } with counts := bump m.counts 5 1 } cs (W.setCell ⟨w.heap.size, 11, none⟩ (.int .i64 ((m.counts.getD 5 0 : Int) + 1)))) := fun W hW =>
        ⟨hW.gc 11 _ rfl, hW.gf 11, (hW.bump 5 (by decide) h6).dn⟩
      have hcn : m.counts.getD 5 0 ≤ 100000 := by have := getD_le_sum m.counts 5; unfold Gm.weight at hwt; omega
      obtain ⟨c7, fz7, cs, hdn⟩ := HEND.out _ HS12.out
      generalize m.counts.getD 5 0 = q at c7 hdn hcn
      have HDN := Lib.hid hdn
      have HG := Lib.hid hdn.g
      have HR := Lib.hid hdn.r
      have HZ := Lib.hid hdn.size
      have HO := Lib.hid hdn.one
      unfold rgZero at HR
      clear hdn HEND
      go_upto_region 40 with fail
      go_wp2_with (first | ((with_reducible_and_instances refine load_Rg (.tmp 2) ?_ HG.out HZ.out ?_); exact rfl) | ((with_reducible_and_instances refine store_Rg (.tmp 4) (.tmp 213) ?_ ?_ HR.out ?_ HZ.out HO.out ?_); exact rfl; exact rfl; exact rfl) | fail)
      exact bodyPost_ret (results_cell_tmp2 rfl _ _ (w.heap.size + 1 + 1) _ rfl (run_loadVar_row _ (w.heap.size + 1 + 1) _ _ cs (0, 0) _ HDN.out.row Tryd.underlying32 rfl (infoRg HZ.out))) rfl (by rw [HTK.out]; exact HDN.out.q _ 5)
end

end Go.Proofs.YthkongnjokmmfaaDoor
