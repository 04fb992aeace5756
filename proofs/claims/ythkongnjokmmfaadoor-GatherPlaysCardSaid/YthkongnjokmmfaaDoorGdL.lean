/- Stage 13: the document's Put: a chunk of another size (the door seat alone). -/
import Derived.Test.YthkongnjokmmfaaDoorGdK
set_option maxRecDepth 20000
namespace Go.Proofs.YthkongnjokmmfaaDoor
open Go.RowKit Go.Sort

section
variable {w : World} {D : Nat → Prop} {A : Option Addr} {n c : Nat} {R : List Rp} {m : Gm}
set_option maxRecDepth 100000 in
set_option maxHeartbeats 3200000 in
theorem refPut_size (h : RgAt w D A n c R m) (hn : n ≤ 1000000) (h6 : m.counts.length = 6) (hwt : m.weight ≤ 100000) (F : Fr) (fc : Array Value) (hF : FrL w F fc) (hw : F.Wf) (hmay : mayB F.id = true) (hrig : rightZ F m.chunk m.most = true) (i : Nat) (hi : i < R.length) (hz : fndZ m.l F.id = (i : Int)) (hsz2 : R[i].x.size ≠ F.size) :
    Calls Tryd.prog 9 #[.agg (rgCells (.slice A n c) m), .agg fc] w (PutQ w D { m with counts := bump m.counts 1 1 } [] 1) := by
  obtain ⟨W0, hW0⟩ : ∃ W0, W0 = ((w.alloc (.cells (rgCells (.slice A n c) m) 32)).alloc (.cells fc 41)).alloc (.cells rgZero 32) := ⟨_, rfl⟩
  have hS := PuS.start h fc hW0
  have HS : Hid (PuS w D fc A n c R m W0) := Lib.hid hS
  have HF : Hid (FrL w F fc) := Lib.hid hF
  have HMY : Hid (∀ W, Calls Tryd.prog 24 #[valId F.id, .int .i64 64] W fun e w' => e = .returned (.bool true) ∧ RowKit.Below W.heap.size W w') := fun W => (refMay_any F.id 64 W (by omega)).mono fun e w' ⟨h1, h2⟩ => ⟨by rw [h1, ← hmay]; congr 2; unfold mayB; rw [Bool.eq_iff_iff]; simp only [Bool.and_eq_true, decide_eq_true_eq]; omega, h2.below⟩
  have HRI : Hid (∀ W, RowKit.Below w.heap.size w W → Calls Tryd.prog 25 #[.agg fc, .int .i64 (m.chunk : Int), .int .i64 (m.most : Int)] W fun e w' => e = .returned (.bool true) ∧ RowKit.Below W.heap.size W w') := fun W hW => by rw [← hrig]; exact refRight_any F fc m.chunk m.most W (hF.on hW) hw
  have HFI : Hid (∀ W, PuS w D fc A n c R m W → Calls Tryd.prog 26 #[.agg (rgCells (.slice A n c) m), valId F.id] W fun e w' => e = .returned (.int .i64 ((i : Int))) ∧ RowKit.Below W.heap.size W w') := fun W hW => by rw [← hz]; exact refFind_any hW.at_ (by omega) F.id
  have hfsz : fc.size = 16 := hF.size
  obtain ⟨gc, hgc⟩ : ∃ gc, rgCells (.slice A n c) m = gc := ⟨_, rfl⟩
  have HGC : Hid (rgCells (.slice A n c) m = gc) := Lib.hid hgc
  have HGZ : Hid (gc.size = 12) := by show gc.size = 12; rw [← hgc]; exact rg_size _ _
  have HW0 := Lib.hid (show W0 = ((w.alloc (.cells gc 32)).alloc (.cells fc 41)).alloc (.cells rgZero 32) by rw [← hgc]; exact hW0)
  obtain ⟨-, -, -, b3, b4, -, b6, b7, b8, -, -⟩ := hF.at_
  have x3 := hS.fcell 3 _ b3
  have x4 := hS.fcell 4 _ b4
  rw [hgc] at HFI ⊢
  unfold valId at HMY HFI
  unfold rgZero at HW0
  have hsz := hS.size
  have B3 := Lib.hid b3
  have B4 := Lib.hid b4
  have B6 := Lib.hid b6
  have B7 := Lib.hid b7
  have B8 := Lib.hid b8
  clear hS hF hW0 hgc h hmay hrig b3 b4 b6 b7 b8 hz
  go_enter Tryd.func9, Tryd.ntmps9
  go_upto_region 1 with fail
  rw [← HW0.out]
  go_wp2_with fail
  refine (HMY.out _).mono ?_
  rintro e w1 ⟨rfl, hb1⟩
  have hs1 := HS.out.on hb1
  have HS1 := Lib.hid hs1
  have HF1 := Lib.hid hs1.f
  have x0 := hs1.gc 0 (.int .i64 (m.chunk : Int)) rfl
  have x1 := hs1.gc 1 (.int .i64 (m.most : Int)) rfl
  have HR1 := Lib.hid (HRI.out w1 hs1.below)
  clear x3 x4 hb1 HMY HRI hs1 HW0 HS
  go_wp2_with (first | ((with_reducible_and_instances refine load_frame_on (.tmp 3) ?_ ?_ HF1.out hfsz ?_); exact rfl; exact rfl) | fail)
  refine HR1.out.mono ?_
  rintro e w2 ⟨rfl, hb2⟩
  have hs2 := HS1.out.on hb2
  have HS2 := Lib.hid hs2
  have HG2 := Lib.hid (HGC.out ▸ hs2.g : w2.heap[w.heap.size]? = some (.cells gc 32 (0, 0)))
  have x3 := hs2.fcell 3 _ B3.out
  have x4 := hs2.fcell 4 _ B4.out
  have HF2 := Lib.hid (HFI.out w2 hs2)
  clear x0 x1 hb2 HR1 HF1 HFI hs2 HS1
  go_wp2_with (first | ((with_reducible_and_instances refine load_Rg (.tmp 2) ?_ HG2.out HGZ.out ?_); exact rfl) | fail)
  refine HF2.out.mono ?_
  rintro e w3 ⟨rfl, hb3⟩
  have hs3 := HS2.out.on hb3
  have HS3 := Lib.hid hs3
  clear x3 x4 hb3 HF2 HG2 HS2
  obtain ⟨pb, po, hA, -, -, -, p2, -, -⟩ := hs3.at_.part hi
  have x3 := hs3.gc 3 (.slice (some ⟨pb, po, none⟩) n c) (by rw [hA]; rfl)
  have hin : i < n := by have := hs3.at_.len; omega
  have hnc := hs3.at_.nc
  have hcm : c ≤ 9223372036854775807 := by have := hs3.at_.cm; unfold maxLen at this; omega
  clear hA
  have x8 := hs3.fcell 8 _ B8.out
  have hfs : F.size < 4294967296 := hw.size
  generalize R[i].x.size = sz at p2 hsz2
  have hbn : ((sz : Int) != (F.size : Int)) = true := by simp; omega
  clear hs3
  go_upto_region 5 with fail
  go_quiet (fail)
  have hs4 := HS3.out.on (below_drewN (RowKit.Below.refl w3.heap.size w3) nq)
  generalize hwd3 : w3.drewN nq = w4 at hs4 ⊢
  have HS4 := Lib.hid hs4
  clear hwd3 HS3
  clear hs4
  have HEND : Hid (∀ W, PuS w D fc A n c R m W → W.cell? ⟨w.heap.size, 7, none⟩ = some (.int .i64 (m.counts.getD 1 0 : Int)) ∧ W.frozen? ⟨w.heap.size, 7, none⟩ = false ∧ ∃ cs, Dn w D { m with counts := bump m.counts 1 1 } cs (W.setCell ⟨w.heap.size, 7, none⟩ (.int .i64 ((m.counts.getD 1 0 : Int) + 1)))) := fun W hW =>
    ⟨hW.gc 7 _ rfl, hW.gf 7, (hW.bump 1 (by decide) h6).dn⟩
  have hcn : m.counts.getD 1 0 ≤ 100000 := by have := getD_le_sum m.counts 1; unfold Gm.weight at hwt; omega
  obtain ⟨c7, fz7, cs, hdn⟩ := HEND.out _ HS4.out
  generalize m.counts.getD 1 0 = q at c7 hdn hcn
  have HDN := Lib.hid hdn
  have HG := Lib.hid hdn.g
  have HR := Lib.hid hdn.r
  have HZ := Lib.hid hdn.size
  have HO := Lib.hid hdn.one
  unfold rgZero at HR
  clear hdn HEND
  go_upto_region 7 with fail
  go_wp2_with (first | ((with_reducible_and_instances refine load_Rg (.tmp 2) ?_ HG.out HZ.out ?_); exact rfl) | ((with_reducible_and_instances refine store_Rg (.tmp 4) (.tmp 58) ?_ ?_ HR.out ?_ HZ.out HO.out ?_); exact rfl; exact rfl; exact rfl) | fail)
  exact bodyPost_ret (results_cell_tmp2 rfl _ _ (w.heap.size + 1 + 1) _ rfl (run_loadVar_row _ (w.heap.size + 1 + 1) _ _ cs (0, 0) _ HDN.out.row Tryd.underlying32 rfl (infoRg HZ.out))) rfl (HDN.out.q [] 1)
end

end Go.Proofs.YthkongnjokmmfaaDoor

set_option maxRecDepth 20000
namespace Go.Proofs.YthkongnjokmmfaaDoor
open Go.RowKit Go.Sort

section
variable {w : World} {D : Nat → Prop} {A : Option Addr} {n c : Nat} {R : List Rp} {m : Gm}
set_option maxRecDepth 100000 in
set_option maxHeartbeats 3200000 in
theorem refPut_old (h : RgAt w D A n c R m) (hn : n ≤ 1000000) (h6 : m.counts.length = 6) (hwt : m.weight ≤ 100000) (F : Fr) (fc : Array Value) (hF : FrL w F fc) (hw : F.Wf) (hmay : mayB F.id = true) (hrig : rightZ F m.chunk m.most = true) (i : Nat) (hi : i < R.length) (hz : fndZ m.l F.id = (i : Int)) (hsz2 : R[i].x.size = F.size) (hat : F.at_ < R[i].x.has.length) (hold : R[i].x.has.getD F.at_ false = true) :
    Calls Tryd.prog 9 #[.agg (rgCells (.slice A n c) m), .agg fc] w (PutQ w D { m with counts := bump m.counts 2 1 } [] 2) := by
  obtain ⟨W0, hW0⟩ : ∃ W0, W0 = ((w.alloc (.cells (rgCells (.slice A n c) m) 32)).alloc (.cells fc 41)).alloc (.cells rgZero 32) := ⟨_, rfl⟩
  have hS := PuS.start h fc hW0
  have HS : Hid (PuS w D fc A n c R m W0) := Lib.hid hS
  have HF : Hid (FrL w F fc) := Lib.hid hF
  have HMY : Hid (∀ W, Calls Tryd.prog 24 #[valId F.id, .int .i64 64] W fun e w' => e = .returned (.bool true) ∧ RowKit.Below W.heap.size W w') := fun W => (refMay_any F.id 64 W (by omega)).mono fun e w' ⟨h1, h2⟩ => ⟨by rw [h1, ← hmay]; congr 2; unfold mayB; rw [Bool.eq_iff_iff]; simp only [Bool.and_eq_true, decide_eq_true_eq]; omega, h2.below⟩
  have HRI : Hid (∀ W, RowKit.Below w.heap.size w W → Calls Tryd.prog 25 #[.agg fc, .int .i64 (m.chunk : Int), .int .i64 (m.most : Int)] W fun e w' => e = .returned (.bool true) ∧ RowKit.Below W.heap.size W w') := fun W hW => by rw [← hrig]; exact refRight_any F fc m.chunk m.most W (hF.on hW) hw
  have HFI : Hid (∀ W, PuS w D fc A n c R m W → Calls Tryd.prog 26 #[.agg (rgCells (.slice A n c) m), valId F.id] W fun e w' => e = .returned (.int .i64 ((i : Int))) ∧ RowKit.Below W.heap.size W w') := fun W hW => by rw [← hz]; exact refFind_any hW.at_ (by omega) F.id
  have hfsz : fc.size = 16 := hF.size
  obtain ⟨gc, hgc⟩ : ∃ gc, rgCells (.slice A n c) m = gc := ⟨_, rfl⟩
  have HGC : Hid (rgCells (.slice A n c) m = gc) := Lib.hid hgc
  have HGZ : Hid (gc.size = 12) := by show gc.size = 12; rw [← hgc]; exact rg_size _ _
  have HW0 := Lib.hid (show W0 = ((w.alloc (.cells gc 32)).alloc (.cells fc 41)).alloc (.cells rgZero 32) by rw [← hgc]; exact hW0)
  obtain ⟨-, -, -, b3, b4, -, b6, b7, b8, -, -⟩ := hF.at_
  have x3 := hS.fcell 3 _ b3
  have x4 := hS.fcell 4 _ b4
  rw [hgc] at HFI ⊢
  unfold valId at HMY HFI
  unfold rgZero at HW0
  have hsz := hS.size
  have B3 := Lib.hid b3
  have B4 := Lib.hid b4
  have B6 := Lib.hid b6
  have B7 := Lib.hid b7
  have B8 := Lib.hid b8
  clear hS hF hW0 hgc h hmay hrig b3 b4 b6 b7 b8 hz
  go_enter Tryd.func9, Tryd.ntmps9
  go_upto_region 1 with fail
  rw [← HW0.out]
  go_wp2_with fail
  refine (HMY.out _).mono ?_
  rintro e w1 ⟨rfl, hb1⟩
  have hs1 := HS.out.on hb1
  have HS1 := Lib.hid hs1
  have HF1 := Lib.hid hs1.f
  have x0 := hs1.gc 0 (.int .i64 (m.chunk : Int)) rfl
  have x1 := hs1.gc 1 (.int .i64 (m.most : Int)) rfl
  have HR1 := Lib.hid (HRI.out w1 hs1.below)
  clear x3 x4 hb1 HMY HRI hs1 HW0 HS
  go_wp2_with (first | ((with_reducible_and_instances refine load_frame_on (.tmp 3) ?_ ?_ HF1.out hfsz ?_); exact rfl; exact rfl) | fail)
  refine HR1.out.mono ?_
  rintro e w2 ⟨rfl, hb2⟩
  have hs2 := HS1.out.on hb2
  have HS2 := Lib.hid hs2
  have HG2 := Lib.hid (HGC.out ▸ hs2.g : w2.heap[w.heap.size]? = some (.cells gc 32 (0, 0)))
  have x3 := hs2.fcell 3 _ B3.out
  have x4 := hs2.fcell 4 _ B4.out
  have HF2 := Lib.hid (HFI.out w2 hs2)
  clear x0 x1 hb2 HR1 HF1 HFI hs2 HS1
  go_wp2_with (first | ((with_reducible_and_instances refine load_Rg (.tmp 2) ?_ HG2.out HGZ.out ?_); exact rfl) | fail)
  refine HF2.out.mono ?_
  rintro e w3 ⟨rfl, hb3⟩
  have hs3 := HS2.out.on hb3
  have HS3 := Lib.hid hs3
  clear x3 x4 hb3 HF2 HG2 HS2
  obtain ⟨pb, po, hA, -, -, -, p2, -, -⟩ := hs3.at_.part hi
  have x3 := hs3.gc 3 (.slice (some ⟨pb, po, none⟩) n c) (by rw [hA]; rfl)
  have hin : i < n := by have := hs3.at_.len; omega
  have hnc := hs3.at_.nc
  have hcm : c ≤ 9223372036854775807 := by have := hs3.at_.cm; unfold maxLen at this; omega
  clear hA
  have x8 := hs3.fcell 8 _ B8.out
  have hfs : F.size < 4294967296 := hw.size
  rw [hsz2] at p2
  have hbn : ((F.size : Int) != (F.size : Int)) = false := by simp
  clear hs3
  go_upto_region 5 with fail
  go_quiet (fail)
  have hs4 := HS3.out.on (below_drewN (RowKit.Below.refl w3.heap.size w3) nq)
  generalize hwd3 : w3.drewN nq = w4 at hs4 ⊢
  have HS4 := Lib.hid hs4
  clear hwd3 HS3
  clear p2 x3 x8 hfs hbn hnc hcm hin
  obtain ⟨pb, po, hA, -, -, -, -, p3, -⟩ := hs4.at_.part hi
  have x3 := hs4.gc 3 (.slice (some ⟨pb, po, none⟩) n c) (by rw [hA]; rfl)
  have hin : i < n := by have := hs4.at_.len; omega
  have hnc := hs4.at_.nc
  have hcm : c ≤ 9223372036854775807 := by have := hs4.at_.cm; unfold maxLen at this; omega
  clear hA
  have x6 := hs4.fcell 6 _ B6.out
  have hfa : F.at_ < 4294967296 := hw.at_
  obtain ⟨hb, ho, hHA, -, -, hcell⟩ := (hs4.at_.has _ (List.getElem_mem hi)).1 (by intro e; have := congrArg List.length e; simp [bvl] at this; rw [this] at hat; exact absurd hat (Nat.not_lt_zero _))
  have q1 := hcell F.at_ (.bool true) (by rw [bvl, List.getElem?_map, List.getElem?_eq_getElem hat]; rw [List.getD_eq_getElem?_getD, List.getElem?_eq_getElem hat] at hold; simpa using hold)
  obtain ⟨-, hh1, hh2⟩ := hs4.at_.has _ (List.getElem_mem hi)
  unfold maxLen at hh2
  rw [hHA] at p3
  generalize R[i].x.has.length = hl at p3 hat hh1
  generalize R[i].h.2 = hc at p3 hh1 hh2
  clear hs4 hcell hHA hold
  go_upto_region 8 with fail
  go_quiet (fail)
  have hs5 := HS4.out.on (below_drewN (RowKit.Below.refl w4.heap.size w4) nq)
  generalize hwd4 : w4.drewN nq = w5 at hs5 ⊢
  have HS5 := Lib.hid hs5
  clear hwd4 HS4
  clear hs5
  have HEND : Hid (∀ W, PuS w D fc A n c R m W → W.cell? ⟨w.heap.size, 8, none⟩ = some (.int .i64 (m.counts.getD 2 0 : Int)) ∧ W.frozen? ⟨w.heap.size, 8, none⟩ = false ∧ ∃ cs, Dn w D { m with counts := bump m.counts 2 1 } cs (W.setCell ⟨w.heap.size, 8, none⟩ (.int .i64 ((m.counts.getD 2 0 : Int) + 1)))) := fun W hW =>
    ⟨hW.gc 8 _ rfl, hW.gf 8, (hW.bump 2 (by decide) h6).dn⟩
  have hcn : m.counts.getD 2 0 ≤ 100000 := by have := getD_le_sum m.counts 2; unfold Gm.weight at hwt; omega
  obtain ⟨c7, fz7, cs, hdn⟩ := HEND.out _ HS5.out
  generalize m.counts.getD 2 0 = q at c7 hdn hcn
  have HDN := Lib.hid hdn
  have HG := Lib.hid hdn.g
  have HR := Lib.hid hdn.r
  have HZ := Lib.hid hdn.size
  have HO := Lib.hid hdn.one
  unfold rgZero at HR
  clear hdn HEND
  go_upto_region 10 with fail
  go_wp2_with (first | ((with_reducible_and_instances refine load_Rg (.tmp 2) ?_ HG.out HZ.out ?_); exact rfl) | ((with_reducible_and_instances refine store_Rg (.tmp 4) (.tmp 79) ?_ ?_ HR.out ?_ HZ.out HO.out ?_); exact rfl; exact rfl; exact rfl) | fail)
  exact bodyPost_ret (results_cell_tmp2 rfl _ _ (w.heap.size + 1 + 1) _ rfl (run_loadVar_row _ (w.heap.size + 1 + 1) _ _ cs (0, 0) _ HDN.out.row Tryd.underlying32 rfl (infoRg HZ.out))) rfl (HDN.out.q [] 2)
end

end Go.Proofs.YthkongnjokmmfaaDoor

set_option maxRecDepth 20000
namespace Go.Proofs.YthkongnjokmmfaaDoor
open Go.RowKit Go.Sort

section
variable {w : World} {D : Nat → Prop} {A : Option Addr} {n c : Nat} {R : List Rp} {m : Gm}
set_option maxRecDepth 100000 in
set_option maxHeartbeats 3200000 in
theorem refPut_bad (h : RgAt w D A n c R m) (_hn : n ≤ 1000000) (h6 : m.counts.length = 6) (hwt : m.weight ≤ 100000) (F : Fr) (fc : Array Value) (hF : FrL w F fc) (_hw : F.Wf) (hmay : mayB F.id = false)  :
    Calls Tryd.prog 9 #[.agg (rgCells (.slice A n c) m), .agg fc] w (PutQ w D { m with counts := bump m.counts 1 1 } [] 1) := by
  obtain ⟨W0, hW0⟩ : ∃ W0, W0 = ((w.alloc (.cells (rgCells (.slice A n c) m) 32)).alloc (.cells fc 41)).alloc (.cells rgZero 32) := ⟨_, rfl⟩
  have hS := PuS.start h fc hW0
  have HS : Hid (PuS w D fc A n c R m W0) := Lib.hid hS
  have HF : Hid (FrL w F fc) := Lib.hid hF
  have HMY : Hid (∀ W, Calls Tryd.prog 24 #[valId F.id, .int .i64 64] W fun e w' => e = .returned (.bool false) ∧ RowKit.Below W.heap.size W w') := fun W => (refMay_any F.id 64 W (by omega)).mono fun e w' ⟨h1, h2⟩ => ⟨by rw [h1, ← hmay]; congr 2; unfold mayB; rw [Bool.eq_iff_iff]; simp only [Bool.and_eq_true, decide_eq_true_eq]; omega, h2.below⟩
  have hfsz : fc.size = 16 := hF.size
  obtain ⟨gc, hgc⟩ : ∃ gc, rgCells (.slice A n c) m = gc := ⟨_, rfl⟩
  have HGC : Hid (rgCells (.slice A n c) m = gc) := Lib.hid hgc
  have HGZ : Hid (gc.size = 12) := by show gc.size = 12; rw [← hgc]; exact rg_size _ _
  have HW0 := Lib.hid (show W0 = ((w.alloc (.cells gc 32)).alloc (.cells fc 41)).alloc (.cells rgZero 32) by rw [← hgc]; exact hW0)
  obtain ⟨-, -, -, b3, b4, -, b6, b7, b8, -, -⟩ := hF.at_
  have x3 := hS.fcell 3 _ b3
  have x4 := hS.fcell 4 _ b4
  rw [hgc]
  unfold valId at HMY
  unfold rgZero at HW0
  have hsz := hS.size
  have B3 := Lib.hid b3
  have B4 := Lib.hid b4
  have B6 := Lib.hid b6
  have B7 := Lib.hid b7
  have B8 := Lib.hid b8
  clear hS hF hW0 hgc h hmay b3 b4 b6 b7 b8
  go_enter Tryd.func9, Tryd.ntmps9
  go_upto_region 1 with fail
  rw [← HW0.out]
  go_wp2_with fail
  refine (HMY.out _).mono ?_
  rintro e w1 ⟨rfl, hb1⟩
  have hs1 := HS.out.on hb1
  have HS1 := Lib.hid hs1
  have HF1 := Lib.hid hs1.f
  clear x3 x4 hb1 HMY hs1 HW0 HS HF1
  have HEND : Hid (∀ W, PuS w D fc A n c R m W → W.cell? ⟨w.heap.size, 7, none⟩ = some (.int .i64 (m.counts.getD 1 0 : Int)) ∧ W.frozen? ⟨w.heap.size, 7, none⟩ = false ∧ ∃ cs, Dn w D { m with counts := bump m.counts 1 1 } cs (W.setCell ⟨w.heap.size, 7, none⟩ (.int .i64 ((m.counts.getD 1 0 : Int) + 1)))) := fun W hW =>
    ⟨hW.gc 7 _ rfl, hW.gf 7, (hW.bump 1 (by decide) h6).dn⟩
  have hcn : m.counts.getD 1 0 ≤ 100000 := by have := getD_le_sum m.counts 1; unfold Gm.weight at hwt; omega
  obtain ⟨c7, fz7, cs, hdn⟩ := HEND.out _ HS1.out
  generalize m.counts.getD 1 0 = q at c7 hdn hcn
  have HDN := Lib.hid hdn
  have HG := Lib.hid hdn.g
  have HR := Lib.hid hdn.r
  have HZ := Lib.hid hdn.size
  have HO := Lib.hid hdn.one
  unfold rgZero at HR
  clear hdn HEND
  go_upto_region 3 with fail
  go_wp2_with (first | ((with_reducible_and_instances refine load_Rg (.tmp 2) ?_ HG.out HZ.out ?_); exact rfl) | ((with_reducible_and_instances refine store_Rg (.tmp 4) (.tmp 33) ?_ ?_ HR.out ?_ HZ.out HO.out ?_); exact rfl; exact rfl; exact rfl) | fail)
  exact bodyPost_ret (results_cell_tmp2 rfl _ _ (w.heap.size + 1 + 1) _ rfl (run_loadVar_row _ (w.heap.size + 1 + 1) _ _ cs (0, 0) _ HDN.out.row Tryd.underlying32 rfl (infoRg HZ.out))) rfl (HDN.out.q [] 1)
end

end Go.Proofs.YthkongnjokmmfaaDoor

set_option maxRecDepth 20000
namespace Go.Proofs.YthkongnjokmmfaaDoor
open Go.RowKit Go.Sort

section
variable {w : World} {D : Nat → Prop} {A : Option Addr} {n c : Nat} {R : List Rp} {m : Gm}
set_option maxRecDepth 100000 in
set_option maxHeartbeats 3200000 in
theorem refPut_lost (h : RgAt w D A n c R m) (hn : n ≤ 1000000) (h6 : m.counts.length = 6) (hwt : m.weight ≤ 100000) (F : Fr) (fc : Array Value) (hF : FrL w F fc) (hw : F.Wf) (hmay : mayB F.id = true) (hrig : rightZ F m.chunk m.most = true) (hz : fndZ m.l F.id = -1) (hroom : m.room < usedL m.l + F.size) (hwt2 : F.id ≠ m.wanted) (hu : usedL m.l ≤ m.room) (hrm : m.room ≤ 9223372036854775807) :
    Calls Tryd.prog 9 #[.agg (rgCells (.slice A n c) m), .agg fc] w (PutQ w D { m with counts := bump m.counts 3 1 } [] 3) := by
  obtain ⟨W0, hW0⟩ : ∃ W0, W0 = ((w.alloc (.cells (rgCells (.slice A n c) m) 32)).alloc (.cells fc 41)).alloc (.cells rgZero 32) := ⟨_, rfl⟩
  have hS := PuS.start h fc hW0
  have HS : Hid (PuS w D fc A n c R m W0) := Lib.hid hS
  have HF : Hid (FrL w F fc) := Lib.hid hF
  have HMY : Hid (∀ W, Calls Tryd.prog 24 #[valId F.id, .int .i64 64] W fun e w' => e = .returned (.bool true) ∧ RowKit.Below W.heap.size W w') := fun W => (refMay_any F.id 64 W (by omega)).mono fun e w' ⟨h1, h2⟩ => ⟨by rw [h1, ← hmay]; congr 2; unfold mayB; rw [Bool.eq_iff_iff]; simp only [Bool.and_eq_true, decide_eq_true_eq]; omega, h2.below⟩
  have HRI : Hid (∀ W, RowKit.Below w.heap.size w W → Calls Tryd.prog 25 #[.agg fc, .int .i64 (m.chunk : Int), .int .i64 (m.most : Int)] W fun e w' => e = .returned (.bool true) ∧ RowKit.Below W.heap.size W w') := fun W hW => by rw [← hrig]; exact refRight_any F fc m.chunk m.most W (hF.on hW) hw
  have HFI : Hid (∀ W, PuS w D fc A n c R m W → Calls Tryd.prog 26 #[.agg (rgCells (.slice A n c) m), valId F.id] W fun e w' => e = .returned (.int .i64 (-1)) ∧ RowKit.Below W.heap.size W w') := fun W hW => by rw [← hz]; exact refFind_any hW.at_ (by omega) F.id
  have hfsz : fc.size = 16 := hF.size
  obtain ⟨gc, hgc⟩ : ∃ gc, rgCells (.slice A n c) m = gc := ⟨_, rfl⟩
  have HGC : Hid (rgCells (.slice A n c) m = gc) := Lib.hid hgc
  have HGZ : Hid (gc.size = 12) := by show gc.size = 12; rw [← hgc]; exact rg_size _ _
  have HW0 := Lib.hid (show W0 = ((w.alloc (.cells gc 32)).alloc (.cells fc 41)).alloc (.cells rgZero 32) by rw [← hgc]; exact hW0)
  obtain ⟨-, -, -, b3, b4, -, b6, b7, b8, -, -⟩ := hF.at_
  have x3 := hS.fcell 3 _ b3
  have x4 := hS.fcell 4 _ b4
  rw [hgc] at HFI ⊢
  unfold valId at HMY HFI
  unfold rgZero at HW0
  have hsz := hS.size
  have B3 := Lib.hid b3
  have B4 := Lib.hid b4
  have B6 := Lib.hid b6
  have B7 := Lib.hid b7
  have B8 := Lib.hid b8
  clear hS hF hW0 hgc h hmay hrig b3 b4 b6 b7 b8 hz
  go_enter Tryd.func9, Tryd.ntmps9
  go_upto_region 1 with fail
  rw [← HW0.out]
  go_wp2_with fail
  refine (HMY.out _).mono ?_
  rintro e w1 ⟨rfl, hb1⟩
  have hs1 := HS.out.on hb1
  have HS1 := Lib.hid hs1
  have HF1 := Lib.hid hs1.f
  have x0 := hs1.gc 0 (.int .i64 (m.chunk : Int)) rfl
  have x1 := hs1.gc 1 (.int .i64 (m.most : Int)) rfl
  have HR1 := Lib.hid (HRI.out w1 hs1.below)
  clear x3 x4 hb1 HMY HRI hs1 HW0 HS
  go_wp2_with (first | ((with_reducible_and_instances refine load_frame_on (.tmp 3) ?_ ?_ HF1.out hfsz ?_); exact rfl; exact rfl) | fail)
  refine HR1.out.mono ?_
  rintro e w2 ⟨rfl, hb2⟩
  have hs2 := HS1.out.on hb2
  have HS2 := Lib.hid hs2
  have HG2 := Lib.hid (HGC.out ▸ hs2.g : w2.heap[w.heap.size]? = some (.cells gc 32 (0, 0)))
  have x3 := hs2.fcell 3 _ B3.out
  have x4 := hs2.fcell 4 _ B4.out
  have HF2 := Lib.hid (HFI.out w2 hs2)
  clear x0 x1 hb2 HR1 HF1 HFI hs2 HS1
  go_wp2_with (first | ((with_reducible_and_instances refine load_Rg (.tmp 2) ?_ HG2.out HGZ.out ?_); exact rfl) | fail)
  refine HF2.out.mono ?_
  rintro e w3 ⟨rfl, hb3⟩
  have hs3 := HS2.out.on hb3
  have HS3 := Lib.hid hs3
  clear x3 x4 hb3 HF2 HG2 HS2
  clear hs3
  go_upto_region 5 with fail
  go_quiet (fail)
  have hs4 := HS3.out.on (below_drewN (RowKit.Below.refl w3.heap.size w3) nq)
  generalize hwd3 : w3.drewN nq = w4 at hs4 ⊢
  have HS4 := Lib.hid hs4
  clear hwd3 HS3
  clear hs4
  go_upto_region 8 with fail
  go_quiet (fail)
  have hs5 := HS4.out.on (below_drewN (RowKit.Below.refl w4.heap.size w4) nq)
  generalize hwd4 : w4.drewN nq = w5 at hs5 ⊢
  have HS5 := Lib.hid hs5
  clear hwd4 HS4
  have hfs : F.size < 4294967296 := hw.size
  have y3 := hs5.fl 3 _ B3.out
  have y4 := hs5.fl 4 _ B4.out
  have y8 := hs5.fl 8 _ B8.out
  obtain ⟨q0, q1, q2, q3, q4, q5, x0, x1, x2, x3, x4, x5, x6, x7, x8, x9, x10, x11, hus⟩ := hs5.whole (by omega)
  have hnn : 0 ≤ m.room := Nat.zero_le _
  generalize m.room = rm at x2 hus hroom hu hrm
  generalize usedL m.l = us at hus hroom hu
  clear hs5
  go_upto_region 11 with fail
  have hd : decide (((rm : Int) - (us : Int)) < (F.size : Int)) = true := decide_eq_true (by omega)
  have he := fun W' => neqId F.id m.wanted W'
  rw [decide_eq_false hwt2, Bool.not_false] at he
  have hgd := guardId
  generalize (F.id.f : Int) = ff at y3 he
  generalize (F.id.s : Int) = ss at y4 he
  clear hroom
  refine wp_region_later mixedOrders (by kernel_rfl) ?_
  repeat (go_big_quiet_step (first | (go_at_call 15; exact hus _) | fail))
  refine wpQuiet_nil ?_
  intro _ hw'
  obtain ⟨p6, rfl⟩ := hw'
  have HS6 := Lib.hid (HS5.out.on p6.hb)
  generalize p6.w = w6 at HS6 ⊢
  clear x0 x1 x2 x3 x4 x5 x6 x7 x8 x9 x10 x11 y3 y4 y8 hus HS5
  have HEND : Hid (∀ W, PuS w D fc A n c R m W → W.cell? ⟨w.heap.size, 9, none⟩ = some (.int .i64 (m.counts.getD 3 0 : Int)) ∧ W.frozen? ⟨w.heap.size, 9, none⟩ = false ∧ ∃ cs, Dn w D { m with counts := bump m.counts 3 1 } cs (W.setCell ⟨w.heap.size, 9, none⟩ (.int .i64 ((m.counts.getD 3 0 : Int) + 1)))) := fun W hW =>
    ⟨hW.gc 9 _ rfl, hW.gf 9, (hW.bump 3 (by decide) h6).dn⟩
  have hcn : m.counts.getD 3 0 ≤ 100000 := by have := getD_le_sum m.counts 3; unfold Gm.weight at hwt; omega
  obtain ⟨c7, fz7, cs, hdn⟩ := HEND.out _ HS6.out
  generalize m.counts.getD 3 0 = q at c7 hdn hcn
  have HDN := Lib.hid hdn
  have HG := Lib.hid hdn.g
  have HR := Lib.hid hdn.r
  have HZ := Lib.hid hdn.size
  have HO := Lib.hid hdn.one
  unfold rgZero at HR
  clear hdn HEND
  go_upto_region 13 with fail
  go_wp2_with (first | ((with_reducible_and_instances refine load_Rg (.tmp 2) ?_ HG.out HZ.out ?_); exact rfl) | ((with_reducible_and_instances refine store_Rg (.tmp 4) (.tmp 106) ?_ ?_ HR.out ?_ HZ.out HO.out ?_); exact rfl; exact rfl; exact rfl) | fail)
  exact bodyPost_ret (results_cell_tmp2 rfl _ _ (w.heap.size + 1 + 1) _ rfl (run_loadVar_row _ (w.heap.size + 1 + 1) _ _ cs (0, 0) _ HDN.out.row Tryd.underlying32 rfl (infoRg HZ.out))) rfl (HDN.out.q [] 3)
end

end Go.Proofs.YthkongnjokmmfaaDoor

set_option maxRecDepth 20000
namespace Go.Proofs.YthkongnjokmmfaaDoor
open Go.RowKit Go.Sort

section
variable {w : World} {D : Nat → Prop} {A : Option Addr} {n c : Nat} {R : List Rp} {m : Gm}
set_option maxRecDepth 100000 in
set_option maxHeartbeats 3200000 in
theorem refPut_nr (h : RgAt w D A n c R m) (_hn : n ≤ 1000000) (h6 : m.counts.length = 6) (hwt : m.weight ≤ 100000) (F : Fr) (fc : Array Value) (hF : FrL w F fc) (hw : F.Wf) (hmay : mayB F.id = true) (hrig : rightZ F m.chunk m.most = false)  :
    Calls Tryd.prog 9 #[.agg (rgCells (.slice A n c) m), .agg fc] w (PutQ w D { m with counts := bump m.counts 1 1 } [] 1) := by
  obtain ⟨W0, hW0⟩ : ∃ W0, W0 = ((w.alloc (.cells (rgCells (.slice A n c) m) 32)).alloc (.cells fc 41)).alloc (.cells rgZero 32) := ⟨_, rfl⟩
  have hS := PuS.start h fc hW0
  have HS : Hid (PuS w D fc A n c R m W0) := Lib.hid hS
  have HF : Hid (FrL w F fc) := Lib.hid hF
  have HMY : Hid (∀ W, Calls Tryd.prog 24 #[valId F.id, .int .i64 64] W fun e w' => e = .returned (.bool true) ∧ RowKit.Below W.heap.size W w') := fun W => (refMay_any F.id 64 W (by omega)).mono fun e w' ⟨h1, h2⟩ => ⟨by rw [h1, ← hmay]; congr 2; unfold mayB; rw [Bool.eq_iff_iff]; simp only [Bool.and_eq_true, decide_eq_true_eq]; omega, h2.below⟩
  have HRI : Hid (∀ W, RowKit.Below w.heap.size w W → Calls Tryd.prog 25 #[.agg fc, .int .i64 (m.chunk : Int), .int .i64 (m.most : Int)] W fun e w' => e = .returned (.bool false) ∧ RowKit.Below W.heap.size W w') := fun W hW => by rw [← hrig]; exact refRight_any F fc m.chunk m.most W (hF.on hW) hw
  have hfsz : fc.size = 16 := hF.size
  obtain ⟨gc, hgc⟩ : ∃ gc, rgCells (.slice A n c) m = gc := ⟨_, rfl⟩
  have HGC : Hid (rgCells (.slice A n c) m = gc) := Lib.hid hgc
  have HGZ : Hid (gc.size = 12) := by show gc.size = 12; rw [← hgc]; exact rg_size _ _
  have HW0 := Lib.hid (show W0 = ((w.alloc (.cells gc 32)).alloc (.cells fc 41)).alloc (.cells rgZero 32) by rw [← hgc]; exact hW0)
  obtain ⟨-, -, -, b3, b4, -, b6, b7, b8, -, -⟩ := hF.at_
  have x3 := hS.fcell 3 _ b3
  have x4 := hS.fcell 4 _ b4
  rw [hgc]
  unfold valId at HMY
  unfold rgZero at HW0
  have hsz := hS.size
  have B3 := Lib.hid b3
  have B4 := Lib.hid b4
  have B6 := Lib.hid b6
  have B7 := Lib.hid b7
  have B8 := Lib.hid b8
  clear hS hF hW0 hgc h hmay hrig b3 b4 b6 b7 b8
  go_enter Tryd.func9, Tryd.ntmps9
  go_upto_region 1 with fail
  rw [← HW0.out]
  go_wp2_with fail
  refine (HMY.out _).mono ?_
  rintro e w1 ⟨rfl, hb1⟩
  have hs1 := HS.out.on hb1
  have HS1 := Lib.hid hs1
  have HF1 := Lib.hid hs1.f
  have x0 := hs1.gc 0 (.int .i64 (m.chunk : Int)) rfl
  have x1 := hs1.gc 1 (.int .i64 (m.most : Int)) rfl
  have HR1 := Lib.hid (HRI.out w1 hs1.below)
  clear x3 x4 hb1 HMY HRI hs1 HW0 HS
  go_wp2_with (first | ((with_reducible_and_instances refine load_frame_on (.tmp 3) ?_ ?_ HF1.out hfsz ?_); exact rfl; exact rfl) | fail)
  refine HR1.out.mono ?_
  rintro e w2 ⟨rfl, hb2⟩
  have hs2 := HS1.out.on hb2
  have HS2 := Lib.hid hs2
  clear x0 x1 hb2 HR1 HF1 hs2 HS1
  have HEND : Hid (∀ W, PuS w D fc A n c R m W → W.cell? ⟨w.heap.size, 7, none⟩ = some (.int .i64 (m.counts.getD 1 0 : Int)) ∧ W.frozen? ⟨w.heap.size, 7, none⟩ = false ∧ ∃ cs, Dn w D { m with counts := bump m.counts 1 1 } cs (W.setCell ⟨w.heap.size, 7, none⟩ (.int .i64 ((m.counts.getD 1 0 : Int) + 1)))) := fun W hW =>
    ⟨hW.gc 7 _ rfl, hW.gf 7, (hW.bump 1 (by decide) h6).dn⟩
  have hcn : m.counts.getD 1 0 ≤ 100000 := by have := getD_le_sum m.counts 1; unfold Gm.weight at hwt; omega
  obtain ⟨c7, fz7, cs, hdn⟩ := HEND.out _ HS2.out
  generalize m.counts.getD 1 0 = q at c7 hdn hcn
  have HDN := Lib.hid hdn
  have HG := Lib.hid hdn.g
  have HR := Lib.hid hdn.r
  have HZ := Lib.hid hdn.size
  have HO := Lib.hid hdn.one
  unfold rgZero at HR
  clear hdn HEND
  go_upto_region 3 with fail
  go_wp2_with (first | ((with_reducible_and_instances refine load_Rg (.tmp 2) ?_ HG.out HZ.out ?_); exact rfl) | ((with_reducible_and_instances refine store_Rg (.tmp 4) (.tmp 33) ?_ ?_ HR.out ?_ HZ.out HO.out ?_); exact rfl; exact rfl; exact rfl) | fail)
  exact bodyPost_ret (results_cell_tmp2 rfl _ _ (w.heap.size + 1 + 1) _ rfl (run_loadVar_row _ (w.heap.size + 1 + 1) _ _ cs (0, 0) _ HDN.out.row Tryd.underlying32 rfl (infoRg HZ.out))) rfl (HDN.out.q [] 1)
end

end Go.Proofs.YthkongnjokmmfaaDoor
