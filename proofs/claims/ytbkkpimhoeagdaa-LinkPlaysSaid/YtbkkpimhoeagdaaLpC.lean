/- The document's link as a value: Come of a chunk. -/
import Derived.Test.YtbkkpimhoeagdaaLpB
namespace Go.Proofs.Ytbkkpimhoeagdaa
open Go.RowKit Go.Sort
set_option maxRecDepth 20000

theorem KeepsK.new {w w' : World} {A A' : Option Addr} {ks ks' : List Nat} {base n c : Nat} (h : w'.ownsRow base 5 1 (.slice A' n c) n (kvs ks')) (hb : w.heap.size ≤ base) : KeepsK w A ks A' ks' w' := fun D hD _ =>
  LiesX.of_own h fun b hd => by have := hD b hd; omega
theorem yields_L {ops : Array Oper} {S : World → Prop} {o : Oper} {a : Act} {x : Operand} {g : Nat} {cs : Array Value} (hw : Region.wanted o (yielded ops a.tmps) = true) (ho : o.op = .load 34 x) (hx : a.eval x = .pointer (some ⟨g, 0, none⟩)) (hs : cs.size = 12)
    (hS : ∀ V, S V → V.heap[g]? = some (.cells cs 34 (0, 0))) : YieldsIf Try.prog ops S o (.agg cs) a :=
  .inl ⟨hw, fun V hV => by
    unfold execOp
    simp only [ho, hx, Instr.loadAt, Instr.sureAddr, Sem.run_bind, Sem.run_pure, Result.andThen_ok, load_rowL (hS V hV) hs]⟩
theorem wp_store_Ls {o : Oper} {a : Act} {w : World} {ys : Nat → Option Bool} {K : Act → World → Prop} {Q : Exit → Act → World → Prop} {x y : Operand} {g : Nat} {cs old : Array Value} (hgd : o.guard = none) (ho : o.op = .store 34 x y)
    (hx : a.eval x = .pointer (some ⟨g, 0, none⟩)) (hy : a.eval y = .agg cs) (hg : w.heap[g]? = some (.cells old 34 (0, 0))) (hold : old.size = 12) (hs : cs.size = 12) (h1 : cs.all (·.oneCell') = true)
    (hk : K (a.put o.dst undef) (w.setRow g cs)) : if Region.wanted o ys = true then Oper.wp Try.prog o a w K Q else K (a.put o.dst undef) w := by
  rw [if_pos (by simp [Region.wanted, hgd])]
  exact wp_store_row _ x y ho g cs hx hy _ old hg (infoL hs) (by omega) h1 hk
theorem wp_store_Fs {o : Oper} {a : Act} {w : World} {ys : Nat → Option Bool} {K : Act → World → Prop} {Q : Exit → Act → World → Prop} {x y : Operand} {g : Nat} {cs old : Array Value} (hgd : o.guard = none) (ho : o.op = .store 44 x y)
    (hx : a.eval x = .pointer (some ⟨g, 0, none⟩)) (hy : a.eval y = .agg cs) (hg : w.heap[g]? = some (.cells old 44 (0, 0))) (hold : old.size = 16) (hs : cs.size = 16) (h1 : cs.all (·.oneCell') = true)
    (hk : K (a.put o.dst undef) (w.setRow g cs)) : if Region.wanted o ys = true then Oper.wp Try.prog o a w K Q else K (a.put o.dst undef) w := by
  rw [if_pos (by simp [Region.wanted, hgd])]
  exact wp_store_row _ x y ho g cs hx hy _ old hg (info33 hs) (by omega) h1 hk

/-- The link's box and the frame's. -/
def LF (w : World) (ls fs : Array Value) (V : World) : Prop := V.heap[w.heap.size]? = some (.cells ls 34 (0, 0)) ∧ V.heap[w.heap.size + 1]? = some (.cells fs 44 (0, 0))

section
variable (s : Ls) (dt : Nat) (A : Option Addr) (n c : Nat) (B : Option Addr) (m e : Nat) (lm : List Pf) (ks : List Nat) (x : Pf) (w : World)
set_option maxHeartbeats 1600000 in
theorem refLCome_late (hl : lm.length = n) (hnc : n ≤ c) (hcm : c ≤ maxLen) (hm : ks.length = m) (h1 : x.F.src = s.peer) (h2 : x.F.dst = s.me) (h3 : x.F.kind = 1) (kd : Nat) (hkd : kd ≠ 1) (u' oo aa : Nat) (hP : ∀ W, RowKit.Below w.heap.size w W → Calls Try.prog 33 #[.agg #[.slice B m e, .int .u64 (s.g.u : Int), .bool s.g.b], .int .u64 (x.F.seq : Int)] W (DGot W ks kd u')) :
    Calls Try.prog 15 #[.agg (dlCells s dt A n c B m e), .agg x.cs] w (DCame w A lm B ks { s with g := ⟨u', oo, aa, true⟩ } dt lm (ks ++ [kd]) (atP 0) false) := by
  have HL := Lib.hid hl
  have HM := Lib.hid hm
  have HC := Lib.hid (And.intro hnc hcm)
  have d2 : ((kd : Int) == 1) = false := by simp; omega
  have HP := Lib.hid hP
  clear hP
  clear hl hm hnc hcm
  unfold dlCells
  go_enter Try.func15, Try.ntmps15
  go_upto_region 1 with fail
  generalize hW0 : World.alloc (World.alloc (World.alloc (World.alloc w _) _) _) _ = W0
  have H0 : Hid (CBx w (dlCells s dt A n c B m e) x.cs dlZero zeroF W0) := CBx.start hW0
  clear hW0
  have c0 : W0.cell? ⟨w.heap.size, 0, none⟩ = some (.int .u8 (s.me : Int)) := H0.out.cell 0
  have c1 : W0.cell? ⟨w.heap.size, 1, none⟩ = some (.int .u8 (s.peer : Int)) := H0.out.cell 1
  have b0 := (H0.out.cellF 0).trans x.k0
  have b1 := (H0.out.cellF 1).trans x.k1
  have b2 := (H0.out.cellF 2).trans x.k2
  have b5 := (H0.out.cellF 5).trans x.k5
  rw [h1] at b1
  rw [h2] at b2
  rw [h3] at b0
  go_upto_region 9 with fail
  clear c0 c1 b0 b1 b2
  have c5 : W0.cell? ⟨w.heap.size, 5, none⟩ = some (.slice B m e) := H0.out.cell 5
  have c6 : W0.cell? ⟨w.heap.size, 6, none⟩ = some (.int .u64 (s.g.u : Int)) := H0.out.cell 6
  have c7 : W0.cell? ⟨w.heap.size, 7, none⟩ = some (.bool s.g.b) := H0.out.cell 7
  go_wp2_with fail
  refine (HP.out W0 H0.out.below).mono ?_
  rintro en w1 ⟨B', e', rfl, hO1, hb⟩
  have H1 := Lib.hid (H0.out.on hb)
  have HK : Hid (KeepsK W0 B ks B' (ks ++ [kd]) w1) := KeepsK.new hO1 (Nat.le_refl _)
  have HB := Lib.hid hb
  clear c5 c6 c7 hO1 hb b5
  have hlt := H1.out.lt
  have c5 : w1.cell? ⟨w.heap.size, 5, none⟩ = some (.slice B m e) := H1.out.cell 5
  have c6 : w1.cell? ⟨w.heap.size, 6, none⟩ = some (.int .u64 (s.g.u : Int)) := H1.out.cell 6
  have c7 : w1.cell? ⟨w.heap.size, 7, none⟩ = some (.bool s.g.b) := H1.out.cell 7
  have f5 := H1.out.fr 5
  have f6 := H1.out.fr 6
  have f7 := H1.out.fr 7
  have hlw : w.heap.size < w1.heap.size := by omega
  go_upto_region 11 with fail
  clear c5 c6 c7 f5 f6 f7
  have HX : Hid (∀ V, (((w1.setCell ⟨w.heap.size, 5, none⟩ (.slice B' (ks.length + 1) e')).setCell ⟨w.heap.size, 6, none⟩ (.int .u64 (u' : Int))).setCell ⟨w.heap.size, 7, none⟩ (.bool true)).alloc (.cells #[.slice B' (ks.length + 1) e', .int .u64 (u' : Int), .bool true] 32) = V →
      CBx w (dlCells { s with g := ⟨u', oo, aa, true⟩ } dt A n c B' (ks.length + 1) e') x.cs dlZero zeroF V ∧ OnlyE w1 V (fun k => k = w.heap.size)) := by
    rintro V rfl
    exact ⟨(((H1.out.set 5 (.slice B' (ks.length + 1) e')).set 6 (.int .u64 (u' : Int))).set 7 (.bool true)).on ((RowKit.Below.refl _ _).alloc (Nat.le_refl _) _), ((onlyE_set (D := fun k => k = w.heap.size) rfl 5 _).trans ((onlyE_set (D := fun k => k = w.heap.size) rfl 6 _).trans (onlyE_set (D := fun k => k = w.heap.size) rfl 7 _))).trans (OnlyE.of_below ((RowKit.Below.refl _ _).alloc (Nat.le_refl _) _))⟩
  generalize hV : World.alloc (World.setCell _ _ _) _ = V
  obtain ⟨h2', hO⟩ := HX.out V hV
  have H2 := Lib.hid h2'
  have HO := Lib.hid hO
  clear hV h2' hO HX
  have HKL : Hid ((ks ++ [kd]).length = ks.length + 1) := by show _ = _; rw [List.length_append]; rfl
  go_upto_region 13 with fail
  go_wp2_with (first | (refine load_L (.tmp 2) rfl H2.out.l rfl ?_) | (refine store_L (.tmp 4) (.tmp 64) rfl rfl H2.out.r rfl rfl (dl_one _ _ _ _ _ _ _ _) ?_; generalize hVV : V.setRow (w.heap.size + 1 + 1) (dlCells { s with g := ⟨u', oo, aa, true⟩ } dt A n c B' (ks.length + 1) e') = VV; have HV := CBx.put H2.out hVV; clear hVV; refine store_frame (cs := (atP 0).cs) (.tmp 5) (.tmp 65) rfl rfl HV.out.1.z rfl (Pf.size (atP 0)) (Pf.one (atP 0)) ?_) | fail)
  have hE := HV.out.1.setZ (atP 0).cs
  refine bodyPost_ret (results_cct rfl _ _ (w.heap.size + 1 + 1) (w.heap.size + 1 + 1 + 1) _ _ rfl (load_rowL hE.r rfl) rfl (load_rowF hE.z (Pf.size (atP 0)))) rfl ?_
  exact DCame.mk (U := V) (w1 := w1) HL.out HC.out.1 HC.out.2 HKL.out H0.out.below H0.out.lt (KeepsP.same A lm HB.out) HK.out HO.out HV.out.2 HV.out.1

set_option maxHeartbeats 1600000 in
theorem refLCome_next (hl : lm.length = n) (hnc : n ≤ c) (hcm : c ≤ maxLen) (hm : ks.length = m) (h1 : x.F.src = s.peer) (h2 : x.F.dst = s.me) (h3 : x.F.kind = 1) (u' oo aa : Nat) (hP : ∀ W, RowKit.Below w.heap.size w W → Calls Try.prog 33 #[.agg #[.slice B m e, .int .u64 (s.g.u : Int), .bool s.g.b], .int .u64 (x.F.seq : Int)] W (DGot W ks 1 u')) :
    Calls Try.prog 15 #[.agg (dlCells s dt A n c B m e), .agg x.cs] w (DCame w A lm B ks { s with g := ⟨u', oo, aa, true⟩ } dt lm (ks ++ [1]) x true) := by
  have HL := Lib.hid hl
  have HM := Lib.hid hm
  have HC := Lib.hid (And.intro hnc hcm)
  have HP := Lib.hid hP
  clear hP
  clear hl hm hnc hcm
  unfold dlCells
  go_enter Try.func15, Try.ntmps15
  go_upto_region 1 with fail
  generalize hW0 : World.alloc (World.alloc (World.alloc (World.alloc w _) _) _) _ = W0
  have H0 : Hid (CBx w (dlCells s dt A n c B m e) x.cs dlZero zeroF W0) := CBx.start hW0
  clear hW0
  have c0 : W0.cell? ⟨w.heap.size, 0, none⟩ = some (.int .u8 (s.me : Int)) := H0.out.cell 0
  have c1 : W0.cell? ⟨w.heap.size, 1, none⟩ = some (.int .u8 (s.peer : Int)) := H0.out.cell 1
  have b0 := (H0.out.cellF 0).trans x.k0
  have b1 := (H0.out.cellF 1).trans x.k1
  have b2 := (H0.out.cellF 2).trans x.k2
  have b5 := (H0.out.cellF 5).trans x.k5
  rw [h1] at b1
  rw [h2] at b2
  rw [h3] at b0
  go_upto_region 9 with fail
  clear c0 c1 b0 b1 b2
  have c5 : W0.cell? ⟨w.heap.size, 5, none⟩ = some (.slice B m e) := H0.out.cell 5
  have c6 : W0.cell? ⟨w.heap.size, 6, none⟩ = some (.int .u64 (s.g.u : Int)) := H0.out.cell 6
  have c7 : W0.cell? ⟨w.heap.size, 7, none⟩ = some (.bool s.g.b) := H0.out.cell 7
  go_wp2_with fail
  refine (HP.out W0 H0.out.below).mono ?_
  rintro en w1 ⟨B', e', rfl, hO1, hb⟩
  have H1 := Lib.hid (H0.out.on hb)
  have HK : Hid (KeepsK W0 B ks B' (ks ++ [1]) w1) := KeepsK.new hO1 (Nat.le_refl _)
  have HB := Lib.hid hb
  clear c5 c6 c7 hO1 hb b5
  have hlt := H1.out.lt
  have c5 : w1.cell? ⟨w.heap.size, 5, none⟩ = some (.slice B m e) := H1.out.cell 5
  have c6 : w1.cell? ⟨w.heap.size, 6, none⟩ = some (.int .u64 (s.g.u : Int)) := H1.out.cell 6
  have c7 : w1.cell? ⟨w.heap.size, 7, none⟩ = some (.bool s.g.b) := H1.out.cell 7
  have f5 := H1.out.fr 5
  have f6 := H1.out.fr 6
  have f7 := H1.out.fr 7
  have hlw : w.heap.size < w1.heap.size := by omega
  go_upto_region 11 with fail
  clear c5 c6 c7 f5 f6 f7
  have HX : Hid (∀ V, (((w1.setCell ⟨w.heap.size, 5, none⟩ (.slice B' (ks.length + 1) e')).setCell ⟨w.heap.size, 6, none⟩ (.int .u64 (u' : Int))).setCell ⟨w.heap.size, 7, none⟩ (.bool true)).alloc (.cells #[.slice B' (ks.length + 1) e', .int .u64 (u' : Int), .bool true] 32) = V →
      CBx w (dlCells { s with g := ⟨u', oo, aa, true⟩ } dt A n c B' (ks.length + 1) e') x.cs dlZero zeroF V ∧ OnlyE w1 V (fun k => k = w.heap.size)) := by
    rintro V rfl
    exact ⟨(((H1.out.set 5 (.slice B' (ks.length + 1) e')).set 6 (.int .u64 (u' : Int))).set 7 (.bool true)).on ((RowKit.Below.refl _ _).alloc (Nat.le_refl _) _), ((onlyE_set (D := fun k => k = w.heap.size) rfl 5 _).trans ((onlyE_set (D := fun k => k = w.heap.size) rfl 6 _).trans (onlyE_set (D := fun k => k = w.heap.size) rfl 7 _))).trans (OnlyE.of_below ((RowKit.Below.refl _ _).alloc (Nat.le_refl _) _))⟩
  generalize hV : World.alloc (World.setCell _ _ _) _ = V
  obtain ⟨h2', hO⟩ := HX.out V hV
  have H2 := Lib.hid h2'
  have HO := Lib.hid hO
  clear hV h2' hO HX
  have HKL : Hid ((ks ++ [1]).length = ks.length + 1) := by show _ = _; rw [List.length_append]; rfl
  go_upto_region 12 with fail
  have hHeld : LF w (dlCells { s with g := ⟨u', oo, aa, true⟩ } dt A n c B' (ks.length + 1) e') x.cs V.drew := ⟨H2.out.l, H2.out.f⟩
  refine wp_region_held_drew (S := LF w (dlCells { s with g := ⟨u', oo, aa, true⟩ } dt A n c B' (ks.length + 1) e') x.cs) (by kernel_rfl) hHeld (fun hHeld => ?_)
  have H3 := Lib.hid (H2.out.on (drewB V))
  have HO3 := Lib.hid (HO.out.trans (onlyE_drew V (fun k => k = w.heap.size)))
  generalize World.drew V = X0 at hHeld H3 HO3 ⊢
  clear H2 HO
  refine wpAnyH_takeAt (i := 0) (d := 62) (v := .agg (dlCells { s with g := ⟨u', oo, aa, true⟩ } dt A n c B' (ks.length + 1) e')) rfl rfl (by kernel_rfl) (by kernel_rfl) (by kernel_rfl) (fun _ _ _ h => h) (yields_L (S := LF w (dlCells { s with g := ⟨u', oo, aa, true⟩ } dt A n c B' (ks.length + 1) e') x.cs) (x := .tmp 2) (g := w.heap.size) rfl rfl rfl rfl (fun V hV => hV.1)) hHeld ?_
  simp only [List.setIfInBounds_toArray, List.set_cons_zero, List.set_cons_succ]
  refine wpAnyH_takeAt (i := 1) (d := 63) (v := .agg x.cs) rfl rfl (by kernel_rfl) (by kernel_rfl) (by kernel_rfl) (fun _ _ _ h => h) (yields_frame (S := LF w (dlCells { s with g := ⟨u', oo, aa, true⟩ } dt A n c B' (ks.length + 1) e') x.cs) (x := .tmp 3) (g := w.heap.size + 1) rfl rfl rfl (Pf.size x) (fun V hV => hV.2)) hHeld ?_
  simp only [List.setIfInBounds_toArray, List.set_cons_zero, List.set_cons_succ]
  refine wpAnyH_ready (rs := [2]) (by kernel_rfl) (by simp) ?_
  refine AllReadyH.cons rfl (fun K hK => ?_) AllReadyH.nil
  refine wp_store_Ls (x := .tmp 4) (y := .tmp 62) rfl rfl rfl rfl H3.out.r rfl rfl (dl_one _ _ _ _ _ _ _ _) ?_
  generalize hVV : X0.setRow (w.heap.size + 1 + 1) (dlCells { s with g := ⟨u', oo, aa, true⟩ } dt A n c B' (ks.length + 1) e') = VV
  have HV := CBx.put H3.out hVV
  clear hVV
  have hS4 : LF w (dlCells { s with g := ⟨u', oo, aa, true⟩ } dt A n c B' (ks.length + 1) e') x.cs VV := ⟨HV.out.1.l, HV.out.1.f⟩
  refine hK.out _ _ hS4 (fun _ => ?_)
  clear hK K hHeld
  have hHeld := hS4
  clear hS4
  refine wpAnyH_ready (rs := [3]) (by kernel_rfl) (by simp) ?_
  refine AllReadyH.cons rfl (fun K hK => ?_) AllReadyH.nil
  refine wp_store_Fs (x := .tmp 5) (y := .tmp 63) rfl rfl rfl rfl HV.out.1.z rfl (Pf.size x) (Pf.one x) ?_
  have hE := HV.out.1.setZ x.cs
  have hS5 : LF w (dlCells { s with g := ⟨u', oo, aa, true⟩ } dt A n c B' (ks.length + 1) e') x.cs (VV.setRow (w.heap.size + 1 + 1 + 1) x.cs) := ⟨hE.l, hE.f⟩
  have HE := Lib.hid hE
  refine hK.out _ _ hS5 (fun _ => ?_)
  clear hK K hHeld hE
  have hHeld := hS5
  clear hS5
  generalize hVZ : VV.setRow (w.heap.size + 1 + 1 + 1) x.cs = VZ at HE hHeld ⊢
  have HVZ := Lib.hid hVZ
  clear hVZ
  refine wpAnyH_takeAt (i := 4) (d := 6) (v := ?_) rfl rfl (by kernel_rfl) (by kernel_rfl) (by kernel_rfl) (fun _ _ _ h => h) (Or.inl ⟨by rfl, ?_⟩) hHeld ?_
  rotate_left
  · (intro _ hSw; go_simp; try with_reducible rfl)
  try simp only [List.setIfInBounds_toArray, List.set_cons_zero, List.set_cons_succ]
  refine wpAnyH_done (by kernel_rfl) ?_ _
  go_wp2
  refine bodyPost_ret (results_cct rfl _ _ (w.heap.size + 1 + 1) (w.heap.size + 1 + 1 + 1) _ _ rfl (load_rowL HE.out.r rfl) rfl (load_rowF HE.out.z (Pf.size x))) rfl ?_
  rw [← HVZ.out]
  exact DCame.mk (U := X0) (w1 := w1) HL.out HC.out.1 HC.out.2 HKL.out H0.out.below H0.out.lt (KeepsP.same A lm HB.out) HK.out HO3.out HV.out.2 HV.out.1

end

end Go.Proofs.Ytbkkpimhoeagdaa
