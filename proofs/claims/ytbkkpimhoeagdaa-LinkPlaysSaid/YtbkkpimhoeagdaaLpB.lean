/- The document's link as a value: Come. -/
import Derived.Test.YtbkkpimhoeagdaaLpG
namespace Go.Proofs.Ytbkkpimhoeagdaa
open Go.RowKit Go.Sort
set_option maxRecDepth 20000

theorem results_cct {fn : Func} {p q r : Tmp} {ty tz : TypeId} (h : fn.results = #[.cell p ty, .cell q tz, .tmp r]) (tmps : Array Value) (w : World) (g k : Nat) (cs ds : Array Value)
    (hp : tmps.getD p undef = .pointer (some ⟨g, 0, none⟩)) (hl : (loadVar ty ⟨g, 0, none⟩).run Try.prog w = .ok (.agg cs) w) (hq : tmps.getD q undef = .pointer (some ⟨k, 0, none⟩)) (hm : (loadVar tz ⟨k, 0, none⟩).run Try.prog w = .ok (.agg ds) w) :
    (results fn tmps).run Try.prog w = .ok (.tuple #[.agg cs, .agg ds, tmps.getD r undef]) w := by
  have hp' : tmps[p]?.getD undef = .pointer (some ⟨g, 0, none⟩) := by simpa using hp
  have hq' : tmps[q]?.getD undef = .pointer (some ⟨k, 0, none⟩) := by simpa using hq
  simp [results, h, hp', hq', asAddr, hl, hm]

/-- The boxes of Come: the link, the frame, the two answers. -/
structure CBx (w : World) (ls fs rl rf : Array Value) (W : World) : Prop where
  below : RowKit.Below w.heap.size w W
  l : W.heap[w.heap.size]? = some (.cells ls 34 (0, 0))
  f : W.heap[w.heap.size + 1]? = some (.cells fs 44 (0, 0))
  r : W.heap[w.heap.size + 1 + 1]? = some (.cells rl 34 (0, 0))
  z : W.heap[w.heap.size + 1 + 1 + 1]? = some (.cells rf 44 (0, 0))
theorem CBx.start {w W : World} {ls fs rl rf : Array Value} (h : (((w.alloc (.cells ls 34)).alloc (.cells fs 44)).alloc (.cells rl 34)).alloc (.cells rf 44) = W) : CBx w ls fs rl rf W := by
  generalize hV : ((w.alloc (.cells ls 34)).alloc (.cells fs 44)).alloc (.cells rl 34) = V at h
  obtain ⟨h1, h2, h3, hb⟩ := alloc3_blocks w _ _ _ hV
  have hbA : RowKit.Below V.heap.size V W := by rw [← h]; exact (RowKit.Below.refl _ _).alloc (Nat.le_refl _) _
  have hz : V.heap.size = w.heap.size + 1 + 1 + 1 := by rw [← hV]; simp
  refine ⟨hb.trans (hbA.mono hb.size), (hbA.block _ (by omega)).trans h1, (hbA.block _ (by omega)).trans h2, (hbA.block _ (by omega)).trans h3, ?_⟩
  rw [← h, ← hz]
  exact heap_alloc_new _ _
theorem CBx.lt {w W : World} {ls fs rl rf : Array Value} (h : CBx w ls fs rl rf W) : w.heap.size + 4 ≤ W.heap.size := (Array.getElem?_eq_some_iff.1 h.z).1
theorem CBx.on {w W W' : World} {ls fs rl rf : Array Value} (h : CBx w ls fs rl rf W) (hb : RowKit.Below W.heap.size W W') : CBx w ls fs rl rf W' := by
  have h3 := h.lt
  exact ⟨h.below.trans (hb.mono h.below.size), (hb.block _ (by omega)).trans h.l, (hb.block _ (by omega)).trans h.f, (hb.block _ (by omega)).trans h.r, (hb.block _ (by omega)).trans h.z⟩
theorem CBx.set {w W : World} {ls fs rl rf : Array Value} (h : CBx w ls fs rl rf W) (i : Nat) (u : Value) : CBx w (ls.setIfInBounds i u) fs rl rf (W.setCell ⟨w.heap.size, i, none⟩ u) :=
  ⟨h.below.setCell (p := ⟨w.heap.size, i, none⟩) (Nat.le_refl _) u, heap_setCell_same W _ i _ _ u h.l, (heap_setCell_other W ⟨w.heap.size, i, none⟩ (w.heap.size + 1) u (by simp)).trans h.f, (heap_setCell_other W ⟨w.heap.size, i, none⟩ (w.heap.size + 1 + 1) u (show w.heap.size + 1 + 1 ≠ w.heap.size by omega)).trans h.r,
    (heap_setCell_other W ⟨w.heap.size, i, none⟩ (w.heap.size + 1 + 1 + 1) u (show w.heap.size + 1 + 1 + 1 ≠ w.heap.size by omega)).trans h.z⟩
theorem CBx.setR {w W : World} {ls fs rl rf : Array Value} (h : CBx w ls fs rl rf W) (cs : Array Value) : CBx w ls fs cs rf (W.setRow (w.heap.size + 1 + 1) cs) := by
  have hg := grown_setRow W (w.heap.size + 1 + 1) cs
  have hlt := h.lt
  have hne : ∀ k, k ≠ w.heap.size + 1 + 1 → k < W.heap.size → (W.setRow (w.heap.size + 1 + 1) cs).heap[k]? = W.heap[k]? := fun k hk hl => hg.block k hl fun e => hk (Option.some.inj e).symm.symm
  exact ⟨Below.setRow h.below (by omega) _, (hne _ (by omega) (by omega)).trans h.l, (hne _ (by omega) (by omega)).trans h.f, setRow_heap _ _ _ _ _ _ h.r, (hne _ (by omega) (by omega)).trans h.z⟩
theorem CBx.setZ {w W : World} {ls fs rl rf : Array Value} (h : CBx w ls fs rl rf W) (cs : Array Value) : CBx w ls fs rl cs (W.setRow (w.heap.size + 1 + 1 + 1) cs) := by
  have hg := grown_setRow W (w.heap.size + 1 + 1 + 1) cs
  have hlt := h.lt
  have hne : ∀ k, k ≠ w.heap.size + 1 + 1 + 1 → k < W.heap.size → (W.setRow (w.heap.size + 1 + 1 + 1) cs).heap[k]? = W.heap[k]? := fun k hk hl => hg.block k hl fun e => hk (Option.some.inj e).symm.symm
  exact ⟨Below.setRow h.below (by omega) _, (hne _ (by omega) (by omega)).trans h.l, (hne _ (by omega) (by omega)).trans h.f, (hne _ (by omega) (by omega)).trans h.r, setRow_heap _ _ _ _ _ _ h.z⟩
theorem CBx.cell {w W : World} {ls fs rl rf : Array Value} (h : CBx w ls fs rl rf W) (i : Nat) : W.cell? ⟨w.heap.size, i, none⟩ = ls[i]? := cell_of_row W _ i _ _ _ h.l
theorem CBx.cellF {w W : World} {ls fs rl rf : Array Value} (h : CBx w ls fs rl rf W) (i : Nat) : W.cell? ⟨w.heap.size + 1, i, none⟩ = fs[i]? := cell_of_row W _ i _ _ _ h.f
theorem CBx.fr {w W : World} {ls fs rl rf : Array Value} (h : CBx w ls fs rl rf W) (i : Nat) : W.frozen? ⟨w.heap.size, i, none⟩ = false := frozen_of_row W _ i _ _ h.l

theorem CBx.put {w W0 VV : World} {ls fs rl rf cs : Array Value} (h : CBx w ls fs rl rf W0) (hVV : W0.setRow (w.heap.size + 1 + 1) cs = VV) : Hid (CBx w ls fs cs rf VV ∧ OnlyE W0 VV (fun k => k = w.heap.size + 1 + 1)) := by
  show _ ∧ _
  rw [← hVV]
  exact ⟨h.setR _, onlyE_setRow (D := fun k => k = w.heap.size + 1 + 1) rfl _⟩
theorem Pf.k0 (x : Pf) : x.cs[0]? = some (.int .u8 (x.F.kind : Int)) := rfl
theorem Pf.k1 (x : Pf) : x.cs[1]? = some (.int .u8 (x.F.src : Int)) := rfl
theorem Pf.k2 (x : Pf) : x.cs[2]? = some (.int .u8 (x.F.dst : Int)) := rfl
theorem Pf.k5 (x : Pf) : x.cs[5]? = some (.int .u64 (x.F.seq : Int)) := rfl

/-- What the document's Come answers. -/
def DCame (w : World) (A : Option Addr) (lm : List Pf) (B : Option Addr) (ks : List Nat) (s' : Ls) (dt' : Nat) (ys : List Pf) (ks' : List Nat) (y : Pf) (ok : Bool) (en : Ending) (w' : World) : Prop :=
  ∃ v, en = .returned (.tuple #[v, .agg y.cs, .bool ok]) ∧ DL w A lm B ks s' dt' ys ks' v w'

/-- The answer, out of the boxes. -/
theorem DCame.mk {w W0 w1 U V : World} {A A' B B' : Option Addr} {lm ys : List Pf} {ks ks' : List Nat} {s' : Ls} {dt' n' c' m' e' : Nat} {y : Pf} {fs : Array Value} {ok : Bool} {rl rf : Array Value} (hn : ys.length = n') (hc : n' ≤ c') (hcm : c' ≤ maxLen) (hm : ks'.length = m')
    (hb0 : RowKit.Below w.heap.size w W0) (h4 : w.heap.size + 4 ≤ W0.heap.size) (hK : KeepsP W0 A lm A' ys w1) (hKK : KeepsK W0 B ks B' ks' w1) (ho : OnlyE w1 U (fun k => k = w.heap.size)) (ho2 : OnlyE U V (fun k => k = w.heap.size + 1 + 1)) (hV : CBx w (dlCells s' dt' A' n' c' B' m' e') fs rl rf V) :
    DCame w A lm B ks s' dt' ys ks' y ok (.returned (.tuple #[.agg (dlCells s' dt' A' n' c' B' m' e'), .agg y.cs, .bool ok])) (V.setRow (w.heap.size + 1 + 1 + 1) y.cs) := by
  subst hn hm
  have hO : OnlyE w1 (V.setRow (w.heap.size + 1 + 1 + 1) y.cs) (fun k => w.heap.size ≤ k ∧ k < W0.heap.size) :=
    (ho.mono fun k e => by subst e; exact ⟨Nat.le_refl _, by omega⟩).trans ((ho2.mono fun k e => by subst e; constructor <;> omega).trans (onlyE_setRow (by constructor <;> omega) _))
  exact ⟨_, rfl, A', c', B', e', rfl, hc, hcm, KeepsP.through hb0 hK hO, KeepsK.through hb0 hKK hO, Below.setRow hV.below (by omega) _⟩

section
variable (s : Ls) (dt : Nat) (A : Option Addr) (n c : Nat) (B : Option Addr) (m e : Nat) (lm : List Pf) (ks : List Nat) (x : Pf) (w : World)
set_option maxHeartbeats 1600000 in
theorem refLCome_src (hl : lm.length = n) (hnc : n ≤ c) (hcm : c ≤ maxLen) (hm : ks.length = m) (h1 : x.F.src ≠ s.peer) :
    Calls Try.prog 15 #[.agg (dlCells s dt A n c B m e), .agg x.cs] w (DCame w A lm B ks s dt lm ks (atP 0) false) := by
  have HL := Lib.hid hl
  have HM := Lib.hid hm
  have HC := Lib.hid (And.intro hnc hcm)
  have d1 : ((x.F.src : Int) == (s.peer : Int)) = false := by simp; omega
  have d2 : ((x.F.src : Int) != (s.peer : Int)) = true := by simp; omega
  clear hl hm hnc hcm
  unfold dlCells
  go_enter Try.func15, Try.ntmps15
  go_upto_region 1 with fail
  generalize hW0 : World.alloc (World.alloc (World.alloc (World.alloc w _) _) _) _ = W0
  have H0 : Hid (CBx w (dlCells s dt A n c B m e) x.cs dlZero zeroF W0) := CBx.start hW0
  clear hW0
  have c0 : W0.cell? ⟨w.heap.size, 0, none⟩ = some (.int .u8 (s.me : Int)) := H0.out.cell 0
  have c1 : W0.cell? ⟨w.heap.size, 1, none⟩ = some (.int .u8 (s.peer : Int)) := H0.out.cell 1
  have b0 := (H0.out.cellF 0).trans x.k0
  have b1 := (H0.out.cellF 1).trans x.k1
  have b2 := (H0.out.cellF 2).trans x.k2
  have b5 := (H0.out.cellF 5).trans x.k5
  skip
  go_upto_region 2 with fail
  go_wp2_with (first | (refine load_L (.tmp 2) rfl H0.out.l rfl ?_) | (refine store_L (.tmp 4) (.tmp 25) rfl rfl H0.out.r rfl rfl (dl_one _ _ _ _ _ _ _ _) ?_; generalize hVV : W0.setRow (w.heap.size + 1 + 1) (dlCells s dt A n c B m e) = VV; have HV := CBx.put H0.out hVV; clear hVV; refine store_frame (cs := (atP 0).cs) (.tmp 5) (.tmp 26) rfl rfl HV.out.1.z rfl (Pf.size (atP 0)) (Pf.one (atP 0)) ?_) | fail)
  have hE := HV.out.1.setZ (atP 0).cs
  refine bodyPost_ret (results_cct rfl _ _ (w.heap.size + 1 + 1) (w.heap.size + 1 + 1 + 1) _ _ rfl (load_rowL hE.r rfl) rfl (load_rowF hE.z (Pf.size (atP 0)))) rfl ?_
  exact DCame.mk (U := W0) (w1 := W0) HL.out HC.out.1 HC.out.2 HM.out H0.out.below H0.out.lt (KeepsP.same A lm (RowKit.Below.refl _ _)) (KeepsK.same B ks (RowKit.Below.refl _ _)) (OnlyE.refl _ _) HV.out.2 HV.out.1

set_option maxHeartbeats 1600000 in
theorem refLCome_dst (hl : lm.length = n) (hnc : n ≤ c) (hcm : c ≤ maxLen) (hm : ks.length = m) (h1 : x.F.src = s.peer) (h2 : x.F.dst ≠ s.me) :
    Calls Try.prog 15 #[.agg (dlCells s dt A n c B m e), .agg x.cs] w (DCame w A lm B ks s dt lm ks (atP 0) false) := by
  have HL := Lib.hid hl
  have HM := Lib.hid hm
  have HC := Lib.hid (And.intro hnc hcm)
  have d1 : ((x.F.dst : Int) == (s.me : Int)) = false := by simp; omega
  have d2 : ((x.F.dst : Int) != (s.me : Int)) = true := by simp; omega
  clear hl hm hnc hcm
  unfold dlCells
  go_enter Try.func15, Try.ntmps15
  go_upto_region 1 with fail
  generalize hW0 : World.alloc (World.alloc (World.alloc (World.alloc w _) _) _) _ = W0
  have H0 : Hid (CBx w (dlCells s dt A n c B m e) x.cs dlZero zeroF W0) := CBx.start hW0
  clear hW0
  have c0 : W0.cell? ⟨w.heap.size, 0, none⟩ = some (.int .u8 (s.me : Int)) := H0.out.cell 0
  have c1 : W0.cell? ⟨w.heap.size, 1, none⟩ = some (.int .u8 (s.peer : Int)) := H0.out.cell 1
  have b0 := (H0.out.cellF 0).trans x.k0
  have b1 := (H0.out.cellF 1).trans x.k1
  have b2 := (H0.out.cellF 2).trans x.k2
  have b5 := (H0.out.cellF 5).trans x.k5
  rw [h1] at b1
  go_upto_region 2 with fail
  go_wp2_with (first | (refine load_L (.tmp 2) rfl H0.out.l rfl ?_) | (refine store_L (.tmp 4) (.tmp 25) rfl rfl H0.out.r rfl rfl (dl_one _ _ _ _ _ _ _ _) ?_; generalize hVV : W0.setRow (w.heap.size + 1 + 1) (dlCells s dt A n c B m e) = VV; have HV := CBx.put H0.out hVV; clear hVV; refine store_frame (cs := (atP 0).cs) (.tmp 5) (.tmp 26) rfl rfl HV.out.1.z rfl (Pf.size (atP 0)) (Pf.one (atP 0)) ?_) | fail)
  have hE := HV.out.1.setZ (atP 0).cs
  refine bodyPost_ret (results_cct rfl _ _ (w.heap.size + 1 + 1) (w.heap.size + 1 + 1 + 1) _ _ rfl (load_rowL hE.r rfl) rfl (load_rowF hE.z (Pf.size (atP 0)))) rfl ?_
  exact DCame.mk (U := W0) (w1 := W0) HL.out HC.out.1 HC.out.2 HM.out H0.out.below H0.out.lt (KeepsP.same A lm (RowKit.Below.refl _ _)) (KeepsK.same B ks (RowKit.Below.refl _ _)) (OnlyE.refl _ _) HV.out.2 HV.out.1

set_option maxHeartbeats 1600000 in
theorem refLCome_kind (hl : lm.length = n) (hnc : n ≤ c) (hcm : c ≤ maxLen) (hm : ks.length = m) (h1 : x.F.src = s.peer) (h2 : x.F.dst = s.me) (h3 : x.F.kind ≠ 2) (h4 : x.F.kind ≠ 1) :
    Calls Try.prog 15 #[.agg (dlCells s dt A n c B m e), .agg x.cs] w (DCame w A lm B ks s dt lm ks (atP 0) false) := by
  have HL := Lib.hid hl
  have HM := Lib.hid hm
  have HC := Lib.hid (And.intro hnc hcm)
  have d2 : ((x.F.kind : Int) == 2) = false := by simp; omega
  have d4 : ((x.F.kind : Int) == 1) = false := by simp; omega
  clear hl hm hnc hcm
  unfold dlCells
  go_enter Try.func15, Try.ntmps15
  go_upto_region 1 with fail
  generalize hW0 : World.alloc (World.alloc (World.alloc (World.alloc w _) _) _) _ = W0
  have H0 : Hid (CBx w (dlCells s dt A n c B m e) x.cs dlZero zeroF W0) := CBx.start hW0
  clear hW0
  have c0 : W0.cell? ⟨w.heap.size, 0, none⟩ = some (.int .u8 (s.me : Int)) := H0.out.cell 0
  have c1 : W0.cell? ⟨w.heap.size, 1, none⟩ = some (.int .u8 (s.peer : Int)) := H0.out.cell 1
  have b0 := (H0.out.cellF 0).trans x.k0
  have b1 := (H0.out.cellF 1).trans x.k1
  have b2 := (H0.out.cellF 2).trans x.k2
  have b5 := (H0.out.cellF 5).trans x.k5
  rw [h1] at b1
  rw [h2] at b2
  go_upto_region 13 with fail
  go_wp2_with (first | (refine load_L (.tmp 2) rfl H0.out.l rfl ?_) | (refine store_L (.tmp 4) (.tmp 64) rfl rfl H0.out.r rfl rfl (dl_one _ _ _ _ _ _ _ _) ?_; generalize hVV : W0.setRow (w.heap.size + 1 + 1) (dlCells s dt A n c B m e) = VV; have HV := CBx.put H0.out hVV; clear hVV; refine store_frame (cs := (atP 0).cs) (.tmp 5) (.tmp 65) rfl rfl HV.out.1.z rfl (Pf.size (atP 0)) (Pf.one (atP 0)) ?_) | fail)
  have hE := HV.out.1.setZ (atP 0).cs
  refine bodyPost_ret (results_cct rfl _ _ (w.heap.size + 1 + 1) (w.heap.size + 1 + 1 + 1) _ _ rfl (load_rowL hE.r rfl) rfl (load_rowF hE.z (Pf.size (atP 0)))) rfl ?_
  exact DCame.mk (U := W0) (w1 := W0) HL.out HC.out.1 HC.out.2 HM.out H0.out.below H0.out.lt (KeepsP.same A lm (RowKit.Below.refl _ _)) (KeepsK.same B ks (RowKit.Below.refl _ _)) (OnlyE.refl _ _) HV.out.2 HV.out.1

set_option maxHeartbeats 1600000 in
theorem refLCome_ack0 (hl : lm.length = n) (hnc : n ≤ c) (hcm : c ≤ maxLen) (hm : ks.length = m) (h1 : x.F.src = s.peer) (h2 : x.F.dst = s.me) (h3 : x.F.kind = 2) (ys : List Pf) (kk : Nat) (hP : ∀ W, RowKit.Below w.heap.size w W → Calls Try.prog 32 #[.agg #[.int .i64 (s.width : Int), .slice A n c, .int .u64 (s.last : Int)], .int .u64 (x.F.seq : Int)] W (RGot W A lm s.width ys s.last kk)) (h5 : kk = 0) :
    Calls Try.prog 15 #[.agg (dlCells s dt A n c B m e), .agg x.cs] w (DCame w A lm B ks s dt ys ks (atP 0) false) := by
  have HL := Lib.hid hl
  have HM := Lib.hid hm
  have HC := Lib.hid (And.intro hnc hcm)
  have d2 : decide ((0 : Int) < (kk : Int)) = false := by simp; omega
  have d1 : decide (0 < kk) = false := by simp; omega
  have HP := Lib.hid hP
  clear hP
  clear hl hm hnc hcm
  unfold dlCells
  go_enter Try.func15, Try.ntmps15
  go_upto_region 1 with fail
  generalize hW0 : World.alloc (World.alloc (World.alloc (World.alloc w _) _) _) _ = W0
  have H0 : Hid (CBx w (dlCells s dt A n c B m e) x.cs dlZero zeroF W0) := CBx.start hW0
  clear hW0
  have c0 : W0.cell? ⟨w.heap.size, 0, none⟩ = some (.int .u8 (s.me : Int)) := H0.out.cell 0
  have c1 : W0.cell? ⟨w.heap.size, 1, none⟩ = some (.int .u8 (s.peer : Int)) := H0.out.cell 1
  have b0 := (H0.out.cellF 0).trans x.k0
  have b1 := (H0.out.cellF 1).trans x.k1
  have b2 := (H0.out.cellF 2).trans x.k2
  have b5 := (H0.out.cellF 5).trans x.k5
  rw [h1] at b1
  rw [h2] at b2
  rw [h3] at b0
  go_upto_region 4 with fail
  clear c0 c1 b0 b1 b2
  have c2 : W0.cell? ⟨w.heap.size, 2, none⟩ = some (.int .i64 (s.width : Int)) := H0.out.cell 2
  have c3 : W0.cell? ⟨w.heap.size, 3, none⟩ = some (.slice A n c) := H0.out.cell 3
  have c4 : W0.cell? ⟨w.heap.size, 4, none⟩ = some (.int .u64 (s.last : Int)) := H0.out.cell 4
  go_wp2_with fail
  refine (HP.out W0 H0.out.below).mono ?_
  rintro en w1 ⟨A', c', rfl, hc', hcm', hK, hb⟩
  have H1 := Lib.hid (H0.out.on hb)
  have HK := Lib.hid hK
  have HB := Lib.hid hb
  have HC1 := Lib.hid (And.intro hc' hcm')
  clear c2 c3 c4 hK hb hc' hcm' b5
  unfold rCells
  have hlt := H1.out.lt
  have c2 : w1.cell? ⟨w.heap.size, 2, none⟩ = some (.int .i64 (s.width : Int)) := H1.out.cell 2
  have c3 : w1.cell? ⟨w.heap.size, 3, none⟩ = some (.slice A n c) := H1.out.cell 3
  have c4 : w1.cell? ⟨w.heap.size, 4, none⟩ = some (.int .u64 (s.last : Int)) := H1.out.cell 4
  have f2 := H1.out.fr 2
  have f3 := H1.out.fr 3
  have f4 := H1.out.fr 4
  have hlw : w.heap.size < w1.heap.size := by omega
  go_upto_region 6 with fail
  clear c2 c3 c4 f2 f3 f4
  have HX : Hid (∀ V, (((w1.setCell ⟨w.heap.size, 2, none⟩ (.int .i64 (s.width : Int))).setCell ⟨w.heap.size, 3, none⟩ (.slice A' ys.length c')).setCell ⟨w.heap.size, 4, none⟩ (.int .u64 (s.last : Int))).alloc (.cells #[.int .i64 (s.width : Int), .slice A' ys.length c', .int .u64 (s.last : Int)] 29) = V →
      CBx w (dlCells s dt A' ys.length c' B m e) x.cs dlZero zeroF V ∧ OnlyE w1 V (fun k => k = w.heap.size)) := by
    rintro V rfl
    exact ⟨(((H1.out.set 2 (.int .i64 (s.width : Int))).set 3 (.slice A' ys.length c')).set 4 (.int .u64 (s.last : Int))).on ((RowKit.Below.refl _ _).alloc (Nat.le_refl _) _), ((onlyE_set (D := fun k => k = w.heap.size) rfl 2 _).trans ((onlyE_set (D := fun k => k = w.heap.size) rfl 3 _).trans (onlyE_set (D := fun k => k = w.heap.size) rfl 4 _))).trans (OnlyE.of_below ((RowKit.Below.refl _ _).alloc (Nat.le_refl _) _))⟩
  generalize hV : World.alloc (World.setCell _ _ _) _ = V
  obtain ⟨h2', hO⟩ := HX.out V hV
  have H2 := Lib.hid h2'
  have HO := Lib.hid hO
  clear hV h2' hO HX
  have b0 := (H2.out.cellF 0).trans x.k0
  rw [h3] at b0
  go_upto_region 13 with fail
  go_wp2_with (first | (refine load_L (.tmp 2) rfl H2.out.l rfl ?_) | (refine store_L (.tmp 4) (.tmp 64) rfl rfl H2.out.r rfl rfl (dl_one _ _ _ _ _ _ _ _) ?_; generalize hVV : V.setRow (w.heap.size + 1 + 1) (dlCells s dt A' ys.length c' B m e) = VV; have HV := CBx.put H2.out hVV; clear hVV; refine store_frame (cs := (atP 0).cs) (.tmp 5) (.tmp 65) rfl rfl HV.out.1.z rfl (Pf.size (atP 0)) (Pf.one (atP 0)) ?_) | fail)
  have hE := HV.out.1.setZ (atP 0).cs
  refine bodyPost_ret (results_cct rfl _ _ (w.heap.size + 1 + 1) (w.heap.size + 1 + 1 + 1) _ _ rfl (load_rowL hE.r rfl) rfl (load_rowF hE.z (Pf.size (atP 0)))) rfl ?_
  exact DCame.mk (U := V) (w1 := w1) rfl HC1.out.1 HC1.out.2 HM.out H0.out.below H0.out.lt HK.out (KeepsK.same B ks HB.out) HO.out HV.out.2 HV.out.1

set_option maxHeartbeats 1600000 in
theorem refLCome_ack1 (hl : lm.length = n) (hnc : n ≤ c) (hcm : c ≤ maxLen) (hm : ks.length = m) (h1 : x.F.src = s.peer) (h2 : x.F.dst = s.me) (h3 : x.F.kind = 2) (ys : List Pf) (kk : Nat) (hP : ∀ W, RowKit.Below w.heap.size w W → Calls Try.prog 32 #[.agg #[.int .i64 (s.width : Int), .slice A n c, .int .u64 (s.last : Int)], .int .u64 (x.F.seq : Int)] W (RGot W A lm s.width ys s.last kk)) (h5 : 0 < kk) :
    Calls Try.prog 15 #[.agg (dlCells s dt A n c B m e), .agg x.cs] w (DCame w A lm B ks s s.asked ys ks (atP 0) false) := by
  have HL := Lib.hid hl
  have HM := Lib.hid hm
  have HC := Lib.hid (And.intro hnc hcm)
  have d2 : decide ((0 : Int) < (kk : Int)) = true := by simp; omega
  have d1 : decide (0 < kk) = true := by simp; omega
  have HP := Lib.hid hP
  clear hP
  clear hl hm hnc hcm
  unfold dlCells
  go_enter Try.func15, Try.ntmps15
  go_upto_region 1 with fail
  generalize hW0 : World.alloc (World.alloc (World.alloc (World.alloc w _) _) _) _ = W0
  have H0 : Hid (CBx w (dlCells s dt A n c B m e) x.cs dlZero zeroF W0) := CBx.start hW0
  clear hW0
  have c0 : W0.cell? ⟨w.heap.size, 0, none⟩ = some (.int .u8 (s.me : Int)) := H0.out.cell 0
  have c1 : W0.cell? ⟨w.heap.size, 1, none⟩ = some (.int .u8 (s.peer : Int)) := H0.out.cell 1
  have b0 := (H0.out.cellF 0).trans x.k0
  have b1 := (H0.out.cellF 1).trans x.k1
  have b2 := (H0.out.cellF 2).trans x.k2
  have b5 := (H0.out.cellF 5).trans x.k5
  rw [h1] at b1
  rw [h2] at b2
  rw [h3] at b0
  go_upto_region 4 with fail
  clear c0 c1 b0 b1 b2
  have c2 : W0.cell? ⟨w.heap.size, 2, none⟩ = some (.int .i64 (s.width : Int)) := H0.out.cell 2
  have c3 : W0.cell? ⟨w.heap.size, 3, none⟩ = some (.slice A n c) := H0.out.cell 3
  have c4 : W0.cell? ⟨w.heap.size, 4, none⟩ = some (.int .u64 (s.last : Int)) := H0.out.cell 4
  go_wp2_with fail
  refine (HP.out W0 H0.out.below).mono ?_
  rintro en w1 ⟨A', c', rfl, hc', hcm', hK, hb⟩
  have H1 := Lib.hid (H0.out.on hb)
  have HK := Lib.hid hK
  have HB := Lib.hid hb
  have HC1 := Lib.hid (And.intro hc' hcm')
  clear c2 c3 c4 hK hb hc' hcm' b5
  unfold rCells
  have hlt := H1.out.lt
  have c2 : w1.cell? ⟨w.heap.size, 2, none⟩ = some (.int .i64 (s.width : Int)) := H1.out.cell 2
  have c3 : w1.cell? ⟨w.heap.size, 3, none⟩ = some (.slice A n c) := H1.out.cell 3
  have c4 : w1.cell? ⟨w.heap.size, 4, none⟩ = some (.int .u64 (s.last : Int)) := H1.out.cell 4
  have f2 := H1.out.fr 2
  have f3 := H1.out.fr 3
  have f4 := H1.out.fr 4
  have hlw : w.heap.size < w1.heap.size := by omega
  go_upto_region 6 with fail
  clear c2 c3 c4 f2 f3 f4
  have HX : Hid (∀ V, (((w1.setCell ⟨w.heap.size, 2, none⟩ (.int .i64 (s.width : Int))).setCell ⟨w.heap.size, 3, none⟩ (.slice A' ys.length c')).setCell ⟨w.heap.size, 4, none⟩ (.int .u64 (s.last : Int))).alloc (.cells #[.int .i64 (s.width : Int), .slice A' ys.length c', .int .u64 (s.last : Int)] 29) = V →
      CBx w (dlCells s dt A' ys.length c' B m e) x.cs dlZero zeroF V ∧ OnlyE w1 V (fun k => k = w.heap.size)) := by
    rintro V rfl
    exact ⟨(((H1.out.set 2 (.int .i64 (s.width : Int))).set 3 (.slice A' ys.length c')).set 4 (.int .u64 (s.last : Int))).on ((RowKit.Below.refl _ _).alloc (Nat.le_refl _) _), ((onlyE_set (D := fun k => k = w.heap.size) rfl 2 _).trans ((onlyE_set (D := fun k => k = w.heap.size) rfl 3 _).trans (onlyE_set (D := fun k => k = w.heap.size) rfl 4 _))).trans (OnlyE.of_below ((RowKit.Below.refl _ _).alloc (Nat.le_refl _) _))⟩
  generalize hV : World.alloc (World.setCell _ _ _) _ = V
  obtain ⟨h2', hO⟩ := HX.out V hV
  have H2 := Lib.hid h2'
  have HO := Lib.hid hO
  clear hV h2' hO HX
  have b0 := (H2.out.cellF 0).trans x.k0
  rw [h3] at b0
  have HB0 := Lib.hid b0
  clear b0
  have e10 : V.cell? ⟨w.heap.size, 10, none⟩ = some (.int .i64 (dt : Int)) := H2.out.cell 10
  have e11 : V.cell? ⟨w.heap.size, 11, none⟩ = some (.int .i64 (s.asked : Int)) := H2.out.cell 11
  have g10 := H2.out.fr 10
  go_upto_region 8 with fail
  have H3 : Hid (CBx w (dlCells s s.asked A' ys.length c' B m e) x.cs dlZero zeroF (V.setCell ⟨w.heap.size, 10, none⟩ (.int .i64 (s.asked : Int)))) := H2.out.set 10 (.int .i64 (s.asked : Int))
  have HO3 : Hid (OnlyE w1 (V.setCell ⟨w.heap.size, 10, none⟩ (.int .i64 (s.asked : Int))) (fun k => k = w.heap.size)) := HO.out.trans (onlyE_set (D := fun k => k = w.heap.size) rfl 10 _)
  generalize V.setCell ⟨w.heap.size, 10, none⟩ (.int .i64 (s.asked : Int)) = U at H3 HO3 ⊢
  clear e10 e11 g10
  have b0 := (H3.out.cellF 0).trans x.k0
  rw [h3] at b0
  go_upto_region 13 with fail
  go_wp2_with (first | (refine load_L (.tmp 2) rfl H3.out.l rfl ?_) | (refine store_L (.tmp 4) (.tmp 64) rfl rfl H3.out.r rfl rfl (dl_one _ _ _ _ _ _ _ _) ?_; generalize hVV : U.setRow (w.heap.size + 1 + 1) (dlCells s s.asked A' ys.length c' B m e) = VV; have HV := CBx.put H3.out hVV; clear hVV; refine store_frame (cs := (atP 0).cs) (.tmp 5) (.tmp 65) rfl rfl HV.out.1.z rfl (Pf.size (atP 0)) (Pf.one (atP 0)) ?_) | fail)
  have hE := HV.out.1.setZ (atP 0).cs
  refine bodyPost_ret (results_cct rfl _ _ (w.heap.size + 1 + 1) (w.heap.size + 1 + 1 + 1) _ _ rfl (load_rowL hE.r rfl) rfl (load_rowF hE.z (Pf.size (atP 0)))) rfl ?_
  exact DCame.mk (U := U) (w1 := w1) rfl HC1.out.1 HC1.out.2 HM.out H0.out.below H0.out.lt HK.out (KeepsK.same B ks HB.out) HO3.out HV.out.2 HV.out.1

end

end Go.Proofs.Ytbkkpimhoeagdaa
