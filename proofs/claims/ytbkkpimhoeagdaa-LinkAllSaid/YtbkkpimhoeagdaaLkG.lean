/- A link: Come. -/
import Derived.Test.YtbkkpimhoeagdaaLkF
namespace Go.Proofs.Ytbkkpimhoeagdaa
open Go.RowKit Go.Sort
set_option maxRecDepth 20000

theorem load_rowF {W : World} {g : Nat} {cs : Array Value} (hg : W.heap[g]? = some (.cells cs 44 (0, 0))) (hs : cs.size = 16) : (loadVar 44 ⟨g, 0, none⟩).run Try.prog W = .ok (.agg cs) W :=
  run_loadVar_row W g _ _ cs (0, 0) _ hg Try.underlying44 rfl (info33 hs)

section
variable {w : World} {F : Fr} {cs : Array Value}
theorem FrL.k0 (h : FrL w F cs) : cs[0]? = some (.int .u8 (F.kind : Int)) := by obtain ⟨p, rfl, -⟩ := h; rfl
theorem FrL.k1 (h : FrL w F cs) : cs[1]? = some (.int .u8 (F.src : Int)) := by obtain ⟨p, rfl, -⟩ := h; rfl
theorem FrL.k2 (h : FrL w F cs) : cs[2]? = some (.int .u8 (F.dst : Int)) := by obtain ⟨p, rfl, -⟩ := h; rfl
theorem FrL.k5 (h : FrL w F cs) : cs[5]? = some (.int .u64 (F.seq : Int)) := by obtain ⟨p, rfl, -⟩ := h; rfl
theorem FrL.size16 (h : FrL w F cs) : cs.size = 16 := by obtain ⟨p, rfl, -⟩ := h; rfl
end

/-- A frame comes. -/
def Ls.acked (s : Ls) (n : Nat) : Ls := { s with fs := s.fs.drop (ackN s.last s.fs.length n), tick := if 0 < ackN s.last s.fs.length n then s.asked else s.tick }
def Ls.come (s : Ls) (F : Fr) : Ls := if F.src = s.peer ∧ F.dst = s.me then (if F.kind = 2 then s.acked F.seq else if F.kind = 1 then { s with g := s.g.step F.seq } else s) else s
/-- Is it the chunk that is the next one? -/
def Ls.comes (s : Ls) (F : Fr) : Bool := decide (F.src = s.peer ∧ F.dst = s.me ∧ F.kind = 1 ∧ F.seq = s.g.u + 1)

/-- .. where frames may have gone, and no new block is the window's. -/
def LkDn (w : World) (base p pw pg : Nat) (T : Value) (l : List Pf) (D : Nat → Prop) (s' : Ls) (w' : World) : Prop :=
  ∃ T' k, LinkB w' base p pw pg T' (l.drop k) s' D ∧ OnlyE w w' (LD p pw pg T) ∧ (∀ b, T'.ownBlock = some b → T.ownBlock = some b)

/-- What Come answers. -/
def LCame (w : World) (base p pw pg : Nat) (T : Value) (l : List Pf) (D : Nat → Prop) (F : Fr) (ok : Bool) (s' : Ls) (e : Ending) (w' : World) : Prop :=
  ∃ y : Pf, e = .returned (.tuple #[.agg y.cs, .bool ok]) ∧ y.F = F ∧ y.Own w' w.heap.size ∧ LkDn w base p pw pg T l D s' w'

theorem zero_own (w : World) (base : Nat) : (atP 0).Own w base := ⟨World.ownsRow_nil _ _ _ _, World.ownsRow_nil _ _ _ _, World.ownsRow_nil _ _ _ _, World.ownsRow_nil _ _ _ _, World.ownsRow_nil _ _ _ _⟩

section
variable {w w' : World} {base p pw pg : Nat} {T : Value} {l : List Pf} {s s' : Ls} {D : Nat → Prop}
theorem LkIn.dn (h : LkIn w base p pw pg T l D s' w') : LkDn w base p pw pg T l D s' w' := ⟨T, 0, h.1, h.2, fun _ => id⟩
theorem LkDn.to (h : LkDn w base p pw pg T l D s' w') : LkTo w base p pw pg T D s' w' := by
  obtain ⟨T', k, h1, h2, h3⟩ := h
  exact ⟨T', l.drop k, D, h1, h2, fun _ => .inl, fun _ => id, fun b hb => .inl (h3 b hb)⟩
theorem LkDn.from {w1 : World} (h : LkDn w1 base p pw pg T l D s' w') (hb : RowKit.Below w.heap.size w w1) : LkDn w base p pw pg T l D s' w' := by
  obtain ⟨T', k, h1, h2, h3⟩ := h
  exact ⟨T', k, h1, (OnlyE.of_below hb).trans h2, h3⟩
theorem LkDn.behind {w3 : World} (h : LinkB w base p pw pg T l s D) (hd : LkDn w base p pw pg T l D s' w3) (hb : RowKit.Below w.heap.size w3 w') : LkDn w base p pw pg T l D s' w' := by
  obtain ⟨T', k, hL, hO, ht⟩ := hd
  have ho := hO.then hb
  refine ⟨T', k, ?_, ho, ht⟩
  exact
  { box := (hb.block p h.plt).trans hL.box
    win :=
    { box := (hb.block pw h.win.plt).trans hL.win.box
      row := own_only hL.win.row (OnlyE.ofBelow hb) fun b hb' hd => by have := h.win.wlt (.inr (ht b hb')); omega
      frs := fun x hx => (h.win.frs x (List.mem_of_mem_drop hx)).kept (ho.mono h.ld)
      oks := hL.win.oks, seqs := hL.win.seqs, dw := hL.win.dw
      din := fun b hb' => ⟨(h.win.din b hb').1, Nat.lt_of_lt_of_le (h.win.din b hb').2 ho.size⟩
      fit := hL.win.fit, fit2 := hL.win.fit2, wid1 := hL.win.wid1, wid2 := hL.win.wid2, low := hL.win.low }
    gate := (hb.block pg h.gate.lt).trans hL.gate
    fs := hL.fs, dp := h.dp, dg := h.dg, me8 := hL.me8, peer8 := hL.peer8, sent1 := hL.sent1, tick1 := hL.tick1, asked1 := hL.asked1, again1 := hL.again1, again2 := hL.again2 }

/-- Frames of the window are acknowledged. -/
theorem LinkB.ackedB (h : LinkB w base p pw pg T l s D) {T' : Value} {k : Nat} (hW : WinAt w' base pw T' s.width s.last (l.drop k) D) (ho : OnlyE w w' (WD pw T)) : LinkB w' base p pw pg T' (l.drop k) { s with fs := s.fs.drop k } D :=
  { box := (ho.same p h.plt h.pW).trans h.box
    win := hW
    gate := h.gate.kept ho h.gW
    fs := by rw [List.map_drop, h.fs]
    dp := h.dp, dg := h.dg, me8 := h.me8, peer8 := h.peer8, sent1 := h.sent1, tick1 := h.tick1, asked1 := h.asked1, again1 := h.again1, again2 := h.again2 }

/-- Two cells are as they are. -/
def TwoL (a : Addr) (u : Value) (b : Addr) (v : Value) (V : World) : Prop := V.cell? a = some u ∧ V.cell? b = some v
theorem TwoL.only {V V' : World} {X : Nat → Prop} {a b : Addr} {u v : Value} (h : TwoL a u b v V) (ho : OnlyE V V' X) (ha : ¬ X a.block) (hb : ¬ X b.block) (la : a.block < V.heap.size) (lb : b.block < V.heap.size) : TwoL a u b v V' :=
  ⟨(World.cell?_of_block (ho.same _ la ha)).trans h.1, (World.cell?_of_block (ho.same _ lb hb)).trans h.2⟩
/-- The boxes of a call: that of the frame, that of the answer. -/
structure CbS (w : World) (cs : Array Value) (W : World) : Prop where
  box : W.heap[w.heap.size]? = some (.cells cs 44 (0, 0))
  res : W.heap[w.heap.size + 1]? = some (.cells zeroF 44 (0, 0))
theorem CpS.cb {W : World} {cs : Array Value} (h : CpS w cs W) : CbS w cs W := ⟨h.box, h.res⟩
theorem CbS.lt {W : World} {cs : Array Value} (h : CbS w cs W) : w.heap.size + 2 ≤ W.heap.size := (Array.getElem?_eq_some_iff.1 h.res).1
theorem CpS.blt {W : World} {cs : Array Value} (h : CpS w cs W) : w.heap.size < W.heap.size := by have := h.lt; omega
theorem CbS.only {W V : World} {cs : Array Value} {X : Nat → Prop} (h : CbS w cs W) (ho : OnlyE W V X) (hX : ∀ k, X k → k < w.heap.size) : CbS w cs V := by
  have h2 := h.lt
  exact ⟨(ho.same _ (by omega) fun e => by have := hX _ e; omega).trans h.box, (ho.same _ (by omega) fun e => by have := hX _ e; omega).trans h.res⟩
theorem CbS.cell {W : World} {cs : Array Value} (h : CbS w cs W) (i : Nat) : W.cell? ⟨w.heap.size, i, none⟩ = cs[i]? := cell_of_row W _ i _ _ _ h.box
theorem cmRow {W : World} {cs : Array Value} (h : CbS w cs W) (cs' : Array Value) : (W.setRow (w.heap.size + 1) cs').heap[w.heap.size + 1]? = some (.cells cs' 44 (0, 0)) := setRow_heap _ _ _ _ _ _ h.res
theorem cmBelow {W : World} (cs' : Array Value) : RowKit.Below w.heap.size W (W.setRow (w.heap.size + 1) cs') := Below.setRow (n := w.heap.size) ⟨rfl, rfl, rfl, Nat.le_refl _, fun _ _ => rfl⟩ (by omega) _
end

section
variable {w : World} {base p pw pg : Nat} {T : Value} {l : List Pf} {s : Ls} {D : Nat → Prop}

set_option maxHeartbeats 1600000 in
theorem lcome_src (h : LinkB w base p pw pg T l s D) (F : Fr) (cs : Array Value) (hF : FrL w F cs) (h1 : F.src ≠ s.peer) :
    Calls Try.prog 16 #[.pointer (some ⟨p, 0, none⟩), .agg cs] w (LCame w base p pw pg T l D (atF 0) false (s)) := by
  have HF := Lib.hid hF
  have x0 := hF.k0
  have x1 := hF.k1
  have x2 := hF.k2
  have x5 := hF.k5
  have h16 := hF.size16
  have H := Lib.hid h
  have hd0 : ((some ⟨p, 0, none⟩ : Option Addr) == none) = false := rfl
  have d1 : decide ((F.src : Int) = (s.peer : Int)) = false := by simp; omega
  have d2 : ((F.src : Int) == (s.peer : Int)) = false := by simp; omega
  have d3 : ((F.src : Int) != (s.peer : Int)) = true := by simp; omega
  clear h hF
  go_enter Try.func16, Try.ntmps16
  go_upto_region 1 with fail
  generalize hW0 : World.alloc (World.alloc w _) _ = W0
  have H0 : Hid (CpS w cs W0) := CpS.start hW0
  clear hW0
  have HL0 := Lib.hid (H.out.on H0.out.below)
  have c2 := HL0.out.c2
  have c3 := HL0.out.c3
  have b0 := (H0.out.cell 0).trans x0
  have b1 := (H0.out.cell 1).trans x1
  have b2 := (H0.out.cell 2).trans x2
  have b5 := (H0.out.cell 5).trans x5
  go_quiet (fail)
  have hbq : RowKit.Below W0.heap.size W0 (W0.drewN nq) := ⟨rfl, rfl, rfl, Nat.le_refl _, fun _ _ => rfl⟩
  have H1 := Lib.hid (H0.out.on hbq)
  have HL1 := Lib.hid (HL0.out.on hbq)
  generalize W0.drewN nq = W at H1 HL1 ⊢
  clear hbq c2 c3 b0 b1 b2 b5 H0 HL0
  have b0 := (H1.out.cell 0).trans x0
  have b5 := (H1.out.cell 5).trans x5
  clear x0 x1 x2 x5
  clear b0 b5
  go_wp2_with (first | (refine store_frame (cs := (atP 0).cs) (.tmp 4) (.tmp 28) rfl rfl H1.out.cb.res rfl (Pf.size (atP 0)) (Pf.one (atP 0)) ?_) | fail)
  refine bodyPost_ret (results_cell_tmp rfl _ _ (w.heap.size + 1) _ rfl (load_rowF (cmRow H1.out.cb _) (Pf.size (atP 0)))) rfl ?_
  exact ⟨atP 0, rfl, rfl, zero_own _ _, LkDn.behind H.out (LkIn.refl H.out H1.out.below).dn (cmBelow _)⟩

set_option maxHeartbeats 1600000 in
theorem lcome_dst (h : LinkB w base p pw pg T l s D) (F : Fr) (cs : Array Value) (hF : FrL w F cs) (h1 : F.src = s.peer) (h2 : F.dst ≠ s.me) :
    Calls Try.prog 16 #[.pointer (some ⟨p, 0, none⟩), .agg cs] w (LCame w base p pw pg T l D (atF 0) false (s)) := by
  have HF := Lib.hid hF
  have x0 := hF.k0
  have x1 := hF.k1
  have x2 := hF.k2
  have x5 := hF.k5
  have h16 := hF.size16
  have H := Lib.hid h
  have hd0 : ((some ⟨p, 0, none⟩ : Option Addr) == none) = false := rfl
  have d1 : decide ((F.dst : Int) = (s.me : Int)) = false := by simp; omega
  have d2 : ((F.dst : Int) == (s.me : Int)) = false := by simp; omega
  have d3 : ((F.dst : Int) != (s.me : Int)) = true := by simp; omega
  rw [h1] at x1
  clear h hF
  go_enter Try.func16, Try.ntmps16
  go_upto_region 1 with fail
  generalize hW0 : World.alloc (World.alloc w _) _ = W0
  have H0 : Hid (CpS w cs W0) := CpS.start hW0
  clear hW0
  have HL0 := Lib.hid (H.out.on H0.out.below)
  have c2 := HL0.out.c2
  have c3 := HL0.out.c3
  have b0 := (H0.out.cell 0).trans x0
  have b1 := (H0.out.cell 1).trans x1
  have b2 := (H0.out.cell 2).trans x2
  have b5 := (H0.out.cell 5).trans x5
  go_quiet (fail)
  have hbq : RowKit.Below W0.heap.size W0 (W0.drewN nq) := ⟨rfl, rfl, rfl, Nat.le_refl _, fun _ _ => rfl⟩
  have H1 := Lib.hid (H0.out.on hbq)
  have HL1 := Lib.hid (HL0.out.on hbq)
  generalize W0.drewN nq = W at H1 HL1 ⊢
  clear hbq c2 c3 b0 b1 b2 b5 H0 HL0
  have b0 := (H1.out.cell 0).trans x0
  have b5 := (H1.out.cell 5).trans x5
  clear x0 x1 x2 x5
  clear b0 b5
  go_wp2_with (first | (refine store_frame (cs := (atP 0).cs) (.tmp 4) (.tmp 28) rfl rfl H1.out.cb.res rfl (Pf.size (atP 0)) (Pf.one (atP 0)) ?_) | fail)
  refine bodyPost_ret (results_cell_tmp rfl _ _ (w.heap.size + 1) _ rfl (load_rowF (cmRow H1.out.cb _) (Pf.size (atP 0)))) rfl ?_
  exact ⟨atP 0, rfl, rfl, zero_own _ _, LkDn.behind H.out (LkIn.refl H.out H1.out.below).dn (cmBelow _)⟩

set_option maxHeartbeats 1600000 in
theorem lcome_kind (h : LinkB w base p pw pg T l s D) (F : Fr) (cs : Array Value) (hF : FrL w F cs) (h1 : F.src = s.peer) (h2 : F.dst = s.me) (h3 : F.kind ≠ 2) (h4 : F.kind ≠ 1) :
    Calls Try.prog 16 #[.pointer (some ⟨p, 0, none⟩), .agg cs] w (LCame w base p pw pg T l D (atF 0) false (s)) := by
  have HF := Lib.hid hF
  have x0 := hF.k0
  have x1 := hF.k1
  have x2 := hF.k2
  have x5 := hF.k5
  have h16 := hF.size16
  have H := Lib.hid h
  have hd0 : ((some ⟨p, 0, none⟩ : Option Addr) == none) = false := rfl
  have d1 : decide ((F.kind : Int) = 2) = false := by simp; omega
  have d2 : ((F.kind : Int) == 2) = false := by simp; omega
  have d3 : decide ((F.kind : Int) = 1) = false := by simp; omega
  have d4 : ((F.kind : Int) == 1) = false := by simp; omega
  rw [h1] at x1
  rw [h2] at x2
  clear h hF
  go_enter Try.func16, Try.ntmps16
  go_upto_region 1 with fail
  generalize hW0 : World.alloc (World.alloc w _) _ = W0
  have H0 : Hid (CpS w cs W0) := CpS.start hW0
  clear hW0
  have HL0 := Lib.hid (H.out.on H0.out.below)
  have c2 := HL0.out.c2
  have c3 := HL0.out.c3
  have b0 := (H0.out.cell 0).trans x0
  have b1 := (H0.out.cell 1).trans x1
  have b2 := (H0.out.cell 2).trans x2
  have b5 := (H0.out.cell 5).trans x5
  go_quiet (fail)
  have hbq : RowKit.Below W0.heap.size W0 (W0.drewN nq) := ⟨rfl, rfl, rfl, Nat.le_refl _, fun _ _ => rfl⟩
  have H1 := Lib.hid (H0.out.on hbq)
  have HL1 := Lib.hid (HL0.out.on hbq)
  generalize W0.drewN nq = W at H1 HL1 ⊢
  clear hbq c2 c3 b0 b1 b2 b5 H0 HL0
  have b0 := (H1.out.cell 0).trans x0
  have b5 := (H1.out.cell 5).trans x5
  clear x0 x1 x2 x5
  go_wp2_with (first | (refine store_frame (cs := (atP 0).cs) (.tmp 4) (.tmp 62) rfl rfl H1.out.cb.res rfl (Pf.size (atP 0)) (Pf.one (atP 0)) ?_) | fail)
  refine bodyPost_ret (results_cell_tmp rfl _ _ (w.heap.size + 1) _ rfl (load_rowF (cmRow H1.out.cb _) (Pf.size (atP 0)))) rfl ?_
  exact ⟨atP 0, rfl, rfl, zero_own _ _, LkDn.behind H.out (LkIn.refl H.out H1.out.below).dn (cmBelow _)⟩

set_option maxHeartbeats 1600000 in
theorem lcome_ack0 (h : LinkB w base p pw pg T l s D) (F : Fr) (cs : Array Value) (hF : FrL w F cs) (h1 : F.src = s.peer) (h2 : F.dst = s.me) (h3 : F.kind = 2) (k : Nat) (hk : ackN s.last s.fs.length F.seq = k) (h4 : k = 0) :
    Calls Try.prog 16 #[.pointer (some ⟨p, 0, none⟩), .agg cs] w (LCame w base p pw pg T l D (atF 0) false ({ s with fs := s.fs.drop k })) := by
  have HF := Lib.hid hF
  have x0 := hF.k0
  have x1 := hF.k1
  have x2 := hF.k2
  have x5 := hF.k5
  have h16 := hF.size16
  have H := Lib.hid h
  have hd0 : ((some ⟨p, 0, none⟩ : Option Addr) == none) = false := rfl
  rw [h1] at x1
  rw [h2] at x2
  rw [h3] at x0
  have d1 : decide (0 < k) = false := by simp; omega
  have d2 : decide ((0 : Int) < (k : Int)) = false := by simp; omega
  have d3 : decide ((k : Int) > 0) = false := by simp; omega
  clear h hF
  go_enter Try.func16, Try.ntmps16
  go_upto_region 1 with fail
  generalize hW0 : World.alloc (World.alloc w _) _ = W0
  have H0 : Hid (CpS w cs W0) := CpS.start hW0
  clear hW0
  have HL0 := Lib.hid (H.out.on H0.out.below)
  have c2 := HL0.out.c2
  have c3 := HL0.out.c3
  have b0 := (H0.out.cell 0).trans x0
  have b1 := (H0.out.cell 1).trans x1
  have b2 := (H0.out.cell 2).trans x2
  have b5 := (H0.out.cell 5).trans x5
  go_quiet (fail)
  have hbq : RowKit.Below W0.heap.size W0 (W0.drewN nq) := ⟨rfl, rfl, rfl, Nat.le_refl _, fun _ _ => rfl⟩
  have H1 := Lib.hid (H0.out.on hbq)
  have HL1 := Lib.hid (HL0.out.on hbq)
  generalize W0.drewN nq = W at H1 HL1 ⊢
  clear hbq c2 c3 b0 b1 b2 b5 H0 HL0
  have b0 := (H1.out.cell 0).trans x0
  have b5 := (H1.out.cell 5).trans x5
  clear x0 x1 x2 x5
  have c0 := HL1.out.c0
  go_upto_region 5 with fail
  clear b0
  have hHeld : (TwoL ⟨p, 0, none⟩ (.pointer (some ⟨pw, 0, none⟩)) ⟨w.heap.size, 5, none⟩ (.int .u64 (F.seq : Int))) W.drew := ⟨c0, b5⟩
  clear c0 b5
  refine wp_region_held_drew (S := (TwoL ⟨p, 0, none⟩ (.pointer (some ⟨pw, 0, none⟩)) ⟨w.heap.size, 5, none⟩ (.int .u64 (F.seq : Int)))) (by kernel_rfl) hHeld (fun hHeld => ?_)
  have H2 := Lib.hid (H1.out.on (drewB W))
  have HL2 := Lib.hid (HL1.out.on (drewB W))
  generalize World.drew W = X0 at hHeld H2 HL2 ⊢
  clear H1 HL1
  refine wpAnyH_takeAt (i := 0) (d := 34) (v := ?_) rfl rfl (by kernel_rfl) (by kernel_rfl) (by kernel_rfl) (fun _ _ _ h => h) (Or.inl ⟨by rfl, ?_⟩) hHeld ?_
  rotate_left
  · (intro _ hSw; go_simp; try with_reducible rfl)
  simp only [List.setIfInBounds_toArray, List.set_cons_zero, List.set_cons_succ]
  refine wpAnyH_takeAt (i := 1) (d := 35) (v := ?_) rfl rfl (by kernel_rfl) (by kernel_rfl) (by kernel_rfl) (fun _ _ _ h => h) (Or.inl ⟨by rfl, ?_⟩) hHeld ?_
  rotate_left
  · (intro _ hSw; go_simp; try with_reducible rfl)
  simp only [List.setIfInBounds_toArray, List.set_cons_zero, List.set_cons_succ]
  refine wpAnyH_takeAt (i := 2) (d := 36) (v := ?_) rfl rfl (by kernel_rfl) (by kernel_rfl) (by kernel_rfl) (fun _ _ _ h => h) (Or.inl ⟨by rfl, ?_⟩) hHeld ?_
  rotate_left
  · (intro _ hSw; go_simp; try with_reducible rfl)
  simp only [List.setIfInBounds_toArray, List.set_cons_zero, List.set_cons_succ]
  refine wpAnyH_takeAt (i := 3) (d := 37) (v := ?_) rfl rfl (by kernel_rfl) (by kernel_rfl) (by kernel_rfl) (fun _ _ _ h => h) (Or.inl ⟨by rfl, ?_⟩) hHeld ?_
  rotate_left
  · (intro _ hSw; have y1 := hSw.1; go_simp; try with_reducible rfl)
  simp only [List.setIfInBounds_toArray, List.set_cons_zero, List.set_cons_succ]
  refine wpAnyH_takeAt (i := 4) (d := 38) (v := ?_) rfl rfl (by kernel_rfl) (by kernel_rfl) (by kernel_rfl) (fun _ _ _ h => h) (Or.inl ⟨by rfl, ?_⟩) hHeld ?_
  rotate_left
  · (intro _ hSw; go_simp; try with_reducible rfl)
  simp only [List.setIfInBounds_toArray, List.set_cons_zero, List.set_cons_succ]
  refine wpAnyH_takeAt (i := 5) (d := 39) (v := ?_) rfl rfl (by kernel_rfl) (by kernel_rfl) (by kernel_rfl) (fun _ _ _ h => h) (Or.inl ⟨by rfl, ?_⟩) hHeld ?_
  rotate_left
  · (intro _ hSw; have y1 := hSw.2; go_simp; try with_reducible rfl)
  simp only [List.setIfInBounds_toArray, List.set_cons_zero, List.set_cons_succ]
  refine wpAnyH_ready (rs := [6]) (by kernel_rfl) (by simp) ?_
  refine AllReadyH.cons rfl (fun K hK => ?_) AllReadyH.nil
  go_simp
  refine (acked_any HL2.out.win F.seq).mono ?_
  rw [HL2.out.len, hk]
  rintro e w5 ⟨rfl, T', hW5, ho5, ht5⟩
  have hS5 : (TwoL ⟨p, 0, none⟩ (.pointer (some ⟨pw, 0, none⟩)) ⟨w.heap.size, 5, none⟩ (.int .u64 (F.seq : Int))) w5 := TwoL.only hHeld ho5 HL2.out.pW (fun e => Nat.lt_irrefl w.heap.size (H.out.win.wlt e)) HL2.out.plt H2.out.blt
  have HL5 := Lib.hid (HL2.out.ackedB hW5 ho5)
  have HO5 : Hid (OnlyE w w5 (LD p pw pg T)) := (OnlyE.of_below H2.out.below).trans (ho5.mono fun k hk => .inr (.inr hk))
  have HT5 := Lib.hid ht5
  have H5 : Hid (CbS w cs w5) := CbS.only H2.out.cb ho5 (fun k hk => H.out.win.wlt hk)
  refine hK.out _ _ hS5 (fun _ => ?_)
  clear hK K hHeld hW5 ho5 ht5 H2 HL2
  have hHeld := hS5
  clear hS5
  refine wpAnyH_takeAt (i := 7) (d := 41) (v := ?_) rfl rfl (by kernel_rfl) (by kernel_rfl) (by kernel_rfl) (fun _ _ _ h => h) (Or.inl ⟨by rfl, ?_⟩) hHeld ?_
  rotate_left
  · (intro _ hSw; go_simp; try with_reducible rfl)
  simp only [List.setIfInBounds_toArray, List.set_cons_zero, List.set_cons_succ]
  refine wpAnyH_done (by kernel_rfl) ?_ _
  clear hHeld
  go_wp2_with (first | (refine store_frame (cs := (atP 0).cs) (.tmp 4) (.tmp 62) rfl rfl H5.out.res rfl (Pf.size (atP 0)) (Pf.one (atP 0)) ?_) | fail)
  refine bodyPost_ret (results_cell_tmp rfl _ _ (w.heap.size + 1) _ rfl (load_rowF (cmRow H5.out _) (Pf.size (atP 0)))) rfl ?_
  exact ⟨atP 0, rfl, rfl, zero_own _ _, LkDn.behind H.out ⟨T', k, HL5.out, HO5.out, HT5.out⟩ (cmBelow _)⟩

set_option maxHeartbeats 1600000 in
theorem lcome_ack1 (h : LinkB w base p pw pg T l s D) (F : Fr) (cs : Array Value) (hF : FrL w F cs) (h1 : F.src = s.peer) (h2 : F.dst = s.me) (h3 : F.kind = 2) (k : Nat) (hk : ackN s.last s.fs.length F.seq = k) (h4 : 0 < k) :
    Calls Try.prog 16 #[.pointer (some ⟨p, 0, none⟩), .agg cs] w (LCame w base p pw pg T l D (atF 0) false ({ s with fs := s.fs.drop k, tick := s.asked })) := by
  have HF := Lib.hid hF
  have x0 := hF.k0
  have x1 := hF.k1
  have x2 := hF.k2
  have x5 := hF.k5
  have h16 := hF.size16
  have H := Lib.hid h
  have hd0 : ((some ⟨p, 0, none⟩ : Option Addr) == none) = false := rfl
  rw [h1] at x1
  rw [h2] at x2
  rw [h3] at x0
  have d1 : decide (0 < k) = true := by simp; omega
  have d2 : decide ((0 : Int) < (k : Int)) = true := by simp; omega
  clear h hF
  go_enter Try.func16, Try.ntmps16
  go_upto_region 1 with fail
  generalize hW0 : World.alloc (World.alloc w _) _ = W0
  have H0 : Hid (CpS w cs W0) := CpS.start hW0
  clear hW0
  have HL0 := Lib.hid (H.out.on H0.out.below)
  have c2 := HL0.out.c2
  have c3 := HL0.out.c3
  have b0 := (H0.out.cell 0).trans x0
  have b1 := (H0.out.cell 1).trans x1
  have b2 := (H0.out.cell 2).trans x2
  have b5 := (H0.out.cell 5).trans x5
  go_quiet (fail)
  have hbq : RowKit.Below W0.heap.size W0 (W0.drewN nq) := ⟨rfl, rfl, rfl, Nat.le_refl _, fun _ _ => rfl⟩
  have H1 := Lib.hid (H0.out.on hbq)
  have HL1 := Lib.hid (HL0.out.on hbq)
  generalize W0.drewN nq = W at H1 HL1 ⊢
  clear hbq c2 c3 b0 b1 b2 b5 H0 HL0
  have b0 := (H1.out.cell 0).trans x0
  have b5 := (H1.out.cell 5).trans x5
  clear x0 x1 x2 x5
  have c0 := HL1.out.c0
  go_upto_region 5 with fail
  clear b0
  have hHeld : (TwoL ⟨p, 0, none⟩ (.pointer (some ⟨pw, 0, none⟩)) ⟨w.heap.size, 5, none⟩ (.int .u64 (F.seq : Int))) W.drew := ⟨c0, b5⟩
  clear c0 b5
  refine wp_region_held_drew (S := (TwoL ⟨p, 0, none⟩ (.pointer (some ⟨pw, 0, none⟩)) ⟨w.heap.size, 5, none⟩ (.int .u64 (F.seq : Int)))) (by kernel_rfl) hHeld (fun hHeld => ?_)
  have H2 := Lib.hid (H1.out.on (drewB W))
  have HL2 := Lib.hid (HL1.out.on (drewB W))
  generalize World.drew W = X0 at hHeld H2 HL2 ⊢
  clear H1 HL1
  refine wpAnyH_takeAt (i := 0) (d := 34) (v := ?_) rfl rfl (by kernel_rfl) (by kernel_rfl) (by kernel_rfl) (fun _ _ _ h => h) (Or.inl ⟨by rfl, ?_⟩) hHeld ?_
  rotate_left
  · (intro _ hSw; go_simp; try with_reducible rfl)
  simp only [List.setIfInBounds_toArray, List.set_cons_zero, List.set_cons_succ]
  refine wpAnyH_takeAt (i := 1) (d := 35) (v := ?_) rfl rfl (by kernel_rfl) (by kernel_rfl) (by kernel_rfl) (fun _ _ _ h => h) (Or.inl ⟨by rfl, ?_⟩) hHeld ?_
  rotate_left
  · (intro _ hSw; go_simp; try with_reducible rfl)
  simp only [List.setIfInBounds_toArray, List.set_cons_zero, List.set_cons_succ]
  refine wpAnyH_takeAt (i := 2) (d := 36) (v := ?_) rfl rfl (by kernel_rfl) (by kernel_rfl) (by kernel_rfl) (fun _ _ _ h => h) (Or.inl ⟨by rfl, ?_⟩) hHeld ?_
  rotate_left
  · (intro _ hSw; go_simp; try with_reducible rfl)
  simp only [List.setIfInBounds_toArray, List.set_cons_zero, List.set_cons_succ]
  refine wpAnyH_takeAt (i := 3) (d := 37) (v := ?_) rfl rfl (by kernel_rfl) (by kernel_rfl) (by kernel_rfl) (fun _ _ _ h => h) (Or.inl ⟨by rfl, ?_⟩) hHeld ?_
  rotate_left
  · (intro _ hSw; have y1 := hSw.1; go_simp; try with_reducible rfl)
  simp only [List.setIfInBounds_toArray, List.set_cons_zero, List.set_cons_succ]
  refine wpAnyH_takeAt (i := 4) (d := 38) (v := ?_) rfl rfl (by kernel_rfl) (by kernel_rfl) (by kernel_rfl) (fun _ _ _ h => h) (Or.inl ⟨by rfl, ?_⟩) hHeld ?_
  rotate_left
  · (intro _ hSw; go_simp; try with_reducible rfl)
  simp only [List.setIfInBounds_toArray, List.set_cons_zero, List.set_cons_succ]
  refine wpAnyH_takeAt (i := 5) (d := 39) (v := ?_) rfl rfl (by kernel_rfl) (by kernel_rfl) (by kernel_rfl) (fun _ _ _ h => h) (Or.inl ⟨by rfl, ?_⟩) hHeld ?_
  rotate_left
  · (intro _ hSw; have y1 := hSw.2; go_simp; try with_reducible rfl)
  simp only [List.setIfInBounds_toArray, List.set_cons_zero, List.set_cons_succ]
  refine wpAnyH_ready (rs := [6]) (by kernel_rfl) (by simp) ?_
  refine AllReadyH.cons rfl (fun K hK => ?_) AllReadyH.nil
  go_simp
  refine (acked_any HL2.out.win F.seq).mono ?_
  rw [HL2.out.len, hk]
  rintro e w5 ⟨rfl, T', hW5, ho5, ht5⟩
  have hS5 : (TwoL ⟨p, 0, none⟩ (.pointer (some ⟨pw, 0, none⟩)) ⟨w.heap.size, 5, none⟩ (.int .u64 (F.seq : Int))) w5 := TwoL.only hHeld ho5 HL2.out.pW (fun e => Nat.lt_irrefl w.heap.size (H.out.win.wlt e)) HL2.out.plt H2.out.blt
  have HL5 := Lib.hid (HL2.out.ackedB hW5 ho5)
  have HO5 : Hid (OnlyE w w5 (LD p pw pg T)) := (OnlyE.of_below H2.out.below).trans (ho5.mono fun k hk => .inr (.inr hk))
  have HT5 := Lib.hid ht5
  have H5 : Hid (CbS w cs w5) := CbS.only H2.out.cb ho5 (fun k hk => H.out.win.wlt hk)
  refine hK.out _ _ hS5 (fun _ => ?_)
  clear hK K hHeld hW5 ho5 ht5 H2 HL2
  have hHeld := hS5
  clear hS5
  refine wpAnyH_takeAt (i := 7) (d := 41) (v := ?_) rfl rfl (by kernel_rfl) (by kernel_rfl) (by kernel_rfl) (fun _ _ _ h => h) (Or.inl ⟨by rfl, ?_⟩) hHeld ?_
  rotate_left
  · (intro _ hSw; go_simp; try with_reducible rfl)
  simp only [List.setIfInBounds_toArray, List.set_cons_zero, List.set_cons_succ]
  refine wpAnyH_done (by kernel_rfl) ?_ _
  clear hHeld
  have c6 := HL5.out.c6
  have c5 := HL5.out.c5
  have f5 := HL5.out.fr 5
  have b0 := H5.out.cell 0
  rw [HF.out.k0, h3] at b0
  have HB0 := Lib.hid b0
  clear b0
  have HL6 : Hid (LinkB (w5.setCell ⟨p, 5, none⟩ (.int .i64 (s.asked : Int))) base p pw pg T' (l.drop k) { s with fs := s.fs.drop k, tick := s.asked } D) := HL5.out.set 5 (.int .i64 (s.asked : Int)) { s with fs := s.fs.drop k, tick := s.asked } rfl rfl rfl rfl rfl rfl rfl HL5.out.sent1 HL5.out.asked1 HL5.out.asked1 rfl
  have HO6 : Hid (OnlyE w (w5.setCell ⟨p, 5, none⟩ (.int .i64 (s.asked : Int))) (LD p pw pg T)) := HO5.out.trans (onlyE_set (.inl rfl) 5 _)
  have H6 : Hid (CbS w cs (w5.setCell ⟨p, 5, none⟩ (.int .i64 (s.asked : Int)))) := CbS.only H5.out (onlyE_set (D := fun k => k = p) rfl 5 _) (fun k hk => by have := H.out.plt; omega)
  go_upto_region 10 with fail
  generalize hV : w5.setCell ⟨p, 5, none⟩ (.int .i64 (s.asked : Int)) = V at HL6 HO6 H6 ⊢
  clear hV c6 c5 f5
  go_wp2_with (first | (refine store_frame (cs := (atP 0).cs) (.tmp 4) (.tmp 62) rfl rfl H6.out.res rfl (Pf.size (atP 0)) (Pf.one (atP 0)) ?_) | fail)
  refine bodyPost_ret (results_cell_tmp rfl _ _ (w.heap.size + 1) _ rfl (load_rowF (cmRow H6.out _) (Pf.size (atP 0)))) rfl ?_
  exact ⟨atP 0, rfl, rfl, zero_own _ _, LkDn.behind H.out ⟨T', k, HL6.out, HO6.out, HT5.out⟩ (cmBelow _)⟩

set_option maxHeartbeats 1600000 in
theorem lcome_late (h : LinkB w base p pw pg T l s D) (F : Fr) (cs : Array Value) (hF : FrL w F cs) (h1 : F.src = s.peer) (h2 : F.dst = s.me) (h3 : F.kind = 1) (hg : s.g.sum < 1000000) (hok : F.Ok) (h4 : F.seq ≠ s.g.u + 1) :
    Calls Try.prog 16 #[.pointer (some ⟨p, 0, none⟩), .agg cs] w (LCame w base p pw pg T l D (atF 0) false ({ s with g := s.g.step F.seq })) := by
  have HF := Lib.hid hF
  have x0 := hF.k0
  have x1 := hF.k1
  have x2 := hF.k2
  have x5 := hF.k5
  have h16 := hF.size16
  have H := Lib.hid h
  have hd0 : ((some ⟨p, 0, none⟩ : Option Addr) == none) = false := rfl
  rw [h1] at x1
  rw [h2] at x2
  rw [h3] at x0
  have HSQ : Hid (F.seq < 18446744073709551616) := hok.seq
  have HSM := Lib.hid hg
  have HX5 : Hid (∀ {W : World}, CpS w cs W → W.cell? ⟨w.heap.size, 5, none⟩ = some (.int .u64 (F.seq : Int))) := fun {W} hC => (hC.cell 5).trans x5
  have hk1 : kindN s.g.u F.seq ≠ 1 := by rcases kindN_cases s.g.u F.seq with ⟨e, h⟩ | ⟨e, h⟩ | ⟨e, h⟩ <;> omega
  generalize hkd : kindN s.g.u F.seq = kd at hk1
  have HKD := Lib.hid hkd
  have d1 : decide ((kd : Int) = 1) = false := by simp; omega
  have d2 : ((kd : Int) == 1) = false := by simp; omega
  clear hkd hg hok h4
  clear h hF
  go_enter Try.func16, Try.ntmps16
  go_upto_region 1 with fail
  generalize hW0 : World.alloc (World.alloc w _) _ = W0
  have H0 : Hid (CpS w cs W0) := CpS.start hW0
  clear hW0
  have HL0 := Lib.hid (H.out.on H0.out.below)
  have c2 := HL0.out.c2
  have c3 := HL0.out.c3
  have b0 := (H0.out.cell 0).trans x0
  have b1 := (H0.out.cell 1).trans x1
  have b2 := (H0.out.cell 2).trans x2
  have b5 := (H0.out.cell 5).trans x5
  go_quiet (fail)
  have hbq : RowKit.Below W0.heap.size W0 (W0.drewN nq) := ⟨rfl, rfl, rfl, Nat.le_refl _, fun _ _ => rfl⟩
  have H1 := Lib.hid (H0.out.on hbq)
  have HL1 := Lib.hid (HL0.out.on hbq)
  generalize W0.drewN nq = W at H1 HL1 ⊢
  clear hbq c2 c3 b0 b1 b2 b5 H0 HL0
  have b0 := (H1.out.cell 0).trans x0
  have b5 := (H1.out.cell 5).trans x5
  clear x0 x1 x2 x5
  have c1 := HL1.out.c1
  go_upto_region 8 with fail
  clear b0
  have hHeld : (TwoL ⟨p, 1, none⟩ (.pointer (some ⟨pg, 0, none⟩)) ⟨w.heap.size, 5, none⟩ (.int .u64 (F.seq : Int))) W.drew := ⟨c1, b5⟩
  clear c1 b5
  refine wp_region_held_drew (S := (TwoL ⟨p, 1, none⟩ (.pointer (some ⟨pg, 0, none⟩)) ⟨w.heap.size, 5, none⟩ (.int .u64 (F.seq : Int)))) (by kernel_rfl) hHeld (fun hHeld => ?_)
  have H2 := Lib.hid (H1.out.on (drewB W))
  have HL2 := Lib.hid (HL1.out.on (drewB W))
  generalize World.drew W = X0 at hHeld H2 HL2 ⊢
  clear H1 HL1
  refine wpAnyH_takeAt (i := 0) (d := 51) (v := ?_) rfl rfl (by kernel_rfl) (by kernel_rfl) (by kernel_rfl) (fun _ _ _ h => h) (Or.inl ⟨by rfl, ?_⟩) hHeld ?_
  rotate_left
  · (intro _ hSw; go_simp; try with_reducible rfl)
  simp only [List.setIfInBounds_toArray, List.set_cons_zero, List.set_cons_succ]
  refine wpAnyH_takeAt (i := 1) (d := 52) (v := ?_) rfl rfl (by kernel_rfl) (by kernel_rfl) (by kernel_rfl) (fun _ _ _ h => h) (Or.inl ⟨by rfl, ?_⟩) hHeld ?_
  rotate_left
  · (intro _ hSw; go_simp; try with_reducible rfl)
  simp only [List.setIfInBounds_toArray, List.set_cons_zero, List.set_cons_succ]
  refine wpAnyH_takeAt (i := 2) (d := 53) (v := ?_) rfl rfl (by kernel_rfl) (by kernel_rfl) (by kernel_rfl) (fun _ _ _ h => h) (Or.inl ⟨by rfl, ?_⟩) hHeld ?_
  rotate_left
  · (intro _ hSw; go_simp; try with_reducible rfl)
  simp only [List.setIfInBounds_toArray, List.set_cons_zero, List.set_cons_succ]
  refine wpAnyH_takeAt (i := 3) (d := 54) (v := ?_) rfl rfl (by kernel_rfl) (by kernel_rfl) (by kernel_rfl) (fun _ _ _ h => h) (Or.inl ⟨by rfl, ?_⟩) hHeld ?_
  rotate_left
  · (intro _ hSw; have y1 := hSw.1; go_simp; try with_reducible rfl)
  simp only [List.setIfInBounds_toArray, List.set_cons_zero, List.set_cons_succ]
  refine wpAnyH_takeAt (i := 4) (d := 55) (v := ?_) rfl rfl (by kernel_rfl) (by kernel_rfl) (by kernel_rfl) (fun _ _ _ h => h) (Or.inl ⟨by rfl, ?_⟩) hHeld ?_
  rotate_left
  · (intro _ hSw; go_simp; try with_reducible rfl)
  simp only [List.setIfInBounds_toArray, List.set_cons_zero, List.set_cons_succ]
  refine wpAnyH_takeAt (i := 5) (d := 56) (v := ?_) rfl rfl (by kernel_rfl) (by kernel_rfl) (by kernel_rfl) (fun _ _ _ h => h) (Or.inl ⟨by rfl, ?_⟩) hHeld ?_
  rotate_left
  · (intro _ hSw; have y1 := hSw.2; go_simp; try with_reducible rfl)
  simp only [List.setIfInBounds_toArray, List.set_cons_zero, List.set_cons_succ]
  refine wpAnyH_ready (rs := [6]) (by kernel_rfl) (by simp) ?_
  refine AllReadyH.cons rfl (fun K hK => ?_) AllReadyH.nil
  go_simp
  have hbl : RowKit.Below X0.heap.size X0 (X0.alloc (.cells #[.int .u64 (F.seq : Int)] 27)) := (RowKit.Below.refl _ _).alloc (Nat.le_refl _) _
  have hS4 : (TwoL ⟨p, 1, none⟩ (.pointer (some ⟨pg, 0, none⟩)) ⟨w.heap.size, 5, none⟩ (.int .u64 (F.seq : Int))) (X0.alloc (.cells #[.int .u64 (F.seq : Int)] 27)) := TwoL.only (X := fun _ => False) hHeld (OnlyE.of_below hbl) id id HL2.out.plt H2.out.blt
  refine hK.out _ _ hS4 (fun _ => ?_)
  clear hK K hHeld hbl
  have hHeld := hS4
  clear hS4
  refine wpAnyH_ready (rs := [7]) (by kernel_rfl) (by simp) ?_
  refine AllReadyH.cons rfl (fun K hK => ?_) AllReadyH.nil
  go_simp
  refine (take_one HL2.out.gate F.seq _ rfl HSQ.out HSM.out).mono ?_
  rintro e w5 ⟨rfl, hG5, ho5⟩
  have hS5 : (TwoL ⟨p, 1, none⟩ (.pointer (some ⟨pg, 0, none⟩)) ⟨w.heap.size, 5, none⟩ (.int .u64 (F.seq : Int))) w5 := TwoL.only (V := X0) ⟨HL2.out.c1, HX5.out H2.out⟩ ho5 HL2.out.pgp.symm (fun e => by have := HL2.out.gate.lt; have := H.out.gate.lt; exact absurd (show w.heap.size = pg from e) (by omega)) HL2.out.plt H2.out.blt
  have HI5 := Lib.hid (HL2.out.gated hG5 ho5)
  have HO5 : Hid (OnlyE w w5 (LD p pw pg T)) := (OnlyE.of_below H2.out.below).trans HI5.out.2
  have H5 : Hid (CbS w cs w5) := CbS.only H2.out.cb ho5 (fun k hk => by have := H.out.gate.lt; omega)
  refine hK.out _ _ hS5 (fun _ => ?_)
  clear hK K hHeld hG5 ho5 H2 HL2
  have hHeld := hS5
  clear hS5
  rw [HKD.out]
  refine wpAnyH_takeAt (i := 8) (d := 59) (v := ?_) rfl rfl (by kernel_rfl) (by kernel_rfl) (by kernel_rfl) (fun _ _ _ h => h) (Or.inl ⟨by rfl, ?_⟩) hHeld ?_
  rotate_left
  · (intro _ hSw; go_simp; try with_reducible rfl)
  simp only [List.setIfInBounds_toArray, List.set_cons_zero, List.set_cons_succ]
  refine wpAnyH_done (by kernel_rfl) ?_ _
  clear hHeld
  go_wp2_with (first | (refine store_frame (cs := (atP 0).cs) (.tmp 4) (.tmp 62) rfl rfl H5.out.res rfl (Pf.size (atP 0)) (Pf.one (atP 0)) ?_) | fail)
  refine bodyPost_ret (results_cell_tmp rfl _ _ (w.heap.size + 1) _ rfl (load_rowF (cmRow H5.out _) (Pf.size (atP 0)))) rfl ?_
  exact ⟨atP 0, rfl, rfl, zero_own _ _, LkDn.behind H.out (LkIn.dn ⟨HI5.out.1, HO5.out⟩) (cmBelow _)⟩

set_option maxHeartbeats 1600000 in
theorem lcome_next (h : LinkB w base p pw pg T l s D) (F : Fr) (cs : Array Value) (hF : FrL w F cs) (h1 : F.src = s.peer) (h2 : F.dst = s.me) (h3 : F.kind = 1) (hg : s.g.sum < 1000000) (hok : F.Ok) (h4 : F.seq = s.g.u + 1) (x : Pf) (hx : x.F = F) (hcs : cs = x.cs) (hX : x.X w (LD p pw pg T)) :
    Calls Try.prog 16 #[.pointer (some ⟨p, 0, none⟩), .agg cs] w (LCame w base p pw pg T l D (F) true ({ s with g := s.g.step F.seq })) := by
  have HF := Lib.hid hF
  have x0 := hF.k0
  have x1 := hF.k1
  have x2 := hF.k2
  have x5 := hF.k5
  have h16 := hF.size16
  have H := Lib.hid h
  have hd0 : ((some ⟨p, 0, none⟩ : Option Addr) == none) = false := rfl
  rw [h1] at x1
  rw [h2] at x2
  rw [h3] at x0
  have HSQ : Hid (F.seq < 18446744073709551616) := hok.seq
  have HSM := Lib.hid hg
  have HX5 : Hid (∀ {W : World}, CpS w cs W → W.cell? ⟨w.heap.size, 5, none⟩ = some (.int .u64 (F.seq : Int))) := fun {W} hC => (hC.cell 5).trans x5
  have HKD : Hid (kindN s.g.u F.seq = 1) := kindN_one h4
  have HOK := Lib.hid hok
  have HXX := Lib.hid hX
  have HFX := Lib.hid hx
  have HCS := Lib.hid hcs
  clear hg hok hX hx hcs h4
  clear h hF
  go_enter Try.func16, Try.ntmps16
  go_upto_region 1 with fail
  generalize hW0 : World.alloc (World.alloc w _) _ = W0
  have H0 : Hid (CpS w cs W0) := CpS.start hW0
  clear hW0
  have HL0 := Lib.hid (H.out.on H0.out.below)
  have c2 := HL0.out.c2
  have c3 := HL0.out.c3
  have b0 := (H0.out.cell 0).trans x0
  have b1 := (H0.out.cell 1).trans x1
  have b2 := (H0.out.cell 2).trans x2
  have b5 := (H0.out.cell 5).trans x5
  go_quiet (fail)
  have hbq : RowKit.Below W0.heap.size W0 (W0.drewN nq) := ⟨rfl, rfl, rfl, Nat.le_refl _, fun _ _ => rfl⟩
  have H1 := Lib.hid (H0.out.on hbq)
  have HL1 := Lib.hid (HL0.out.on hbq)
  generalize W0.drewN nq = W at H1 HL1 ⊢
  clear hbq c2 c3 b0 b1 b2 b5 H0 HL0
  have b0 := (H1.out.cell 0).trans x0
  have b5 := (H1.out.cell 5).trans x5
  clear x0 x1 x2 x5
  have c1 := HL1.out.c1
  go_upto_region 8 with fail
  clear b0
  have hHeld : (TwoL ⟨p, 1, none⟩ (.pointer (some ⟨pg, 0, none⟩)) ⟨w.heap.size, 5, none⟩ (.int .u64 (F.seq : Int))) W.drew := ⟨c1, b5⟩
  clear c1 b5
  refine wp_region_held_drew (S := (TwoL ⟨p, 1, none⟩ (.pointer (some ⟨pg, 0, none⟩)) ⟨w.heap.size, 5, none⟩ (.int .u64 (F.seq : Int)))) (by kernel_rfl) hHeld (fun hHeld => ?_)
  have H2 := Lib.hid (H1.out.on (drewB W))
  have HL2 := Lib.hid (HL1.out.on (drewB W))
  generalize World.drew W = X0 at hHeld H2 HL2 ⊢
  clear H1 HL1
  refine wpAnyH_takeAt (i := 0) (d := 51) (v := ?_) rfl rfl (by kernel_rfl) (by kernel_rfl) (by kernel_rfl) (fun _ _ _ h => h) (Or.inl ⟨by rfl, ?_⟩) hHeld ?_
  rotate_left
  · (intro _ hSw; go_simp; try with_reducible rfl)
  simp only [List.setIfInBounds_toArray, List.set_cons_zero, List.set_cons_succ]
  refine wpAnyH_takeAt (i := 1) (d := 52) (v := ?_) rfl rfl (by kernel_rfl) (by kernel_rfl) (by kernel_rfl) (fun _ _ _ h => h) (Or.inl ⟨by rfl, ?_⟩) hHeld ?_
  rotate_left
  · (intro _ hSw; go_simp; try with_reducible rfl)
  simp only [List.setIfInBounds_toArray, List.set_cons_zero, List.set_cons_succ]
  refine wpAnyH_takeAt (i := 2) (d := 53) (v := ?_) rfl rfl (by kernel_rfl) (by kernel_rfl) (by kernel_rfl) (fun _ _ _ h => h) (Or.inl ⟨by rfl, ?_⟩) hHeld ?_
  rotate_left
  · (intro _ hSw; go_simp; try with_reducible rfl)
  simp only [List.setIfInBounds_toArray, List.set_cons_zero, List.set_cons_succ]
  refine wpAnyH_takeAt (i := 3) (d := 54) (v := ?_) rfl rfl (by kernel_rfl) (by kernel_rfl) (by kernel_rfl) (fun _ _ _ h => h) (Or.inl ⟨by rfl, ?_⟩) hHeld ?_
  rotate_left
  · (intro _ hSw; have y1 := hSw.1; go_simp; try with_reducible rfl)
  simp only [List.setIfInBounds_toArray, List.set_cons_zero, List.set_cons_succ]
  refine wpAnyH_takeAt (i := 4) (d := 55) (v := ?_) rfl rfl (by kernel_rfl) (by kernel_rfl) (by kernel_rfl) (fun _ _ _ h => h) (Or.inl ⟨by rfl, ?_⟩) hHeld ?_
  rotate_left
  · (intro _ hSw; go_simp; try with_reducible rfl)
  simp only [List.setIfInBounds_toArray, List.set_cons_zero, List.set_cons_succ]
  refine wpAnyH_takeAt (i := 5) (d := 56) (v := ?_) rfl rfl (by kernel_rfl) (by kernel_rfl) (by kernel_rfl) (fun _ _ _ h => h) (Or.inl ⟨by rfl, ?_⟩) hHeld ?_
  rotate_left
  · (intro _ hSw; have y1 := hSw.2; go_simp; try with_reducible rfl)
  simp only [List.setIfInBounds_toArray, List.set_cons_zero, List.set_cons_succ]
  refine wpAnyH_ready (rs := [6]) (by kernel_rfl) (by simp) ?_
  refine AllReadyH.cons rfl (fun K hK => ?_) AllReadyH.nil
  go_simp
  have hbl : RowKit.Below X0.heap.size X0 (X0.alloc (.cells #[.int .u64 (F.seq : Int)] 27)) := (RowKit.Below.refl _ _).alloc (Nat.le_refl _) _
  have hS4 : (TwoL ⟨p, 1, none⟩ (.pointer (some ⟨pg, 0, none⟩)) ⟨w.heap.size, 5, none⟩ (.int .u64 (F.seq : Int))) (X0.alloc (.cells #[.int .u64 (F.seq : Int)] 27)) := TwoL.only (X := fun _ => False) hHeld (OnlyE.of_below hbl) id id HL2.out.plt H2.out.blt
  refine hK.out _ _ hS4 (fun _ => ?_)
  clear hK K hHeld hbl
  have hHeld := hS4
  clear hS4
  refine wpAnyH_ready (rs := [7]) (by kernel_rfl) (by simp) ?_
  refine AllReadyH.cons rfl (fun K hK => ?_) AllReadyH.nil
  go_simp
  refine (take_one HL2.out.gate F.seq _ rfl HSQ.out HSM.out).mono ?_
  rintro e w5 ⟨rfl, hG5, ho5⟩
  have hS5 : (TwoL ⟨p, 1, none⟩ (.pointer (some ⟨pg, 0, none⟩)) ⟨w.heap.size, 5, none⟩ (.int .u64 (F.seq : Int))) w5 := TwoL.only (V := X0) ⟨HL2.out.c1, HX5.out H2.out⟩ ho5 HL2.out.pgp.symm (fun e => by have := HL2.out.gate.lt; have := H.out.gate.lt; exact absurd (show w.heap.size = pg from e) (by omega)) HL2.out.plt H2.out.blt
  have HI5 := Lib.hid (HL2.out.gated hG5 ho5)
  have HO5 : Hid (OnlyE w w5 (LD p pw pg T)) := (OnlyE.of_below H2.out.below).trans HI5.out.2
  have H5 : Hid (CbS w cs w5) := CbS.only H2.out.cb ho5 (fun k hk => by have := H.out.gate.lt; omega)
  refine hK.out _ _ hS5 (fun _ => ?_)
  clear hK K hHeld hG5 ho5 H2 HL2
  have hHeld := hS5
  clear hS5
  rw [HKD.out]
  refine wpAnyH_takeAt (i := 8) (d := 59) (v := ?_) rfl rfl (by kernel_rfl) (by kernel_rfl) (by kernel_rfl) (fun _ _ _ h => h) (Or.inl ⟨by rfl, ?_⟩) hHeld ?_
  rotate_left
  · (intro _ hSw; go_simp; try with_reducible rfl)
  simp only [List.setIfInBounds_toArray, List.set_cons_zero, List.set_cons_succ]
  refine wpAnyH_done (by kernel_rfl) ?_ _
  clear hHeld
  go_wp2_with (first | (refine load_frame (.tmp 3) rfl H5.out.box HF.out.size16 ?_) | fail)
  have hfr : FrL w5 F cs := by
    have h1 := (HXX.out.kept HO5.out).frl
    rw [← HCS.out, HFX.out] at h1
    exact h1
  refine (fresh_any F cs w5 hfr HOK.out).mono ?_
  rintro e w6 ⟨y, hy, rfl, ho6, hb6⟩
  have H6 : Hid (CbS w cs w6) := CbS.only (X := fun _ => False) H5.out (OnlyE.of_below hb6) (fun _ h => h.elim)
  have HB6 : Hid (RowKit.Below w.heap.size w5 w6) := hb6.mono (by have := H5.out.lt; omega)
  have HO6 : Hid (y.Own w6 (w.heap.size + 2)) := ho6.base H5.out.lt
  have HY := Lib.hid hy
  clear hfr hb6 ho6 hy
  go_wp2_with (first | (refine store_frame (.tmp 4) (.tmp 61) rfl rfl H6.out.res rfl (Pf.size y) (Pf.one y) ?_) | fail)
  refine bodyPost_ret (results_cell_tmp rfl _ _ (w.heap.size + 1) _ rfl (load_rowF (cmRow H6.out _) (Pf.size y))) rfl ?_
  refine ⟨y, rfl, HY.out, ?_, LkDn.behind H.out (LkIn.dn ⟨HI5.out.1, HO5.out⟩) (HB6.out.trans (cmBelow _))⟩
  exact (HO6.out.only (onlyE_setRow (D := fun b => b = w.heap.size + 1) rfl _) fun k hk => .inl (by omega)).base (by omega)

end

end Go.Proofs.Ytbkkpimhoeagdaa
