/- Stage 13: what is made of a chunk: it is put to a part that begins. -/
import Derived.Test.YthkongnjokmmfaaDoorGtJ
set_option maxRecDepth 20000
namespace Go.Proofs.YthkongnjokmmfaaDoor
open Go.RowKit Go.Sort

section
variable {w : World} {base gp : Nat} {T : Value} {L : List Pz} {g : Gm} {D : Nat → Prop}


set_option maxHeartbeats 6400000 in
theorem come_in_new (h : GtAt w base gp T L g D) (hwt : g.weight ≤ 100000) (F : Fr) (cs : Array Value) (hF : FrX w D F cs) (hw : F.Wf) (hr : (mayB F.id && rightZ F g.chunk g.most) = true) (hi : ¬ idxP g.l F.id < g.l.length) (hroom : ¬ (g.room < usedL g.l + F.size ∧ F.id ≠ g.wanted)) (hrf : F.size ≤ g.most ∧ F.of_ = cntN F.size g.chunk ∧ F.at_ < cntN F.size g.chunk ∧ F.data.length = lenZ (F.size : Int) (g.chunk : Int) (F.at_ : Int)) (g2 : Gm) (hg2 : g2 = { g with l := (evict g.room F.size g.l).1 ++ [newPart F.id F.size F.of_], counts := bump g.counts 3 (evict g.room F.size g.l).2 }) (hok2 : g2.Sok) :
    Calls Tryd.prog 29 #[.pointer (some ⟨gp, 0, none⟩), .agg cs] w (Came w base gp D (g2.comeAt (evict g.room F.size g.l).1.length F).1 (g2.comeAt (evict g.room F.size g.l).1.length F).2.1 (g2.comeAt (evict g.room F.size g.l).1.length F).2.2) := by
  have mixed := mixedOrders
  have hLw := h.lenw
  have hlt := h.lt
  have HG := Lib.hid h
  have hptr : ptrOf L F.id = .pointer none := by unfold ptrOf; rw [← h.gl, dif_neg (by rw [← h.len]; exact hi)]
  have HFI : Hid (∀ W, RowKit.Below w.heap.size w W → Calls Tryd.prog 34 #[.pointer (some ⟨gp, 0, none⟩), valId F.id] W fun e w' => e = .returned (.pointer none) ∧ RowKit.Below W.heap.size W w') := fun W hW => by
    have := find_any (h.on hW) (by omega) F.id
    rw [hptr] at this
    exact this
  have HRI : Hid (∀ W, RowKit.Below w.heap.size w W → Calls Tryd.prog 39 #[.pointer (some ⟨gp, 0, none⟩), .agg cs] W fun e w' => e = .returned (.bool true) ∧ RowKit.Below W.heap.size W w') := fun W hW => by
    have := gright_any (h.on hW) F cs (hF.toL.on hW) hw
    rw [hr] at this
    exact this
  clear hptr
  have hmost := h.ok.most
  have hrm := h.ok.room
  have hk1 := h.ok.chunk1
  have hk2 := h.ok.chunk2
  have HMR : Hid (∀ W, RowKit.Below w.heap.size w W → Calls Tryd.prog 41 #[.pointer (some ⟨gp, 0, none⟩), .agg cs] W fun e w' => ∃ T', e = .returned (.bool true) ∧ GtAt w' base gp T' (L.drop (evict g.room F.size g.l).2) { g with l := (evict g.room F.size g.l).1, counts := bump g.counts 3 (evict g.room F.size g.l).2 } D ∧ OnlyE W w' D ∧ T'.ownBlock = T.ownBlock) := fun W hW =>
    makeRoom_yes (h.on hW) (by omega) F cs (hF.toL.on hW) (by have := hrf.1; omega) hw.size hroom
  have HBG : Hid (∀ W T', GtAt W base gp T' (L.drop (evict g.room F.size g.l).2) { g with l := (evict g.room F.size g.l).1, counts := bump g.counts 3 (evict g.room F.size g.l).2 } D → OnlyE w W D → Calls Tryd.prog 42 #[.pointer (some ⟨gp, 0, none⟩), .agg cs] W fun e w' => ∃ (L1 : List Pz) (i1 : Nat) (hi1 : i1 < L1.length) (T1 : Value), e = .returned (.pointer (some ⟨L1[i1].p, 0, none⟩)) ∧ (L1[i1].x = newPart F.id F.size F.of_ ∧ i1 = (evict g.room F.size g.l).1.length ∧ L1.length ≤ 1000000) ∧ GtAt w' base gp T1 L1 g2 (fun k => D k ∨ (W.heap.size ≤ k ∧ k < w'.heap.size)) ∧ OnlyE W w' D) := fun W T' hW hO => by
    have hdl : (L.drop (evict g.room F.size g.l).2).length ≤ L.length := by rw [List.length_drop]; omega
    have hll := hW.len
    refine (begin_any hW (by omega) F cs (hF.kept hO).toL (by have := hrf.1; omega) (by have := cntN_small1 F.size g.chunk hk1; have := hrf.1; have := hrf.2.1; omega) (by rw [hg2] at hok2; exact hok2)).mono ?_
    rintro e w' ⟨z, T1, rfl, hx, h1, h2⟩
    have hlen : (L.drop (evict g.room F.size g.l).2).length < (L.drop (evict g.room F.size g.l).2 ++ [z]).length := by simp
    have hz : (L.drop (evict g.room F.size g.l).2 ++ [z])[(L.drop (evict g.room F.size g.l).2).length]'hlen = z := by simp
    refine ⟨_, _, hlen, T1, by rw [hz]; rfl, ⟨by rw [hz]; exact hx, hll.symm, by simp only [List.length_append, List.length_singleton]; omega⟩, ?_, h2⟩
    rw [hg2]
    exact h1
  have hfbw : ¬ D w.heap.size := fun e => by have := (h.din _ e).2; omega
  obtain ⟨r, hrr⟩ : ∃ r, g2.comeAt (evict g.room F.size g.l).1.length F = r := ⟨_, rfl⟩
  rw [hrr]
  have hck : g2.chunk = g.chunk := by rw [hg2]
  obtain ⟨o, ho⟩ : ∃ o, o = F.at_ * g2.chunk := ⟨_, rfl⟩
  obtain ⟨hole, hoz⟩ := place_facts (by have := hrf.1; omega) hk1 hk2 hrf.2.2.1
  rw [← hck, ← ho] at hole hoz
  have HALL := Lib.hid (And.intro hole (And.intro hoz (And.intro ho (And.intro hrf (And.intro hck (And.intro hrr (And.intro hmost (And.intro hk1 hk2))))))))
  clear hole hoz ho hrf hck hrr hg2 hroom hmost hrm hk1 hk2 hok2
  generalize (evict g.room F.size g.l).2 = nev at HMR HBG
  generalize hev : (evict g.room F.size g.l).1 = ev at HMR HBG HALL
  clear hev
  obtain ⟨pf, rfl, hq0, hq1, hq2, hq3, hq4⟩ := hF
  have HQ4 := Lib.hid hq4
  clear hq0 hq1 hq2 hq3 hq4
  have ha2 := hw.at_
  have hs2 := hw.size
  have ewa : IntKind.i64.wrap (F.at_ : Int) = (F.at_ : Int) := by rw [IntKind.wrap_i64] <;> omega
  have ews : IntKind.i64.wrap (F.size : Int) = (F.size : Int) := by rw [IntKind.wrap_i64] <;> omega
  unfold frCells at HRI ⊢
  unfold valId at HFI
  clear h hw
  go_enter Tryd.func29, Tryd.ntmps29
  go_wp2_with fail
  generalize hw0 : World.alloc w _ = w0
  obtain ⟨hs0, hG, hcc⟩ := box1 w w0 _ _ hw0
  have hbe : RowKit.Below w.heap.size w w0 := hG.below
  have hw00 : w.heap.size < w0.heap.size := by omega
  have HCC := Lib.hid hcc
  clear hcc hw0 hG
  refine (HFI.out w0 hbe).mono ?_
  rintro e w1 ⟨rfl, hb1⟩
  have HB1 := Lib.hid (hbe.trans (hb1.mono hbe.size))
  have HX := Lib.hid (fun (W : World) (hW : RowKit.Below w1.heap.size w1 W) (j : Nat) (u : Value) hu => (hW.cell (p := ⟨w.heap.size, j, none⟩) (Nat.lt_of_lt_of_le hw00 hb1.size)).trans ((hb1.cell (p := ⟨w.heap.size, j, none⟩) hw00).trans (HCC.out j u hu)))
  have hw1 : w.heap.size < w1.heap.size := Nat.lt_of_lt_of_le hw00 hb1.size
  clear HCC hb1 hbe HFI
  have HRI1 := Lib.hid (fun p : Later w1 => HRI.out p.w (HB1.out.trans (p.hb.mono HB1.out.size)))
  have hb0 := RowKit.Below.refl w1.heap.size w1
  have x0 := later_cell (w0 := w1) (b := w.heap.size) hw1 (HX.out w1 (RowKit.Below.refl _ _) 0 _ rfl)
  have x1 := later_cell (w0 := w1) (b := w.heap.size) hw1 (HX.out w1 (RowKit.Below.refl _ _) 1 _ rfl)
  have x2 := later_cell (w0 := w1) (b := w.heap.size) hw1 (HX.out w1 (RowKit.Below.refl _ _) 2 _ rfl)
  have x3 := later_cell (w0 := w1) (b := w.heap.size) hw1 (HX.out w1 (RowKit.Below.refl _ _) 3 _ rfl)
  have x4 := later_cell (w0 := w1) (b := w.heap.size) hw1 (HX.out w1 (RowKit.Below.refl _ _) 4 _ rfl)
  have x5 := later_cell (w0 := w1) (b := w.heap.size) hw1 (HX.out w1 (RowKit.Below.refl _ _) 5 _ rfl)
  have x6 := later_cell (w0 := w1) (b := w.heap.size) hw1 (HX.out w1 (RowKit.Below.refl _ _) 6 _ rfl)
  have x7 := later_cell (w0 := w1) (b := w.heap.size) hw1 (HX.out w1 (RowKit.Below.refl _ _) 7 _ rfl)
  have x8 := later_cell (w0 := w1) (b := w.heap.size) hw1 (HX.out w1 (RowKit.Below.refl _ _) 8 _ rfl)
  have x9 := later_cell (w0 := w1) (b := w.heap.size) hw1 (HX.out w1 (RowKit.Below.refl _ _) 9 _ rfl)
  have x10 := later_cell (w0 := w1) (b := w.heap.size) hw1 (HX.out w1 (RowKit.Below.refl _ _) 10 _ rfl)
  have x11 := later_cell (w0 := w1) (b := w.heap.size) hw1 (HX.out w1 (RowKit.Below.refl _ _) 11 _ rfl)
  have x12 := later_cell (w0 := w1) (b := w.heap.size) hw1 (HX.out w1 (RowKit.Below.refl _ _) 12 _ rfl)
  have x13 := later_cell (w0 := w1) (b := w.heap.size) hw1 (HX.out w1 (RowKit.Below.refl _ _) 13 _ rfl)
  have x14 := later_cell (w0 := w1) (b := w.heap.size) hw1 (HX.out w1 (RowKit.Below.refl _ _) 14 _ rfl)
  have x15 := later_cell (w0 := w1) (b := w.heap.size) hw1 (HX.out w1 (RowKit.Below.refl _ _) 15 _ rfl)
  go_wp2_with fail
  refine wp_region_later mixed (by kernel_rfl) ?_
  repeat (go_big_quiet_step ((go_at_call 39; exact later_of (HRI1.out _))))
  refine wpQuiet_nil ?_
  intro _ hw'
  obtain ⟨p, rfl⟩ := hw'
  have hbp : RowKit.Below w1.heap.size w1 p.w := hb0.trans (p.hb.mono hb0.size)
  have HB2 := Lib.hid (HB1.out.trans (hbp.mono HB1.out.size))
  have hbx : RowKit.Below w1.heap.size w1 p.w := hbp
  clear x0 x1 x2 x3 x4 x5 x6 x7 x8 x9 x10 x11 x12 x13 x14 x15
  clear hbp hb0
  generalize p.w = W2 at HB2 hbx ⊢
  clear p HRI1
  have hb0 := RowKit.Below.refl W2.heap.size W2
  go_wp2_with fail
  refine wp_region_later mixed (by kernel_rfl) ?_
  repeat (go_big_quiet_step (fail))
  refine wpQuiet_nil ?_
  intro _ hw'
  obtain ⟨p, rfl⟩ := hw'
  have hbp : RowKit.Below W2.heap.size W2 p.w := hb0.trans (p.hb.mono hb0.size)
  have HB3 := Lib.hid (HB2.out.trans (hbp.mono HB2.out.size))
  have hbx3 : RowKit.Below w1.heap.size w1 p.w := hbx.trans (hbp.mono hbx.size)
  clear hbp hb0 hbx
  generalize p.w = W3 at HB3 hbx3 ⊢
  clear p
  have x0 := HX.out W3 hbx3 0 _ rfl
  have x1 := HX.out W3 hbx3 1 _ rfl
  have x2 := HX.out W3 hbx3 2 _ rfl
  have x3 := HX.out W3 hbx3 3 _ rfl
  have x4 := HX.out W3 hbx3 4 _ rfl
  have x5 := HX.out W3 hbx3 5 _ rfl
  have x6 := HX.out W3 hbx3 6 _ rfl
  have x7 := HX.out W3 hbx3 7 _ rfl
  have x8 := HX.out W3 hbx3 8 _ rfl
  have x9 := HX.out W3 hbx3 9 _ rfl
  have x10 := HX.out W3 hbx3 10 _ rfl
  have x11 := HX.out W3 hbx3 11 _ rfl
  have x12 := HX.out W3 hbx3 12 _ rfl
  have x13 := HX.out W3 hbx3 13 _ rfl
  have x14 := HX.out W3 hbx3 14 _ rfl
  have x15 := HX.out W3 hbx3 15 _ rfl
  go_wp2_with fail
  refine (HMR.out W3 HB3.out).mono ?_
  rintro e w4 ⟨T4, rfl, hg4, ho4, -⟩
  have HO4 := Lib.hid ((OnlyE.of_below (D := D) HB3.out).trans ho4)
  have HG4 := Lib.hid hg4
  have hfl3 : w.heap.size < W3.heap.size := Nat.lt_of_lt_of_le hw1 hbx3.size
  have HX4 := Lib.hid (fun (j : Nat) (u : Value) hu => (ho4.cell (i := j) hfl3 hfbw).trans (HX.out W3 hbx3 j u hu))
  have hfl4 : w.heap.size < w4.heap.size := Nat.lt_of_lt_of_le hfl3 ho4.size
  clear hg4 ho4 HMR
  clear x0 x1 x2 x3 x4 x5 x6 x7 x8 x9 x10 x11 x12 x13 x14 x15
  have x0 := HX4.out 0 _ rfl
  have x1 := HX4.out 1 _ rfl
  have x2 := HX4.out 2 _ rfl
  have x3 := HX4.out 3 _ rfl
  have x4 := HX4.out 4 _ rfl
  have x5 := HX4.out 5 _ rfl
  have x6 := HX4.out 6 _ rfl
  have x7 := HX4.out 7 _ rfl
  have x8 := HX4.out 8 _ rfl
  have x9 := HX4.out 9 _ rfl
  have x10 := HX4.out 10 _ rfl
  have x11 := HX4.out 11 _ rfl
  have x12 := HX4.out 12 _ rfl
  have x13 := HX4.out 13 _ rfl
  have x14 := HX4.out 14 _ rfl
  have x15 := HX4.out 15 _ rfl
  go_wp2_with fail
  refine (HBG.out w4 T4 HG4.out HO4.out).mono ?_
  rintro e W ⟨L1, i1, hi1, T1, rfl, hz1, hg5, ho5⟩
  clear x0 x1 x2 x3 x4 x5 x6 x7 x8 x9 x10 x11 x12 x13 x14 x15
  obtain ⟨hole, hoz, ho, hrf, hck, hrr, hmost, hk1, hk2⟩ := HALL.out
  clear HALL HBG
  obtain ⟨hx1, hi1e, hL1⟩ := hz1
  rw [← hi1e] at hrr
  have hat1 : F.at_ < L1[i1].x.has.length := by rw [hx1]; show _ < (List.replicate F.of_ false).length; rw [List.length_replicate, hrf.2.1]; exact hrf.2.2.1
  have hszx : L1[i1].x.size = F.size := by rw [hx1]; rfl
  have hdl : F.data.length = lenZ (L1[i1].x.size : Int) (g2.chunk : Int) (F.at_ : Int) := by rw [hszx, hck]; exact hrf.2.2.2
  have hid1 : L1[i1].x.id = F.id := by rw [hx1]; rfl
  have hszm1 : L1[i1].x.size ≤ 1048576 := by rw [hszx]; have := hrf.1; omega
  rw [← hszx] at hole hoz
  obtain ⟨D1, hD1e⟩ : ∃ D1 : Nat → Prop, D1 = fun k => D k ∨ (w4.heap.size ≤ k ∧ k < W.heap.size) := ⟨_, rfl⟩
  rw [← hD1e] at hg5
  have HGW := Lib.hid hg5
  have HOW := Lib.hid (HO4.out.trans ho5)
  have X6 : Hid (W.cell? ⟨w.heap.size, 6, none⟩ = some (.int .u32 (F.at_ : Int))) := (ho5.cell (i := 6) hfl4 hfbw).trans (HX4.out 6 _ rfl)
  have X15 : Hid (W.cell? ⟨w.heap.size, 15, none⟩ = some (.slice (pf 4).1 F.data.length (pf 4).2)) := (ho5.cell (i := 15) hfl4 hfbw).trans (HX4.out 15 _ rfl)
  have hfb : ¬ D1 w.heap.size := by rw [hD1e]; rintro (e | e); exact hfbw e; omega
  have hfl : w.heap.size < W.heap.size := Nat.lt_of_lt_of_le hfl4 ho5.size
  have HD1 : Hid ((∀ k, D1 k → D k ∨ w.heap.size ≤ k) ∧ (∀ k, D k → D1 k)) := by rw [hD1e]; exact ⟨fun k hk => hk.imp id fun e => by omega, fun k hk => .inl hk⟩
  have HDX : Hid (LiesX W D1 (pf 4).1 (bvs F.data)) := (HQ4.out.widen (D' := D1) fun k hk => (HD1.out.1 k hk).symm).kept (HOW.out.mono HD1.out.2)
  clear hx1 hrf hck hmost hk1 hk2 hszx hD1e hg5 ho5 HX4 HG4 HO4 hfl4 hfl3 hi1e hfbw
  have HRES : Hid (((L1[i1].x.putCut F.at_ F.data).full = false → r = ({ g2 with l := g2.l.set i1 (L1[i1].x.putCut F.at_ F.data) }, [], 4)) ∧ ((L1[i1].x.putCut F.at_ F.data).full = true → r = ({ g2 with l := g2.l.eraseIdx i1 }, (L1[i1].x.putCut F.at_ F.data).cuts.flatten, 5))) := by
    subst hrr
    have hgi := HGW.out.at_ hi1
    have hgl : i1 < g2.l.length := by rw [HGW.out.len]; exact hi1
    unfold Gm.comeAt
    rw [dif_pos hgl, hgi]
    exact ⟨fun hf => by rw [if_neg (by rw [hf]; simp)], fun hf => by rw [if_pos hf]⟩
  clear hrr
  -- the tail
  have hzW := HGW.out.part hi1
  have hda := fun b hb => HGW.out.da _ (List.getElem_mem hi1) b hb
  have hgpl := HGW.out.lt
  obtain ⟨A5, c5, hA5, hXD⟩ : ∃ A5 c5, pf 4 = (A5, c5) ∧ LiesX W D1 A5 (bvs F.data) := ⟨_, _, rfl, HDX.out⟩
  have hA51 : (pf 4).1 = A5 := by rw [hA5]
  have hA52 : (pf 4).2 = c5 := by rw [hA5]
  have HIN := Lib.hid (fun V (hV : RowKit.Below W.heap.size W V) => (HGW.out.on hV).chunk_in hi1 (a := F.at_) (o := o) (d := F.data) ho hat1 hdl (hXD.kept (OnlyE.of_below hV)) (L1[i1].x.size - o) c5 3)
  have hfbz : w.heap.size ≠ L1[i1].b := fun e => (hfb (e ▸ (hda _ (.inr (.inr (.inr rfl)))).1))
  have hgz : gp ≠ L1[i1].b := fun e => (hda _ (.inr (.inr (.inr rfl)))).2.1 e.symm
  have hfbD : ∀ b, L1[i1].has b → w.heap.size ≠ b := fun b hb e => hfb (e ▸ (hda b hb).1)
  have HL : Hid (∀ V, OnlyE W V (fun k => k = L1[i1].b) → V.cell? ⟨L1[i1].p, 3, none⟩ = some (.slice (some ⟨L1[i1].b, 0, none⟩) L1[i1].x.size L1[i1].x.size) ∧ V.cell? ⟨w.heap.size, 6, none⟩ = some (.int .u32 (F.at_ : Int)) ∧ V.cell? ⟨gp, 1, none⟩ = some (.int .i64 (g2.chunk : Int)) ∧ V.cell? ⟨w.heap.size, 15, none⟩ = some (.slice A5 F.data.length c5)) := fun V hV =>
    ⟨(hV.cell (hzW.lt (.inl rfl)) hzW.np.2.2).trans hzW.c3, (hV.cell hfl hfbz).trans X6.out, (hV.cell hgpl hgz).trans HGW.out.c1, (hV.cell hfl hfbz).trans (X15.out.trans (by rw [← hA51, ← hA52]))⟩
  have HFIN : Hid (∀ V W1, RowKit.Below W.heap.size W V → OnlyE V W1 (fun k => k = L1[i1].b) → W1.cell? ⟨w.heap.size, 6, none⟩ = some (.int .u32 (F.at_ : Int)) ∧ W1.cell? ⟨L1[i1].p, 0, none⟩ = some (.pointer (some ⟨L1[i1].s, 0, none⟩)) ∧ w.heap.size < W1.heap.size ∧ L1[i1].p < W1.heap.size) := fun V W1 hV hW =>
    ⟨((hW.cell (Nat.lt_of_lt_of_le hfl hV.size) hfbz).trans (hV.cell (p := ⟨w.heap.size, 6, none⟩) hfl)).trans X6.out, ((hW.cell (Nat.lt_of_lt_of_le (hzW.lt (.inl rfl)) hV.size) hzW.np.2.2).trans (hV.cell (p := ⟨L1[i1].p, 0, none⟩) (hzW.lt (.inl rfl)))).trans hzW.c0, Nat.lt_of_lt_of_le (Nat.lt_of_lt_of_le hfl hV.size) hW.size, Nat.lt_of_lt_of_le (Nat.lt_of_lt_of_le (hzW.lt (.inl rfl)) hV.size) hW.size⟩
  have hnps := hzW.np.1
  have hnpq := hzW.np.2.1
  have hfs : w.heap.size ≠ L1[i1].s := hfbD _ (.inr (.inl rfl))
  have hfq : w.heap.size ≠ L1[i1].q := hfbD _ (.inr (.inr (.inl rfl)))
  -- all that comes behind the set's put
  have HEND : Hid (∀ V W1 W2, RowKit.Below W.heap.size W V → (GtAt W2 base gp T1 (L1.set i1 (L1[i1].putCut F.at_ F.data)) { g2 with l := g2.l.set i1 (L1[i1].x.putCut F.at_ F.data) } D1 ∧ OnlyE V W2 (fun k => L1[i1].has k)) → OnlyE V W1 (fun k => k = L1[i1].b) →
      (GtAt W2 base gp T1 (L1.set i1 (L1[i1].putCut F.at_ F.data)) { g2 with l := g2.l.set i1 (L1[i1].x.putCut F.at_ F.data) } D1 ∧ OnlyE W W2 D1) ∧ W2.cell? ⟨L1[i1].p, 0, none⟩ = some (.pointer (some ⟨L1[i1].s, 0, none⟩)) ∧ W2.cell? ⟨L1[i1].p, 1, none⟩ = some (.int .u8 (F.id.f : Int)) ∧ W2.cell? ⟨L1[i1].p, 2, none⟩ = some (.int .u64 (F.id.s : Int)) ∧ W2.cell? ⟨L1[i1].p, 3, none⟩ = some (.slice (some ⟨L1[i1].b, 0, none⟩) L1[i1].x.size L1[i1].x.size) ∧
        (∀ V2, RowKit.Below W2.heap.size W2 V2 → Calls Tryd.prog 44 #[.pointer (some ⟨L1[i1].s, 0, none⟩)] V2 fun e w' => e = .returned (.bool (L1[i1].x.putCut F.at_ F.data).full) ∧ V2 = w')) := fun V W1 W2 hV hh hW1 => by
    have hi2 : i1 < (L1.set i1 (L1[i1].putCut F.at_ F.data)).length := by rw [List.length_set]; exact hi1
    have he : (L1.set i1 (L1[i1].putCut F.at_ F.data))[i1] = L1[i1].putCut F.at_ F.data := List.getElem_set_self hi2
    have hp2 := hh.1.part hi2
    rw [he] at hp2
    have c1 := hp2.c1
    have c2 := hp2.c2
    refine ⟨⟨hh.1, (OnlyE.of_below (D := D1) hV).trans (hh.2.mono fun b hb => (hda b hb).1)⟩, hp2.c0, ?_, ?_, hp2.c3, fun V2 hV2 => ?_⟩
    · rw [← hid1]; exact c1
    · rw [← hid1]; exact c2
    · have := full_any (hp2.set.on hV2)
      rw [full_cnt] at this
      exact this.mono fun _ _ ⟨e1, e2⟩ => ⟨e1, e2.symm⟩
  have HDROP : Hid (∀ W2, GtAt W2 base gp T1 (L1.set i1 (L1[i1].putCut F.at_ F.data)) { g2 with l := g2.l.set i1 (L1[i1].x.putCut F.at_ F.data) } D1 → OnlyE W W2 D1 → (L1[i1].x.putCut F.at_ F.data).full = true →
      Calls Tryd.prog 13 #[.pointer (some ⟨gp, 0, none⟩), .slice (some ⟨W2.heap.size, 0, none⟩) 1 1] (W2.alloc (.cells #[.int .u8 (F.id.f : Int), .int .u64 (F.id.s : Int)] 25)) fun e w' => ∃ T' L', ∃ n : Int, e = .returned (.int .i64 n) ∧ GtAt w' base gp T' L' { g2 with l := g2.l.eraseIdx i1 } D1 ∧ OnlyE W w' D1 ∧
        w'.cell? ⟨L1[i1].p, 3, none⟩ = some (.slice (some ⟨L1[i1].b, 0, none⟩) L1[i1].x.size L1[i1].x.size) ∧ w'.ownsRow 0 5 1 (.slice (some ⟨L1[i1].b, 0, none⟩) L1[i1].x.size L1[i1].x.size) L1[i1].x.size (bvs (L1[i1].x.putCut F.at_ F.data).cuts.flatten)) := fun W2 hg2 ho2 hf => by
    have hb : RowKit.Below W2.heap.size W2 (W2.alloc (.cells #[.int .u8 (F.id.f : Int), .int .u64 (F.id.s : Int)] 25)) := (RowKit.Below.refl _ _).alloc (Nat.le_refl _) _
    have hi2 : i1 < (L1.set i1 (L1[i1].putCut F.at_ F.data)).length := by rw [List.length_set]; exact hi1
    have he : (L1.set i1 (L1[i1].putCut F.at_ F.data))[i1] = L1[i1].putCut F.at_ F.data := List.getElem_set_self hi2
    have hgA := hg2.on hb
    have hidz : (L1.set i1 (L1[i1].putCut F.at_ F.data))[i1].x.id = F.id := by rw [he]; exact hid1
    obtain ⟨e1, e2⟩ := hgA.gone hi2 hidz
    have hp2 := hgA.part hi2
    have htold := hgA.told hi2 (by rw [he]; exact hf)
    have hda2 := fun b hb => hgA.da _ (List.getElem_mem hi2) b hb
    rw [he] at hp2 htold hda2
    have hnD : ¬ D1 W2.heap.size := fun e => by have := (hg2.din _ e).2; omega
    refine (drop_any hgA (by rw [List.length_set]; omega) (some ⟨W2.heap.size, 0, none⟩) 1 F.id (LiesX.of_new #[.int .u8 (F.id.f : Int), .int .u64 (F.id.s : Int)] 25 hnD)).mono ?_
    rintro e w' ⟨T', rfl, h1, h2, -⟩
    rw [e2] at h1
    have e3 : (g2.l.set i1 (L1[i1].x.putCut F.at_ F.data)).eraseIdx i1 = g2.l.eraseIdx i1 := erase_set _ _ _
    simp only [e3] at h1
    exact ⟨T', _, _, rfl, h1, (ho2.trans (OnlyE.of_below hb)).trans (h2.mono hgA.gd), (h2.cell (hp2.lt (.inl rfl)) (fun e => e.elim (hda2 _ (.inl rfl)).2.2 (hda2 _ (.inl rfl)).2.1)).trans hp2.c3, own_only htold h2 fun b hbb e => by
      injection hbb with hbb
      subst hbb
      exact e.elim (hda2 _ (.inr (.inr (.inr rfl)))).2.2 (hda2 _ (.inr (.inr (.inr rfl)))).2.1⟩
  have HPB := Lib.hid (fun (X1 : World) (s q : Nat) (hS : SetAt X1 s q L1[i1].x.has) => put_built (a := F.at_) hS)
  have hmul : (F.at_ : Int) * (g2.chunk : Int) = (o : Int) := by rw [ho, Int.natCast_mul]
  have hol : o ≤ L1[i1].x.size := hole
  have hozz : ¬ o < L1[i1].x.size → L1[i1].x.size = 0 := hoz
  have hszm : L1[i1].x.size ≤ 1048576 := hszm1
  have hwo : IntKind.i64.wrap (o : Int) = (o : Int) := by rw [IntKind.wrap_i64] <;> omega
  have HCM := Lib.hid (And.intro hmul (And.intro hol (And.intro hozz (And.intro hszm hwo))))
  clear hwo
  clear hmul hol hozz hszm
  clear hole hoz hL1
  have HGZ := Lib.hid (And.intro hgz (hda _ (.inr (.inr (.inr rfl)))).1)
  clear hzW hda hgpl hXD hA51 hA52 hA5 hfbz hgz hfbD X6 X15 HGW HDX ho hat1 hdl hid1 hszm1
  generalize L1[i1].p = zp at *
  generalize L1[i1].s = zs at *
  generalize L1[i1].q = zq at *
  generalize L1[i1].b = zb at *
  generalize hfx : (L1[i1].x.putCut F.at_ F.data).full = fl at *
  generalize L1[i1].x.size = sz at *
  generalize (g2.chunk : Int) = kk at *
  generalize F.data.length = dl at *
  generalize (F.at_ : Int) = att at *
  go_wp2_with fail
  refine wp_region_held_drew (S := fun V => OnlyE W V (fun k => k = zb)) (by kernel_rfl) (onlyE_drew _ _) (fun hHeld => ?_)
  have hHeld : OnlyE W W.drew (fun k => k = zb) := onlyE_drew _ _
  have hBX : RowKit.Below W.heap.size W W.drew := (RowKit.Below.refl _ _).drew
  generalize W.drew = X0 at hHeld hBX ⊢
  refine wpAnyH_takeAt (i := 0) (d := 59) (v := ?_) rfl rfl (by kernel_rfl) (by kernel_rfl) (by kernel_rfl) (fun _ _ _ h => h) (Or.inl ⟨by rfl, ?_⟩) hHeld ?_
  rotate_left
  · (intro _ hSw; go_simp; try with_reducible rfl)
  simp only [List.setIfInBounds_toArray, List.set_cons_zero, List.set_cons_succ]
  refine wpAnyH_takeAt (i := 1) (d := 60) (v := ?_) rfl rfl (by kernel_rfl) (by kernel_rfl) (by kernel_rfl) (fun _ _ _ h => h) (Or.inl ⟨by rfl, ?_⟩) hHeld ?_
  rotate_left
  · (intro _ hSw; go_simp; try with_reducible rfl)
  simp only [List.setIfInBounds_toArray, List.set_cons_zero, List.set_cons_succ]
  refine wpAnyH_takeAt (i := 2) (d := 61) (v := ?_) rfl rfl (by kernel_rfl) (by kernel_rfl) (by kernel_rfl) (fun _ _ _ h => h) (Or.inl ⟨by rfl, ?_⟩) hHeld ?_
  rotate_left
  · (intro _ hSw; go_simp; try with_reducible rfl)
  simp only [List.setIfInBounds_toArray, List.set_cons_zero, List.set_cons_succ]
  refine wpAnyH_takeAt (i := 3) (d := 62) (v := ?_) rfl rfl (by kernel_rfl) (by kernel_rfl) (by kernel_rfl) (fun _ _ _ h => h) (Or.inl ⟨by rfl, ?_⟩) hHeld ?_
  rotate_left
  · (intro _ hSw; have hc := (HL.out _ hSw).1; go_simp; try with_reducible rfl)
  simp only [List.setIfInBounds_toArray, List.set_cons_zero, List.set_cons_succ]
  refine wpAnyH_takeAt (i := 4) (d := 63) (v := ?_) rfl rfl (by kernel_rfl) (by kernel_rfl) (by kernel_rfl) (fun _ _ _ h => h) (Or.inl ⟨by rfl, ?_⟩) hHeld ?_
  rotate_left
  · (intro _ hSw; go_simp; try with_reducible rfl)
  simp only [List.setIfInBounds_toArray, List.set_cons_zero, List.set_cons_succ]
  refine wpAnyH_takeAt (i := 5) (d := 64) (v := ?_) rfl rfl (by kernel_rfl) (by kernel_rfl) (by kernel_rfl) (fun _ _ _ h => h) (Or.inl ⟨by rfl, ?_⟩) hHeld ?_
  rotate_left
  · (intro _ hSw; have hc := (HL.out _ hSw).2.1; go_simp; try with_reducible rfl)
  simp only [List.setIfInBounds_toArray, List.set_cons_zero, List.set_cons_succ]
  refine wpAnyH_takeAt (i := 6) (d := 65) (v := ?_) rfl rfl (by kernel_rfl) (by kernel_rfl) (by kernel_rfl) (fun _ _ _ h => h) (Or.inl ⟨by rfl, ?_⟩) hHeld ?_
  rotate_left
  · (intro _ hSw; go_simp; try with_reducible rfl)
  simp only [List.setIfInBounds_toArray, List.set_cons_zero, List.set_cons_succ]
  refine wpAnyH_takeAt (i := 7) (d := 66) (v := ?_) rfl rfl (by kernel_rfl) (by kernel_rfl) (by kernel_rfl) (fun _ _ _ h => h) (Or.inl ⟨by rfl, ?_⟩) hHeld ?_
  rotate_left
  · (intro _ hSw; go_simp; try with_reducible rfl)
  simp only [List.setIfInBounds_toArray, List.set_cons_zero, List.set_cons_succ]
  refine wpAnyH_takeAt (i := 8) (d := 67) (v := ?_) rfl rfl (by kernel_rfl) (by kernel_rfl) (by kernel_rfl) (fun _ _ _ h => h) (Or.inl ⟨by rfl, ?_⟩) hHeld ?_
  rotate_left
  · (intro _ hSw; go_simp; try with_reducible rfl)
  simp only [List.setIfInBounds_toArray, List.set_cons_zero, List.set_cons_succ]
  refine wpAnyH_takeAt (i := 9) (d := 68) (v := ?_) rfl rfl (by kernel_rfl) (by kernel_rfl) (by kernel_rfl) (fun _ _ _ h => h) (Or.inl ⟨by rfl, ?_⟩) hHeld ?_
  rotate_left
  · (intro _ hSw; go_simp; try with_reducible rfl)
  simp only [List.setIfInBounds_toArray, List.set_cons_zero, List.set_cons_succ]
  refine wpAnyH_takeAt (i := 10) (d := 69) (v := ?_) rfl rfl (by kernel_rfl) (by kernel_rfl) (by kernel_rfl) (fun _ _ _ h => h) (Or.inl ⟨by rfl, ?_⟩) hHeld ?_
  rotate_left
  · (intro _ hSw; have hc := (HL.out _ hSw).2.2.1; go_simp; try with_reducible rfl)
  simp only [List.setIfInBounds_toArray, List.set_cons_zero, List.set_cons_succ]
  refine wpAnyH_takeAt (i := 11) (d := 70) (v := .int .i64 (o : Int)) rfl rfl (by kernel_rfl) (by kernel_rfl) (by kernel_rfl) (fun _ _ _ h => h) (Or.inl ⟨by rfl, by intro _ hSw; have hmul := HCM.out.1; have hwo := HCM.out.2.2.2.2; go_simp; try with_reducible rfl⟩) hHeld ?_
  simp only [List.setIfInBounds_toArray, List.set_cons_zero, List.set_cons_succ]
  refine wpAnyH_takeAt (i := 12) (d := 71) (v := .slice (some ⟨zb, o, none⟩) (sz - o) (sz - o)) rfl rfl (by kernel_rfl) (by kernel_rfl) (by kernel_rfl) (fun _ _ _ h => h) (Or.inl ⟨by rfl, by intro _ hSw; exact (Nat.lt_or_ge o sz).elim (fun hq => by (obtain ⟨-, hol, -, hszm, -⟩ := HCM.out; have hne : ¬ sz = o := (by omega); clear HCM; go_simp; try with_reducible rfl)) (fun hq => by (obtain ⟨-, hol, hozz, hszm, -⟩ := HCM.out; have hz0 := hozz (by omega); have ho0 : o = 0 := (by omega); clear HCM; subst hz0 ho0; go_simp; try with_reducible rfl))⟩) hHeld ?_
  simp only [List.setIfInBounds_toArray, List.set_cons_zero, List.set_cons_succ]
  refine wpAnyH_takeAt (i := 13) (d := 72) (v := ?_) rfl rfl (by kernel_rfl) (by kernel_rfl) (by kernel_rfl) (fun _ _ _ h => h) (Or.inl ⟨by rfl, ?_⟩) hHeld ?_
  rotate_left
  · (intro _ hSw; go_simp; try with_reducible rfl)
  simp only [List.setIfInBounds_toArray, List.set_cons_zero, List.set_cons_succ]
  refine wpAnyH_takeAt (i := 14) (d := 73) (v := ?_) rfl rfl (by kernel_rfl) (by kernel_rfl) (by kernel_rfl) (fun _ _ _ h => h) (Or.inl ⟨by rfl, ?_⟩) hHeld ?_
  rotate_left
  · (intro _ hSw; have hc := (HL.out _ hSw).2.2.2; go_simp; try with_reducible rfl)
  simp only [List.setIfInBounds_toArray, List.set_cons_zero, List.set_cons_succ]
  obtain ⟨W1, hrun, ho1, hS1, hfin⟩ := HIN.out X0 hBX
  refine wpAnyH_ready (rs := [15]) (by kernel_rfl) (by simp) ?_
  refine AllReadyH.cons rfl (fun K hK => ?_) AllReadyH.nil
  refine wp_copy_step (s := .tmp 71) (x := .tmp 73) (t := 39) rfl rfl rfl rfl hrun ?_
  go_simp
  refine hK.out _ _ (hHeld.trans ho1) (fun _ => ?_)
  clear hK K
  refine wpAnyH_done (by kernel_rfl) ?_ _
  obtain ⟨r6, r0, rl1, rl2⟩ := HFIN.out X0 W1 hBX ho1
  have HS1 := Lib.hid hS1
  have HFN := Lib.hid hfin
  have HO1 := Lib.hid ho1
  clear hrun hfin hS1 hHeld ho1 HL HIN
  go_wp2_with fail
  have HL2 : Hid (∀ V, OnlyE W1 V (DS zs zq) → V.cell? ⟨zp, 0, none⟩ = some (.pointer (some ⟨zs, 0, none⟩)) ∧ V.cell? ⟨w.heap.size, 6, none⟩ = some (.int .u32 att)) := fun V hV =>
    ⟨(hV.cell rl2 (fun e => e.elim hnps hnpq)).trans r0, (hV.cell rl1 (fun e => e.elim hfs hfq)).trans r6⟩
  refine wp_region_held_drew (S := fun V => OnlyE W1 V (DS zs zq)) (by kernel_rfl) (onlyE_drew _ _) (fun hHeld => ?_)
  have hHeld : OnlyE W1 W1.drew (DS zs zq) := onlyE_drew _ _
  have HSX := Lib.hid (HS1.out.on ((RowKit.Below.refl W1.heap.size W1).drew))
  generalize W1.drew = X1 at hHeld HSX ⊢
  refine wpAnyH_takeAt (i := 0) (d := 75) (v := ?_) rfl rfl (by kernel_rfl) (by kernel_rfl) (by kernel_rfl) (fun _ _ _ h => h) (Or.inl ⟨by rfl, ?_⟩) hHeld ?_
  rotate_left
  · (intro _ hSw; go_simp; try with_reducible rfl)
  simp only [List.setIfInBounds_toArray, List.set_cons_zero, List.set_cons_succ]
  refine wpAnyH_takeAt (i := 1) (d := 76) (v := ?_) rfl rfl (by kernel_rfl) (by kernel_rfl) (by kernel_rfl) (fun _ _ _ h => h) (Or.inl ⟨by rfl, ?_⟩) hHeld ?_
  rotate_left
  · (intro _ hSw; go_simp; try with_reducible rfl)
  simp only [List.setIfInBounds_toArray, List.set_cons_zero, List.set_cons_succ]
  refine wpAnyH_takeAt (i := 2) (d := 77) (v := ?_) rfl rfl (by kernel_rfl) (by kernel_rfl) (by kernel_rfl) (fun _ _ _ h => h) (Or.inl ⟨by rfl, ?_⟩) hHeld ?_
  rotate_left
  · (intro _ hSw; go_simp; try with_reducible rfl)
  simp only [List.setIfInBounds_toArray, List.set_cons_zero, List.set_cons_succ]
  refine wpAnyH_takeAt (i := 3) (d := 78) (v := ?_) rfl rfl (by kernel_rfl) (by kernel_rfl) (by kernel_rfl) (fun _ _ _ h => h) (Or.inl ⟨by rfl, ?_⟩) hHeld ?_
  rotate_left
  · (intro _ hSw; have hc := (HL2.out _ hSw).1; go_simp; try with_reducible rfl)
  simp only [List.setIfInBounds_toArray, List.set_cons_zero, List.set_cons_succ]
  refine wpAnyH_takeAt (i := 4) (d := 79) (v := ?_) rfl rfl (by kernel_rfl) (by kernel_rfl) (by kernel_rfl) (fun _ _ _ h => h) (Or.inl ⟨by rfl, ?_⟩) hHeld ?_
  rotate_left
  · (intro _ hSw; go_simp; try with_reducible rfl)
  simp only [List.setIfInBounds_toArray, List.set_cons_zero, List.set_cons_succ]
  refine wpAnyH_takeAt (i := 5) (d := 80) (v := ?_) rfl rfl (by kernel_rfl) (by kernel_rfl) (by kernel_rfl) (fun _ _ _ h => h) (Or.inl ⟨by rfl, ?_⟩) hHeld ?_
  rotate_left
  · (intro _ hSw; have hc := (HL2.out _ hSw).2; go_simp; try with_reducible rfl)
  simp only [List.setIfInBounds_toArray, List.set_cons_zero, List.set_cons_succ]
  refine wpAnyH_takeAt (i := 6) (d := 81) (v := ?_) rfl rfl (by kernel_rfl) (by kernel_rfl) (by kernel_rfl) (fun _ _ _ h => h) (Or.inl ⟨by rfl, ?_⟩) hHeld ?_
  rotate_left
  · (intro _ hSw; go_simp; try with_reducible rfl)
  simp only [List.setIfInBounds_toArray, List.set_cons_zero, List.set_cons_succ]
  refine wpAnyH_ready (rs := [7]) (by kernel_rfl) (by simp) ?_
  refine AllReadyH.cons rfl (fun K hK => ?_) AllReadyH.nil
  go_simp
  have hHeldA : OnlyE W1 (X1.alloc (.cells #[.int .i64 att] 3)) (DS zs zq) := hHeld.trans (OnlyE.of_below ((RowKit.Below.refl _ _).alloc (Nat.le_refl _) _))
  refine hK.out _ _ hHeldA (fun _ => ?_)
  clear hK K
  refine wpAnyH_ready (rs := [8]) (by kernel_rfl) (by simp) ?_
  refine AllReadyH.cons rfl (fun K hK => ?_) AllReadyH.nil
  go_simp
  refine (HPB.out X1 zs zq HSX.out).mono ?_
  rintro e W2 ⟨n2, rfl, hS2, ho2⟩
  have hHeldB : OnlyE W1 W2 (DS zs zq) := hHeld.trans ho2
  refine hK.out _ _ hHeldB (fun _ => ?_)
  clear hK K
  refine wpAnyH_done (by kernel_rfl) ?_ _
  obtain ⟨hgo, q0, q1, q2, q3, hfull⟩ := HEND.out X0 W1 W2 hBX (HFN.out W2 hHeldB hS2) HO1.out
  have HGO := Lib.hid hgo
  have HFU := Lib.hid hfull
  clear hgo hfull hS2 ho2 hHeldB hHeldA hHeld HSX HL2 HEND HFN HO1 HS1 HFIN r6 r0 rl1 rl2 hBX
  go_wp2_with fail
  refine (HFU.out W2 (RowKit.Below.refl _ _)).mono ?_
  rintro e w9 ⟨rfl, rfl⟩
  clear HFU
  cases fl with
  | false =>
    go_wp2
    go_ret2
    rw [HRES.out.1 (by simp)]
    exact ⟨T1, _, D1, _, rfl, HGO.out.1, HOW.out.trans' HGO.out.2 HD1.out, HD1.out.1, HD1.out.2, told_nil _ _ _⟩
  | true =>
    have HDR := Lib.hid (HDROP.out W2 HGO.out.1 HGO.out.2 rfl)
    clear HDROP
    go_wp2_with fail
    refine HDR.out.mono ?_
    rintro e w8 ⟨T8, L8, n8, rfl, hg8, ho8, hc8, hp8⟩
    have HG8 := Lib.hid hg8
    have HO8 := Lib.hid ho8
    have HP8 := Lib.hid hp8
    clear hg8 ho8 hp8 HDR q0 q1 q2 q3
    go_wp2
    go_ret2
    rw [HRES.out.2 (by simp)]
    refine ⟨T8, L8, D1, _, rfl, HG8.out, HOW.out.trans' HO8.out HD1.out, HD1.out.1, HD1.out.2, ⟨_, _, _, rfl, ?_, Nat.le_refl _, by have := HCM.out.2.2.2.1; unfold maxLen; omega, liesX_own HP8.out HGZ.out⟩⟩
    have := HP8.out.1
    rw [bvs_length] at this
    exact this.trans (Nat.mul_one _)

end

end Go.Proofs.YthkongnjokmmfaaDoor

