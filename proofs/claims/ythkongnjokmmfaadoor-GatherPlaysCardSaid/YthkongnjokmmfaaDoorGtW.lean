/- Stage 13: counted; makeRoom. -/
import Derived.Test.YthkongnjokmmfaaDoorGtV
set_option maxRecDepth 20000
namespace Go.Proofs.YthkongnjokmmfaaDoor
open Go.RowKit Go.Sort

theorem gCells_bump (T : Value) (g : Gm) (k n : Nat) (h6 : g.counts.length = 6) (hk : k < 6) : (gCells T g).setIfInBounds (6 + k) (.int .i64 ((g.counts.getD k 0 + n : Nat) : Int)) = gCells T { g with counts := bump g.counts k n } := by
  have e := fun j (hj : j < 6) => bump_at g.counts k n j (by omega)
  unfold gCells
  simp only [e 0 (by omega), e 1 (by omega), e 2 (by omega), e 3 (by omega), e 4 (by omega), e 5 (by omega)]
  match k, hk with
  | 0, _ => rfl
  | 1, _ => rfl
  | 2, _ => rfl
  | 3, _ => rfl
  | 4, _ => rfl
  | 5, _ => rfl
theorem bump_zero (c : List Nat) (k : Nat) (h : k < c.length) : bump c k 0 = c := by
  unfold bump
  rw [Nat.add_zero, List.getD_eq_getElem?_getD, List.getElem?_eq_getElem h]
  exact List.set_getElem_self h

theorem evict_drop (room size : Nat) : ∀ l : List Part, (evict room size l).1 = l.drop (evict room size l).2
  | [] => rfl
  | p :: r => by
    unfold evict
    split
    · show (evict room size r).1 = (p :: r).drop ((evict room size r).2 + 1)
      rw [List.drop_succ_cons]
      exact evict_drop room size r
    · rfl
theorem evict_more (room size : Nat) : ∀ (l : List Part) (k : Nat), k < (evict room size l).2 → room < usedL (l.drop k) + size
  | [], k, h => by exact absurd h (Nat.not_lt_zero _)
  | p :: r, k, h => by
    unfold evict at h
    split at h
    · rename_i h0
      cases k with
      | zero => exact h0
      | succ k =>
        rw [List.drop_succ_cons]
        exact evict_more room size r k (Nat.lt_of_succ_lt_succ h)
    · exact absurd h (Nat.not_lt_zero _)
theorem evict_le (room size : Nat) (l : List Part) : (evict room size l).2 ≤ l.length := by
  have := evict_len room size l
  omega
theorem used_drop (l : List Part) (k : Nat) (h : k < l.length) : usedL (l.drop k) = l[k].size + usedL (l.drop (k + 1)) := by
  rw [List.drop_eq_getElem_cons h]
  rfl
theorem used_drop_le (l : List Part) (k : Nat) : usedL (l.drop k) ≤ usedL l := by
  have e : usedL l = usedL (l.take k) + usedL (l.drop k) := by rw [← usedL_append, List.take_append_drop]
  omega

section
variable {w w' : World} {base gp : Nat} {T : Value} {L : List Pz} {g : Gm} {D : Nat → Prop}
/-- It is counted. -/
theorem GtAt.count (h : GtAt w base gp T L g D) {k : Nat} (hk : k < 6) (n : Nat) : GtAt (w.setCell ⟨gp, 6 + k, none⟩ (.int .i64 ((g.counts.getD k 0 + n : Nat) : Int))) base gp T L { g with counts := bump g.counts k n } D ∧ OnlyE w (w.setCell ⟨gp, 6 + k, none⟩ (.int .i64 ((g.counts.getD k 0 + n : Nat) : Int))) D := by
  have hO : OnlyE w (w.setCell ⟨gp, 6 + k, none⟩ (.int .i64 ((g.counts.getD k 0 + n : Nat) : Int))) (fun b => b = gp) := onlyE_set (D := fun b => b = gp) rfl _ _
  refine ⟨?_, hO.mono fun b hb => hb ▸ h.dg⟩
  exact
  { box := by
      rw [← gCells_bump T g k n h.ok.six hk]
      exact heap_setCell_same w gp (6 + k) _ _ _ h.box
    row := own_only h.row hO fun b hb e => h.ne (e ▸ hb)
    gl := h.gl
    parts := fun z hz => (h.parts z hz).kept hO fun b hb => (h.da z hz b hb).2.1
    apart := h.apart, dg := h.dg, dt := h.dt, da := h.da
    din := fun b hb => ⟨(h.din b hb).1, Nat.lt_of_lt_of_le (h.din b hb).2 hO.size⟩
    ne := h.ne
    ok := h.ok.counts (by rw [bump_len]; exact h.ok.six)
    rm := h.rm }
theorem GtAt.drop_len (h : GtAt w base gp T L g D) (n : Nat) : (L.drop n).map Pz.x = g.l.drop n := by rw [h.gl, List.map_drop]
theorem GtAt.ok_drop (h : GtAt w base gp T L g D) (n : Nat) : Gm.Sok { g with l := g.l.drop n } :=
  h.ok.of_l (Nat.le_trans (used_drop_le _ _) h.ok.used) (fun _ hp => List.mem_of_mem_drop hp) (h.ok.ids.sublist (List.drop_sublist _ _))

set_option maxHeartbeats 3200000 in
theorem makeRoom_core (h : GtAt w base gp T L g D) (hwt : g.weight ≤ 1000000) (F : Fr) (cs : Array Value) (hF : FrL w F cs) (hFs : F.size < 4294967296) (n : Nat) (hn : n ≤ L.length) (hmore : ∀ k, k < n → g.room < usedL (g.l.drop k) + F.size ∧ F.id = g.wanted) (hstop : ¬ g.room < usedL (g.l.drop n) + F.size ∨ F.id ≠ g.wanted) :
    Calls Tryd.prog 41 #[.pointer (some ⟨gp, 0, none⟩), .agg cs] w fun e w' => ∃ T', e = .returned (.bool (decide (usedL (g.l.drop n) + F.size ≤ g.room))) ∧ GtAt w' base gp T' (L.drop n) { g with l := g.l.drop n, counts := bump g.counts 3 n } D ∧ OnlyE w w' D ∧ T'.ownBlock = T.ownBlock := by
  have mixed := mixedOrders
  have he := fun W' => eqlId F.id g.wanted W'
  have hgd := guardId
  obtain ⟨A, c, rfl, hnc, hc, -, hL⟩ := h.slice
  have hLw := h.lenw
  have hlt := h.lt
  have c0 := h.c0
  have c3 := h.c3
  have c4 := h.c4
  have c5 := h.c5
  have hu := h.ok.used
  have hr := h.rm
  have hcnt : g.counts.getD 3 0 ≤ 1000000 := by have := getD_le_sum g.counts 3; unfold Gm.weight at hwt; omega
  have hll := h.len
  -- the calls, in every later world
  have HU : Hid (∀ W, RowKit.Below w.heap.size w W → Calls Tryd.prog 14 #[.pointer (some ⟨gp, 0, none⟩)] W fun e w' => e = .returned (.int .i64 (usedL g.l : Int)) ∧ RowKit.Below W.heap.size W w') := fun W hW => (used_any (h.on hW)).mono fun _ _ ⟨h1, h2⟩ => ⟨h1, h2 ▸ RowKit.Below.refl _ _⟩
  have HD : Hid (∀ W, RowKit.Below w.heap.size w W → Calls Tryd.prog 52 #[.slice A L.length c, .int .i64 0, .int .i64 (n : Int)] W fun e w' => e = .returned (.slice A (L.length - n) c) ∧
      (GtAt (w'.setCell ⟨gp, 0, none⟩ (.slice A (L.length - n) c)) base gp (.slice A (L.length - n) c) (L.drop n) { g with l := g.l.drop n } D ∧ OnlyE w (w'.setCell ⟨gp, 0, none⟩ (.slice A (L.length - n) c)) D) ∧ w'.cell? ⟨gp, 0, none⟩ = some (.slice A L.length c) ∧ w'.frozen? ⟨gp, 0, none⟩ = false) := fun W hW => by
    have hg := h.on hW
    refine (delete_any base A L.length c n L W rfl hn (by omega) hg.row).mono ?_
    rintro e w' ⟨rfl, ho, hO⟩
    have hok := h.ok_drop n
    rw [← h.drop_len n] at hok
    have hdl : (L.drop n).length = L.length - n := by rw [List.length_drop]
    rw [← hdl] at ho ⊢
    obtain ⟨h1, h2, h3, h4⟩ := hg.fewer hO (List.drop_sublist n L) ho (ownBlock_n _ _ _ _) hok
    rw [h.drop_len n] at h1
    exact ⟨rfl, ⟨h1, (OnlyE.of_below hW).trans (h2.mono h.gd)⟩, h3, h4⟩
  have HP : Hid (∀ W, RowKit.Below w.heap.size w W → ∀ k, (hk : k < L.length) → ∃ b off, A = some ⟨b, off, none⟩ ∧ b < W.heap.size ∧ W.cell? ⟨b, off + k, none⟩ = some (.pointer (some ⟨L[k].p, 0, none⟩)) ∧ W.cell? ⟨L[k].p, 3, none⟩ = some (.slice (some ⟨L[k].b, 0, none⟩) L[k].x.size L[k].x.size)) := fun W hW k hk => by
    obtain ⟨b, off, e, hb, hcell⟩ := Lies.pz (hL.later hW) hk
    exact ⟨b, off, e, hb, hcell, ((h.on hW).parts _ (List.getElem_mem hk)).c3⟩
  have HUD : Hid (∀ k, (hk : k < L.length) → usedL (g.l.drop k) = L[k].x.size + usedL (g.l.drop (k + 1)) ∧ usedL (g.l.drop k) ≤ usedL g.l) := fun k hk => ⟨by rw [used_drop g.l k (by omega), h.at_ hk], used_drop_le _ _⟩
  have HM := Lib.hid hmore
  have HST := Lib.hid hstop
  have HC : Hid (∀ W T', GtAt W base gp T' (L.drop n) { g with l := g.l.drop n } D → GtAt (W.setCell ⟨gp, 9, none⟩ (.int .i64 ((g.counts.getD 3 0 : Int) + (n : Int)))).drew base gp T' (L.drop n) { g with l := g.l.drop n, counts := bump g.counts 3 n } D ∧ OnlyE W (W.setCell ⟨gp, 9, none⟩ (.int .i64 ((g.counts.getD 3 0 : Int) + (n : Int)))).drew D ∧ W.cell? ⟨gp, 9, none⟩ = some (.int .i64 (g.counts.getD 3 0 : Int)) ∧ W.frozen? ⟨gp, 9, none⟩ = false) := fun W T' hW => by
    obtain ⟨h1, h2⟩ := hW.count (k := 3) (by omega) n
    simp only [Int.natCast_add] at h1 h2
    exact ⟨h1.on ((RowKit.Below.refl _ _).drew), h2.trans (onlyE_drew _ _), hW.cn (k := 3) (by omega), hW.fr 9⟩
  have hUn : usedL (g.l.drop n) ≤ usedL g.l := used_drop_le _ _
  have hdrop0 : usedL (g.l.drop 0) = usedL g.l := by rw [List.drop_zero]
  clear h hL hmore hstop
  obtain ⟨pf, rfl, -⟩ := hF
  unfold frCells
  generalize hwq : decide (F.id = g.wanted) = wq at he
  have HWQ := Lib.hid hwq
  generalize hUU : usedL g.l = U at *
  generalize hc9 : g.counts.getD 3 0 = c9 at hcnt HC
  clear hwq hUU hc9
  have ew : IntKind.i64.wrap (F.size : Int) = (F.size : Int) := by rw [IntKind.wrap_i64] <;> omega
  generalize F.size = sz at *
  go_enter Tryd.func41, Tryd.ntmps41
  go_wp2_with fail
  generalize hw0 : World.alloc w _ = w0
  obtain ⟨hs0, hG, hcc⟩ := box1 w w0 _ _ hw0
  have x0 := later_cell (w0 := w0) (b := w.heap.size) (by omega) (hcc 0 _ rfl)
  have x1 := later_cell (w0 := w0) (b := w.heap.size) (by omega) (hcc 1 _ rfl)
  have x2 := later_cell (w0 := w0) (b := w.heap.size) (by omega) (hcc 2 _ rfl)
  have x3 := later_cell (w0 := w0) (b := w.heap.size) (by omega) (hcc 3 _ rfl)
  have x4 := later_cell (w0 := w0) (b := w.heap.size) (by omega) (hcc 4 _ rfl)
  have x5 := later_cell (w0 := w0) (b := w.heap.size) (by omega) (hcc 5 _ rfl)
  have x6 := later_cell (w0 := w0) (b := w.heap.size) (by omega) (hcc 6 _ rfl)
  have x7 := later_cell (w0 := w0) (b := w.heap.size) (by omega) (hcc 7 _ rfl)
  have x8 := later_cell (w0 := w0) (b := w.heap.size) (by omega) (hcc 8 _ rfl)
  have x9 := later_cell (w0 := w0) (b := w.heap.size) (by omega) (hcc 9 _ rfl)
  have x10 := later_cell (w0 := w0) (b := w.heap.size) (by omega) (hcc 10 _ rfl)
  have x11 := later_cell (w0 := w0) (b := w.heap.size) (by omega) (hcc 11 _ rfl)
  have x12 := later_cell (w0 := w0) (b := w.heap.size) (by omega) (hcc 12 _ rfl)
  have x13 := later_cell (w0 := w0) (b := w.heap.size) (by omega) (hcc 13 _ rfl)
  have x14 := later_cell (w0 := w0) (b := w.heap.size) (by omega) (hcc 14 _ rfl)
  have x15 := later_cell (w0 := w0) (b := w.heap.size) (by omega) (hcc 15 _ rfl)
  have y3 := later_cell (w0 := w0) (b := gp) (by omega) ((hG.below.cell (p := ⟨gp, _, none⟩) hlt).trans c3)
  have hb0 := hG.below
  have HU1 := Lib.hid (fun p : Later w0 => HU.out p.w (hb0.trans (p.hb.mono hb0.size)))
  have f3 := Lib.hid (hcc 3 _ rfl)
  have f4 := Lib.hid (hcc 4 _ rfl)
  have f8 := Lib.hid (hcc 8 _ rfl)
  have g0 := Lib.hid ((hG.below.cell (p := ⟨gp, 0, none⟩) hlt).trans c0)
  have g4 := Lib.hid ((hG.below.cell (p := ⟨gp, 4, none⟩) hlt).trans c4)
  have g5 := Lib.hid ((hG.below.cell (p := ⟨gp, 5, none⟩) hlt).trans c5)
  have hgp0 : gp < w0.heap.size := by omega
  have hw00 : w.heap.size < w0.heap.size := by omega
  clear hcc hw0 hG c0 c3 c4 c5 HU
  clear x0 x1 x2 x3 x4 x5 x6 x7 x9 x10 x11 x12 x13 x14 x15
  refine wp_region_later mixed (by kernel_rfl) ?_
  repeat (go_big_quiet_step ((go_at_call 14; exact later_of (HU1.out _))))
  refine wpQuiet_nil ?_
  intro _ hw'
  obtain ⟨p, rfl⟩ := hw'
  have hbp : RowKit.Below w.heap.size w p.w := hb0.trans (p.hb.mono hb0.size)
  have HB := Lib.hid p.hb
  clear y3 x8 HU1 hbp
  generalize p.w = W at HB ⊢
  clear p
  go_wp2_with fail
  go_loopw [6, 7] (fun s6 s7 wr => ∃ (k : Nat) (lf : Int), k ≤ n ∧ s6 = .int .i64 lf ∧ lf = (g.room : Int) - (usedL (g.l.drop k) : Int) ∧ s7 = .int .i64 (k : Int) ∧ Hid (RowKit.Below w0.heap.size w0 wr)) (fun _ s7 _ => n - (intOf s7).toNat)
  case atStart => exact ⟨0, _, Nat.zero_le _, rfl, by rw [hdrop0], rfl, HB⟩
  case round =>
    clear HB W
    obtain ⟨k, lf, hk, rfl, hlf, rfl, HB⟩ := hrel
    have hb := HB.out
    have r3 := later_cell (w0 := wr) (b := w.heap.size) (Nat.lt_of_lt_of_le hw00 hb.size) ((hb.cell (p := ⟨w.heap.size, 3, none⟩) hw00).trans f3.out)
    have r4 := later_cell (w0 := wr) (b := w.heap.size) (Nat.lt_of_lt_of_le hw00 hb.size) ((hb.cell (p := ⟨w.heap.size, 4, none⟩) hw00).trans f4.out)
    have q0 := later_cell (w0 := wr) (b := gp) (Nat.lt_of_lt_of_le hgp0 hb.size) ((hb.cell (p := ⟨gp, 0, none⟩) hgp0).trans g0.out)
    have q4 := later_cell (w0 := wr) (b := gp) (Nat.lt_of_lt_of_le hgp0 hb.size) ((hb.cell (p := ⟨gp, 4, none⟩) hgp0).trans g4.out)
    have q5 := later_cell (w0 := wr) (b := gp) (Nat.lt_of_lt_of_le hgp0 hb.size) ((hb.cell (p := ⟨gp, 5, none⟩) hgp0).trans g5.out)
    have HBW := Lib.hid (hb0.trans (hb.mono hb0.size))
    have HBR := Lib.hid hb0
    clear hb0 hb
    have hb0 := RowKit.Below.refl wr.heap.size wr
    by_cases hkn : k < n
    · obtain ⟨m1, m2⟩ := HM.out k hkn
      obtain ⟨e1, e2⟩ := HUD.out k (by omega)
      have hd : decide (lf < (sz : Int)) = true := decide_eq_true (by omega)
      have hwt1 : wq = true := by rw [← HWQ.out]; exact decide_eq_true m2
      subst hwt1
      have hlf0 : 0 ≤ lf := by omega
      have hsum : lf + (L[k].x.size : Int) = (g.room : Int) - (usedL (g.l.drop (k + 1)) : Int) := by omega
      have hle : lf + (L[k].x.size : Int) ≤ 9223372036854775807 := by omega
      have HS := Lib.hid hsum
      clear m1 m2 e1 e2 hsum hlf
      go_wp2_with fail
      refine wp_region_later mixed (by kernel_rfl) ?_
      repeat (go_big_quiet_step (fail))
      refine wpQuiet_nil ?_
      intro _ hw'
      obtain ⟨p, rfl⟩ := hw'
      have hbp : RowKit.Below wr.heap.size wr p.w := hb0.trans (p.hb.mono hb0.size)
      obtain ⟨b, off, rfl, hbk, ca, cb⟩ := HP.out p.w (HBW.out.trans (hbp.mono HBW.out.size)) k (by omega)
      have z0 := q0 p
      have HBP := Lib.hid (HB.out.trans (hbp.mono HB.out.size))
      clear q0 q4 q5 r3 r4 hbp hb0 HB HBW
      generalize L[k].p = lp at ca cb
      generalize L[k].b = lb at cb
      generalize L[k].x.size = ls at *
      generalize p.w = W2 at *
      clear p
      go_wp2
      go_roundw
      case rel => exact ⟨k + 1, _, by omega, by go_num, HS.out, by go_num, HBP⟩
      case measure => simp [intOf]; omega
    · obtain rfl : k = n := by omega
      have hfin : decide (usedL (g.l.drop k) + sz ≤ g.room) = decide ((sz : Int) ≤ lf) := by
        rw [Bool.eq_iff_iff, decide_eq_true_eq, decide_eq_true_eq]; omega
      have HFIN := Lib.hid hfin
      have hlf0 : 0 ≤ lf := by omega
      have hst := HST.out
      have key : (decide (lf < (sz : Int)) = true ∧ wq = false) ∨ decide (lf < (sz : Int)) = false := by
        by_cases hz : lf < (sz : Int)
        · left
          refine ⟨decide_eq_true hz, ?_⟩
          rcases hst with hst | hst
          · exact absurd (show g.room < usedL (g.l.drop k) + sz by omega) hst
          · rw [← HWQ.out]; exact decide_eq_false hst
        · right; exact decide_eq_false hz
      have h9 : (c9 : Int) + (k : Int) ≤ 9223372036854775807 := by omega
      clear hst hlf hfin HM HUD HST HWQ HP f3 f4 f8 g0 g4 g5 hkn hk
      have HR : Hid (∀ (p : Later wr), (RowKit.Below w.heap.size w p.w)) := fun p => HBW.out.trans (p.hb.mono HBW.out.size)
      clear HBW HB HBR
      rcases key with ⟨hd, rfl⟩ | hd
      all_goals
        go_wp2_with fail
        refine wp_region_later mixed (by kernel_rfl) ?_
        repeat (go_big_quiet_step (fail))
        refine wpQuiet_nil ?_
        intro _ hw'
        obtain ⟨p, rfl⟩ := hw'
        have hbp : RowKit.Below wr.heap.size wr p.w := hb0.trans (p.hb.mono hb0.size)
        have z0 := q0 p
        have HBP := Lib.hid (HR.out p)
        clear q0 q4 q5 r3 r4 hbp hb0 HR
        generalize p.w = W2 at *
        clear p hd
        go_wp2_with fail
        refine (HD.out W2 HBP.out).mono ?_
        rintro e w5 ⟨rfl, hgo, hc1, hf1⟩
        obtain ⟨hg1, hg2, hg3, hg4⟩ := HC.out _ _ hgo.1
        have HG1 := Lib.hid hg1
        have HG2 := Lib.hid (hgo.2.trans hg2)
        clear HD HC hgo hg1 hg2
        go_wp2_with fail
        go_region
        go_wp2
        go_ret
        exact ⟨_, by rw [HFIN.out]; rfl, HG1.out, HG2.out, ownBlock_n _ _ _ _⟩

/-- .. if there is none. -/
theorem makeRoom_no (h : GtAt w base gp T L g D) (hwt : g.weight ≤ 1000000) (F : Fr) (cs : Array Value) (hF : FrL w F cs) (hFs : F.size < 4294967296) (h1 : g.room < usedL g.l + F.size) (h2 : F.id ≠ g.wanted) :
    Calls Tryd.prog 41 #[.pointer (some ⟨gp, 0, none⟩), .agg cs] w fun e w' => ∃ T', e = .returned (.bool false) ∧ GtAt w' base gp T' L g D ∧ OnlyE w w' D ∧ T'.ownBlock = T.ownBlock := by
  have h0 := makeRoom_core h hwt F cs hF hFs 0 (Nat.zero_le _) (fun k hk => absurd hk (Nat.not_lt_zero _)) (.inr h2)
  rw [List.drop_zero, List.drop_zero, bump_zero g.counts 3 (by rw [h.ok.six]; decide), decide_eq_false (show ¬ usedL g.l + F.size ≤ g.room by omega)] at h0
  exact h0
/-- .. if there is some, or the id is wanted. -/
theorem makeRoom_yes (h : GtAt w base gp T L g D) (hwt : g.weight ≤ 1000000) (F : Fr) (cs : Array Value) (hF : FrL w F cs) (hFs : F.size ≤ g.room) (hF2 : F.size < 4294967296) (h1 : ¬ (g.room < usedL g.l + F.size ∧ F.id ≠ g.wanted)) :
    Calls Tryd.prog 41 #[.pointer (some ⟨gp, 0, none⟩), .agg cs] w fun e w' => ∃ T', e = .returned (.bool true) ∧ GtAt w' base gp T' (L.drop (evict g.room F.size g.l).2) { g with l := (evict g.room F.size g.l).1, counts := bump g.counts 3 (evict g.room F.size g.l).2 } D ∧ OnlyE w w' D ∧ T'.ownBlock = T.ownBlock := by
  have hr := evict_room hFs g.l
  have h0 := makeRoom_core h hwt F cs hF hF2 (evict g.room F.size g.l).2 (by rw [← h.len]; exact evict_le _ _ _) (fun k hk => ?_) (.inl ?_)
  · rw [← evict_drop, decide_eq_true hr] at h0
    exact h0
  · refine ⟨evict_more _ _ _ k hk, ?_⟩
    rcases Decidable.em (F.id = g.wanted) with e | e
    · exact e
    · exfalso
      rw [evict_none (show usedL g.l + F.size ≤ g.room by
        rcases Nat.lt_or_ge g.room (usedL g.l + F.size) with hh | hh
        · exact absurd ⟨hh, e⟩ h1
        · exact hh)] at hk
      exact absurd hk (Nat.not_lt_zero _)
  · rw [← evict_drop]
    omega
end

end Go.Proofs.YthkongnjokmmfaaDoor
