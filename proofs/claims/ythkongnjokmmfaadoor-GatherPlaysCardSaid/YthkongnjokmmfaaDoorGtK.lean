/- Stage 13: Put, Want, IDs. -/
import Derived.Test.YthkongnjokmmfaaDoorGtZo
import Derived.Test.YthkongnjokmmfaaDoorGtZn
set_option maxRecDepth 20000
namespace Go.Proofs.YthkongnjokmmfaaDoor
open Go.RowKit Go.Sort

section
variable {w : World} {base gp : Nat} {T : Value} {L : List Pz} {g : Gm} {D : Nat → Prop}
/-- A chunk comes: whatever it is. -/
theorem come_any (h : GtAt w base gp T L g D) (hok : g.Ok) (hwt : g.weight ≤ 100000) (F : Fr) (cs : Array Value) (hF : FrX w D F cs) (hw : F.Wf) :
    Calls Tryd.prog 29 #[.pointer (some ⟨gp, 0, none⟩), .agg cs] w (Came w base gp D (g.come (mayB F.id) F).1 (g.come (mayB F.id) F).2.1 (g.come (mayB F.id) F).2.2) := by
  unfold Gm.come
  by_cases hr : (mayB F.id && rightZ F (g.chunk : Int) (g.most : Int)) = true
  · rw [if_pos hr]
    have hrf := right_facts hok.chunk1 hok.chunk2 hok.most (Bool.and_eq_true_iff.1 hr).2
    by_cases hi : idxP g.l F.id < g.l.length
    · rw [dif_pos hi]
      have hi' : idxP g.l F.id < L.length := by rw [← h.len]; exact hi
      have hx := h.at_ hi'
      have hid := idxP_at g.l F.id hi
      have hp := hok.parts _ (List.getElem_mem hi)
      rw [hx] at hid hp ⊢
      by_cases hs : L[idxP g.l F.id].x.size = F.size
      · rw [if_neg (by simpa using hs)]
        have hat : F.at_ < L[idxP g.l F.id].x.has.length := by rw [hp.has, hs]; exact hrf.2.2.1
        by_cases hh : L[idxP g.l F.id].x.has.getD F.at_ false = true
        · rw [if_pos hh]
          exact come_old h hwt F cs hF hw hr _ hi' rfl hs hat hh
        · rw [if_neg hh]
          exact come_in_old h hwt F cs hF hw hr _ hi' rfl hs hat (by simpa using hh) (by rw [hs]; exact hrf.2.2.2) hid
      · rw [if_pos hs]
        exact come_c h hwt F cs hF hw hr _ hi' rfl hs
    · rw [dif_neg hi]
      by_cases hl : g.room < usedL g.l + F.size ∧ F.id ≠ g.wanted
      · rw [if_pos hl]
        exact come_lost h hwt F cs hF hw hr hi hl.1 hl.2
      · rw [if_neg hl]
        exact come_in_new h hwt F cs hF hw hr hi hl hrf _ rfl (hok.begun (Bool.and_eq_true_iff.1 hr).2 hi _).sok
  · rw [if_neg hr]
    exact come_a h hwt F cs hF hw (by simpa using hr)

theorem Told.kept {w w' : World} {D : Nat → Prop} {v : Value} {d : List UInt8} (h : Told w gp D v d) (ho : OnlyE w w' (fun k => k = gp)) : Told w' gp D v d := by
  obtain ⟨A, n, c, rfl, h1, h2, h3, h4⟩ := h
  exact ⟨A, n, c, rfl, h1, h2, h3, h4.kept (ho.mono fun k hk => .inl hk)⟩

set_option maxHeartbeats 3200000 in
theorem put_g (h : GtAt w base gp T L g D) (hok : g.Ok) (hwt : g.weight ≤ 100000) (F : Fr) (cs : Array Value) (hF : FrX w D F cs) (hw : F.Wf) :
    Calls Tryd.prog 10 #[.pointer (some ⟨gp, 0, none⟩), .agg cs] w (Came w base gp D (g.put (mayB F.id) F).1 (g.put (mayB F.id) F).2.1 (g.put (mayB F.id) F).2.2) := by
  rw [put_counted]
  have hwt2 : ((g.come (mayB F.id) F).1.counts.getD (g.come (mayB F.id) F).2.2 0) ≤ 1000000 := by
    have h1 := put_weight (g := g) (mayB F.id) F hok.six
    rw [put_counted] at h1
    have h2 := getD_le_sum (g.come (mayB F.id) F).1.counts (g.come (mayB F.id) F).2.2
    have h3 : (bump (g.come (mayB F.id) F).1.counts (g.come (mayB F.id) F).2.2 1).sum + (g.come (mayB F.id) F).1.l.length ≤ g.weight + 2 := h1
    by_cases h6 : (g.come (mayB F.id) F).2.2 < (g.come (mayB F.id) F).1.counts.length
    · rw [bump_sum _ _ _ h6] at h3; omega
    · rw [List.getD_eq_getElem?_getD, List.getElem?_eq_none (by omega)]; exact Nat.zero_le _
  obtain ⟨m1, m2⟩ := come_made (g := g) (mayB F.id) F
  have HC : Hid (∀ W, RowKit.Below w.heap.size w W → Calls Tryd.prog 29 #[.pointer (some ⟨gp, 0, none⟩), .agg cs] W (Came W base gp D (g.come (mayB F.id) F).1 (g.come (mayB F.id) F).2.1 (g.come (mayB F.id) F).2.2)) := fun W hW => come_any (h.on hW) hok hwt F cs (hF.kept (OnlyE.of_below hW)) hw
  unfold Gm.counted
  generalize (g.come (mayB F.id) F).1 = g1 at *
  generalize (g.come (mayB F.id) F).2.1 = d1 at *
  generalize (g.come (mayB F.id) F).2.2 = mk at *
  have hnD : ¬ D w.heap.size := fun e => by have := (h.din _ e).2; omega
  clear h hok
  obtain ⟨pf, rfl, -⟩ := hF
  unfold frCells at HC ⊢
  go_enter Tryd.func10, Tryd.ntmps10
  go_wp2_with fail
  generalize hw0 : World.alloc w _ = w0
  obtain ⟨hs0, hG, hcc⟩ := box1 w w0 _ _ hw0
  have hb0 : RowKit.Below w.heap.size w w0 := hG.below
  refine (HC.out w0 hb0).mono ?_
  rintro e w1 ⟨T1, L1, D1, vp, rfl, hg1, ho1, hd1, hd2, ht⟩
  obtain ⟨hc1, hc2⟩ := hg1.count (k := mk) (by omega) 1
  have cn := hg1.cn (k := mk) (by omega)
  have hfr := hg1.fr (6 + mk)
  have hOc : OnlyE w1 (w1.setCell ⟨gp, 6 + mk, none⟩ (.int .i64 ((g1.counts.getD mk 0 + 1 : Nat) : Int))) (fun b => b = gp) := onlyE_set (D := fun b => b = gp) rfl _ _
  have HT := Lib.hid ((ht.kept hOc).kept (onlyE_drew _ _))
  have HG1 := Lib.hid (hc1.on ((RowKit.Below.refl _ _).drew))
  have HO1 : Hid (OnlyE w (w1.setCell ⟨gp, 6 + mk, none⟩ (.int .i64 ((g1.counts.getD mk 0 + 1 : Nat) : Int))).drew D) := ⟨Nat.le_trans hb0.size (Nat.le_trans ho1.size (Nat.le_trans hOc.size (Nat.le_refl _))), fun i hi hn => ((hc2.same i (Nat.lt_of_lt_of_le hi (Nat.le_trans hb0.size ho1.size)) (fun e => (hd1 i e).elim hn fun e => by omega)).trans (ho1.same i (by omega) hn)).trans (hb0.block i hi), ((hb0.mono (Nat.zero_le _)).trans ho1.3).trans (hc2.3.trans (RowKit.Below.refl _ _).drew)⟩
  have HD1 : Hid ((∀ k, D1 k → D k ∨ w.heap.size ≤ k) ∧ (∀ k, D k → D1 k)) := ⟨fun k hk => (hd1 k hk).imp id fun e => by omega, hd2⟩
  simp only [Int.natCast_add] at HT HG1 HO1
  generalize hcn : g1.counts.getD mk 0 = cv at *
  have HCV := Lib.hid hcn
  have hmk : (mk : Int) < 6 := by omega
  have hcv : (cv : Int) + 1 ≤ 9223372036854775807 := by omega
  clear hc1 hc2 hg1 ho1 hd1 hd2 ht hOc hcc hw0 hG HC hcn
  go_wp2_with fail
  go_region
  go_wp2
  go_ret2
  exact ⟨T1, L1, D1, vp, rfl, HG1.out, HO1.out, HD1.out.1, HD1.out.2, HT.out⟩

theorem want_g (h : GtAt w base gp T L g D) (x : Id) : Calls Tryd.prog 11 #[.pointer (some ⟨gp, 0, none⟩), valId x] w fun e w' => e = .returned (.tuple #[]) ∧ GtAt w' base gp T L { g with wanted := x } D ∧ OnlyE w w' D := by
  have HG : Hid (∀ w0, RowKit.Below w.heap.size w w0 → (GtAt ((w0.setCell ⟨gp, 4, none⟩ (.int .u8 (x.f : Int))).setCell ⟨gp, 5, none⟩ (.int .u64 (x.s : Int))) base gp T L { g with wanted := x } D ∧ OnlyE w ((w0.setCell ⟨gp, 4, none⟩ (.int .u8 (x.f : Int))).setCell ⟨gp, 5, none⟩ (.int .u64 (x.s : Int))) D) ∧ w0.cell? ⟨gp, 4, none⟩ = some (.int .u8 (g.wanted.f : Int)) ∧ w0.cell? ⟨gp, 5, none⟩ = some (.int .u64 (g.wanted.s : Int)) ∧ w0.frozen? ⟨gp, 4, none⟩ = false ∧ w0.frozen? ⟨gp, 5, none⟩ = false) := fun w0 hb => by
    have h0 := h.on hb
    have hO : OnlyE w0 ((w0.setCell ⟨gp, 4, none⟩ (.int .u8 (x.f : Int))).setCell ⟨gp, 5, none⟩ (.int .u64 (x.s : Int))) (fun k => k = gp) := (onlyE_set (D := fun k => k = gp) rfl 4 _).trans (onlyE_set (D := fun k => k = gp) rfl 5 _)
    refine ⟨⟨?_, (OnlyE.of_below hb).trans (hO.mono fun k hk => hk ▸ h.dg)⟩, h0.c4, h0.c5, h0.fr 4, h0.fr 5⟩
    exact
    { box := heap_setCell_same _ gp 5 _ _ _ (heap_setCell_same w0 gp 4 _ _ _ h0.box)
      row := own_only h0.row hO fun b hb e => h0.ne (e ▸ hb)
      gl := h0.gl
      parts := fun z hz => (h0.parts z hz).kept hO fun b hb => (h0.da z hz b hb).2.1
      apart := h0.apart, dg := h0.dg, dt := h0.dt, da := h0.da
      din := fun b hb => ⟨(h0.din b hb).1, Nat.lt_of_lt_of_le (h0.din b hb).2 hO.size⟩
      ne := h0.ne
      ok := h0.ok.want x
      rm := h0.rm }
  have hlt := h.lt
  have c4 := h.c4
  have c5 := h.c5
  have g4 := h.fr 4
  have g5 := h.fr 5
  unfold valId
  clear h
  go_enter Tryd.func11, Tryd.ntmps11
  have HGO := Lib.hid (HG.out w (RowKit.Below.refl _ _)).1
  clear HG
  go_wp2
  go_end0
  exact ⟨rfl, HGO.out.1.on ((RowKit.Below.refl _ _).alloc (Nat.le_refl _) _), HGO.out.2.trans (OnlyE.of_below ((RowKit.Below.refl _ _).alloc (Nat.le_refl _) _))⟩
end

end Go.Proofs.YthkongnjokmmfaaDoor
