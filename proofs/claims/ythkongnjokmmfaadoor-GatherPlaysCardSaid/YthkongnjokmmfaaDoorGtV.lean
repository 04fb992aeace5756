/- Stage 13: Drop. -/
import Derived.Test.YthkongnjokmmfaaDoorGtU
set_option maxRecDepth 20000
namespace Go.Proofs.YthkongnjokmmfaaDoor
open Go.RowKit Go.Sort

theorem map_erase : ∀ (L : List Pz) (i : Nat), (L.eraseIdx i).map Pz.x = (L.map Pz.x).eraseIdx i
  | [], _ => rfl
  | _ :: _, 0 => rfl
  | z :: r, i + 1 => by
    rw [List.eraseIdx_cons_succ, List.map_cons, List.map_cons, List.eraseIdx_cons_succ, map_erase r i]
theorem ownBlock_n (A : Option Addr) (n m c : Nat) : (Value.slice A n c).ownBlock = (Value.slice A m c).ownBlock := by
  rcases A with _ | ⟨b, o, _ | p⟩ <;> rfl
theorem filter_erase : ∀ (L : List Pz) (x : Id), L.Pairwise (fun y z => y.x.id ≠ z.x.id) → (L.filter fun z => !decide (z.x.id ∈ [x])) = L.eraseIdx (idxP (L.map Pz.x) x)
  | [], _, _ => rfl
  | z :: r, x, h => by
    have h2 := List.pairwise_cons.1 h
    rw [List.map_cons, idxP]
    by_cases e : z.x.id = x
    · rw [if_pos e, List.filter_cons, if_neg (by simp [e]), List.eraseIdx_cons_zero]
      refine List.filter_eq_self.2 fun y hy => ?_
      have := h2.1 y hy
      simp only [List.mem_cons, List.not_mem_nil, or_false, Bool.not_eq_true', decide_eq_false_iff_not]
      intro e'
      exact this (e.trans e'.symm)
    · rw [if_neg e, List.filter_cons, if_pos (by simp [e]), List.eraseIdx_cons_succ, filter_erase r x h2.2]

section
variable {w w' : World} {base gp : Nat} {T : Value} {L : List Pz} {g : Gm} {D : Nat → Prop}
theorem GtAt.ids (h : GtAt w base gp T L g D) : L.Pairwise (fun y z => y.x.id ≠ z.x.id) := by
  have := h.ok.ids
  rw [h.gl, List.pairwise_map] at this
  exact this

theorem GtAt.gd (h : GtAt w base gp T L g D) (k : Nat) (hk : T.ownBlock = some k ∨ k = gp) : D k := hk.elim (h.dt k) fun e => e ▸ h.dg
/-- Some parts have gone from the row. -/
theorem GtAt.fewer {w1 : World} {T' : Value} {L' : List Pz} (h : GtAt w base gp T L g D) (ho : OnlyE w w1 (fun k => T.ownBlock = some k)) (hs : L'.Sublist L) (hr : w1.ownsRow base 75 1 T' L'.length (flat encPz L')) (hT : T'.ownBlock = T.ownBlock) (hok : Gm.Sok { g with l := L'.map Pz.x }) :
    GtAt (w1.setCell ⟨gp, 0, none⟩ T') base gp T' L' { g with l := L'.map Pz.x } D ∧ OnlyE w (w1.setCell ⟨gp, 0, none⟩ T') (fun k => T.ownBlock = some k ∨ k = gp) ∧ w1.cell? ⟨gp, 0, none⟩ = some T ∧ w1.frozen? ⟨gp, 0, none⟩ = false := by
  have hbox : w1.heap[gp]? = some (.cells (gCells T g) 64 (0, 0)) := (ho.same gp h.lt h.ne).trans h.box
  have hO1 : OnlyE w1 (w1.setCell ⟨gp, 0, none⟩ T') (fun k => k = gp) := onlyE_set (D := fun k => k = gp) rfl 0 _
  have hO : OnlyE w (w1.setCell ⟨gp, 0, none⟩ T') (fun k => T.ownBlock = some k ∨ k = gp) := (ho.mono fun k hk => .inl hk).trans (hO1.mono fun k hk => .inr hk)
  refine ⟨?_, hO, cell_of_row w1 gp 0 _ _ _ hbox, frozen_of_row w1 gp 0 _ _ hbox⟩
  exact
  { box := heap_setCell_same w1 gp 0 _ _ _ hbox
    row := own_only hr hO1 fun b hb e => by
      subst e
      rw [hT] at hb
      exact h.ne hb
    gl := rfl
    parts := fun z hz => (h.parts z (hs.subset hz)).kept hO fun b hb => by
      have := h.da z (hs.subset hz) b hb
      rintro (e | e)
      · exact this.2.2 e
      · exact this.2.1 e
    apart := h.apart.sublist hs
    dg := h.dg
    dt := fun b hb => h.dt b (hT ▸ hb)
    da := fun z hz b hb => by rw [hT]; exact h.da z (hs.subset hz) b hb
    din := fun b hb => ⟨(h.din b hb).1, Nat.lt_of_lt_of_le (h.din b hb).2 hO.size⟩
    ne := by rw [hT]; exact h.ne
    ok := hok
    rm := h.rm }

theorem GtAt.drop_g (h : GtAt w base gp T L g D) (x : Id) : (g.drop x).1 = { g with l := (L.eraseIdx (idxP g.l x)).map Pz.x } ∧ (g.drop x).2 + (L.eraseIdx (idxP g.l x)).length = L.length := by
  have e : (L.eraseIdx (idxP g.l x)).map Pz.x = g.l.eraseIdx (idxP g.l x) := by rw [h.gl, map_erase]
  rw [e]
  unfold Gm.drop
  have hl := h.len
  by_cases hi : idxP g.l x < g.l.length
  · rw [if_pos hi]
    refine ⟨rfl, ?_⟩
    show 1 + _ = _
    rw [List.length_eraseIdx, if_pos (by omega)]
    omega
  · rw [if_neg hi]
    rw [List.eraseIdx_of_length_le (by omega), List.eraseIdx_of_length_le (by omega)]
    exact ⟨rfl, by show 0 + _ = _; omega⟩

set_option maxHeartbeats 1600000 in
theorem drop_any (h : GtAt w base gp T L g D) (hwt : L.length ≤ 1000000) (A : Option Addr) (c : Nat) (x : Id) (hA : LiesX w D A (flat encId [x])) :
    Calls Tryd.prog 13 #[.pointer (some ⟨gp, 0, none⟩), .slice A 1 c] w fun e w' => ∃ T', e = .returned (.int .i64 ((g.drop x).2 : Int)) ∧ GtAt w' base gp T' (L.eraseIdx (idxP g.l x)) (g.drop x).1 D ∧ OnlyE w w' (fun k => T.ownBlock = some k ∨ k = gp) ∧ T'.ownBlock = T.ownBlock := by
  obtain ⟨A0, c0, rfl, hn, hc, -, hL⟩ := h.slice
  have eg : ∀ args w, (callFunc 31 args).run Tryd.prog w = .ok (.enter 31 args) w := enters_of Tryd.func31 (by kernel_rfl) rfl
  have hfe := filter_erase L x h.ids
  rw [← h.gl] at hfe
  have HC : Hid (∀ w0, RowKit.Below w.heap.size w w0 → w.heap.size < w0.heap.size → w0.cell? ⟨w.heap.size, 0, none⟩ = some (.slice A 1 c) →
      Calls Tryd.prog 30 #[.slice A0 L.length c0, .func (.func 31) #[] #[.pointer (some ⟨w.heap.size, 0, none⟩)]] w0 fun e w' => ∃ n', e = .returned (.slice A0 n' c0) ∧ n' = (L.eraseIdx (idxP g.l x)).length ∧
        w'.ownsRow base 75 1 (.slice A0 n' c0) n' (flat encPz (L.eraseIdx (idxP g.l x))) ∧ OnlyE w0 w' (fun k => (Value.slice A0 L.length c0).ownBlock = some k)) := fun w0 hb hs h0 => by
    have hg0 := h.on hb
    have hlo := hg0.lo
    have hA0 := hA.kept (OnlyE.of_below (D := D) hb)
    have := deletePz_any (fun z => decide (z.x.id ∈ [x])) _ #[.pointer (some ⟨w.heap.size, 0, none⟩)] eg A0 L.length c0 base L w0 (fun W hW z hz => by
      have hrow : ¬ (Value.slice A0 L.length c0).ownBlock = some w.heap.size := fun e => by have := (h.din _ (h.dt _ e)).2; omega
      exact dropF_any ((hg0.parts z hz).kept hW fun b hb => (hg0.da z hz b hb).2.2) (Nat.lt_of_lt_of_le hs hW.size) ((hW.cell hs hrow).trans h0) rfl (by omega) (((hA0.kept (hW.mono fun k hk => h.dt k hk))).lies)) rfl hwt (by have := h.lo; omega) hg0.row
    rw [hfe] at this
    exact this
  have HF : Hid (∀ w0 w1 n', RowKit.Below w.heap.size w w0 → n' = (L.eraseIdx (idxP g.l x)).length → w1.ownsRow base 75 1 (.slice A0 n' c0) n' (flat encPz (L.eraseIdx (idxP g.l x))) → OnlyE w0 w1 (fun k => (Value.slice A0 L.length c0).ownBlock = some k) →
      (GtAt (w1.setCell ⟨gp, 0, none⟩ (.slice A0 n' c0)) base gp (.slice A0 n' c0) (L.eraseIdx (idxP g.l x)) (g.drop x).1 D ∧ OnlyE w (w1.setCell ⟨gp, 0, none⟩ (.slice A0 n' c0)) (fun k => (Value.slice A0 L.length c0).ownBlock = some k ∨ k = gp)) ∧ w1.cell? ⟨gp, 0, none⟩ = some (.slice A0 L.length c0) ∧ w1.frozen? ⟨gp, 0, none⟩ = false) := fun w0 w1 n' hb hn' hr ho => by
    have hok := h.ok.drop x
    rw [(h.drop_g x).1] at hok ⊢
    subst hn'
    obtain ⟨h1, h2, h3, h4⟩ := (h.on hb).fewer ho (List.eraseIdx_sublist _ _) hr (ownBlock_n _ _ _ _) hok
    exact ⟨⟨h1, (OnlyE.of_below hb).trans h2⟩, h3, h4⟩
  have hcc0 := h.c0
  have hlt := h.lt
  have hcnt := (h.drop_g x).2
  have hcm : L.length ≤ 9223372036854775807 := by omega
  clear h hL eg hA hfe
  generalize (g.drop x).2 = dn at *
  generalize (g.drop x).1 = g' at *
  generalize L.eraseIdx (idxP g.l x) = L' at *
  go_enter Tryd.func13, Tryd.ntmps13
  go_wp2_with fail
  generalize hw0 : World.alloc w _ = w0
  obtain ⟨hs0, hG, hcc⟩ := box1 w w0 _ _ hw0
  have hb0 : RowKit.Below w.heap.size w w0 := hG.below
  have y0 : w0.cell? ⟨gp, 0, none⟩ = some (.slice A0 L.length c0) := (hb0.cell (p := ⟨gp, 0, none⟩) hlt).trans hcc0
  have HC1 := Lib.hid (HC.out w0 hb0 (by omega) (hcc 0 _ rfl))
  clear HC hcc hw0 hG hcc0
  go_wp2_with fail
  refine HC1.out.mono ?_
  rintro e w1 ⟨n', rfl, hn', hr, ho⟩
  obtain ⟨hgo, hc1, hf1⟩ := HF.out w0 w1 n' hb0 hn' hr ho
  subst hn'
  have HGO := Lib.hid hgo
  have hcnt2 : (L.length : Int) - (L'.length : Int) = (dn : Int) := by omega
  clear HC1 HF hr ho hgo y0 hb0
  go_wp2
  go_ret
  refine ⟨_, ?_, HGO.out.1, HGO.out.2, ownBlock_n _ _ _ _⟩
  rfl
end

end Go.Proofs.YthkongnjokmmfaaDoor
