/- Stage 13: a part begins. -/
import Derived.Test.YthkongnjokmmfaaDoorGtW
import Derived.Deep.OwnRows
set_option maxRecDepth 20000
namespace Go.Proofs.YthkongnjokmmfaaDoor
open Go.RowKit Go.Sort

/-- append(parts, one). -/
theorem app_pz {W : World} {base n B m c : Nat} {v : Value} {xs : List Value} {A : Option Addr} {ys : List Pz} (hown : W.ownsRow base 75 1 v n xs) (hl : ys.length = m) (hL : Lies W B A (flat encPz ys)) (hb : base ≤ W.heap.size) (hn : n + m ≤ 10000000) :
    ∃ A' c' W', (Builtin.append_ #[62, 62] 62 #[v, .slice A m c]).run Tryd.prog W = .ok (.slice A' (n + m) c') W' ∧ W'.ownsRow base 75 1 (.slice A' (n + m) c') (n + m) (xs ++ flat encPz ys) ∧
      W.grownBy W' v.ownBlock ∧ ((Value.slice A' (n + m) c').ownBlock = v.ownBlock ∨ (Value.slice A' (n + m) c').ownBlock = some W.heap.size) := by
  obtain ⟨i0, hi, hz0, hz1, hz2⟩ := info_parts Tryd.infoPz
  obtain ⟨v', W', hrun, ho, hg, hk⟩ := run_append_lstK (P := Tryd.prog) base 1 (by decide) 62 62 75 i0 (.pointer none) 8 Tryd.underlying62 hi hz0 hz1 hz2 rfl v n xs hown B A m c (flat encPz ys)
    (by rw [flat_length encPz_len, hl]) hL (flat_one encPz_one _) (by unfold maxLen; omega) (by omega) hb
  obtain ⟨A', c', rfl, h1, h2⟩ := own_sliceK ho
  exact ⟨A', c', W', hrun, ho, hg, hk⟩

section
variable {w w' : World} {base gp : Nat} {T : Value} {L : List Pz} {g : Gm} {D : Nat → Prop}

/-- One more part in the row. -/
theorem GtAt.push {w1 : World} (h : GtAt w base gp T L g D) (hb : RowKit.Below w.heap.size w w1) (z : Pz) (hz : PartAt w1 g.chunk z) (hnew : ∀ b, z.has b → w.heap.size ≤ b) (hok : Gm.Sok { g with l := g.l ++ [z.x] }) (hL : L.length ≤ 1000000) :
    ∃ A' c' w2, (Builtin.append_ #[62, 62] 62 #[T, .slice (some ⟨w1.heap.size, 0, none⟩) 1 1]).run Tryd.prog (w1.alloc (.cells #[z.ptr] 75)) = .ok (.slice A' (L.length + 1) c') w2 ∧
      (GtAt (w2.setCell ⟨gp, 0, none⟩ (.slice A' (L.length + 1) c')) base gp (.slice A' (L.length + 1) c') (L ++ [z]) { g with l := g.l ++ [z.x] } (fun k => D k ∨ (w.heap.size ≤ k ∧ k < w2.heap.size)) ∧ OnlyE w (w2.setCell ⟨gp, 0, none⟩ (.slice A' (L.length + 1) c')) D) ∧ w2.cell? ⟨gp, 0, none⟩ = some T ∧ w2.frozen? ⟨gp, 0, none⟩ = false ∧ RowKit.Below 0 w w2 := by
  have h1 := h.on hb
  have hlow := h.lo
  have hsz := hb.size
  have hbA : RowKit.Below w1.heap.size w1 (w1.alloc (.cells #[z.ptr] 75)) := (RowKit.Below.refl _ _).alloc (Nat.le_refl _) _
  have hrA := h1.row.alloc (.cells #[z.ptr] 75)
  have hLi := lies_new w1 #[z.ptr] 75
  obtain ⟨A', c', w2, hrun, hown, hg, hblk⟩ := app_pz (ys := [z]) (m := 1) (c := 1) hrA rfl hLi (by simp; omega) (by omega)
  refine ⟨A', c', w2, hrun, ?_⟩
  have hsA : (w1.alloc (.cells #[z.ptr] 75)).heap.size = w1.heap.size + 1 := by simp
  have hs2 := hg.size
  have hTlt : ∀ k, T.ownBlock = some k → k < w.heap.size := fun k hk => (h.din k (h.dt k hk)).2
  have hT' : ∀ b, (Value.slice A' (L.length + 1) c').ownBlock = some b → T.ownBlock = some b ∨ b = w1.heap.size + 1 := fun b hb => by
    rcases hblk with e | e
    · exact .inl (e ▸ hb)
    · right; rw [e, hsA] at hb; injection hb with hb; exact hb.symm
  have hO2 : OnlyE w1 w2 (fun k => T.ownBlock = some k) := (OnlyE.of_below hbA).trans (OnlyE.of_grownO hg)
  have hOs : OnlyE w2 (w2.setCell ⟨gp, 0, none⟩ (.slice A' (L.length + 1) c')) (fun k => k = gp) := onlyE_set (D := fun k => k = gp) rfl 0 _
  have hO1 : OnlyE w1 (w2.setCell ⟨gp, 0, none⟩ (.slice A' (L.length + 1) c')) (fun k => T.ownBlock = some k ∨ k = gp) := (hO2.mono fun k hk => .inl hk).trans (hOs.mono fun k hk => .inr hk)
  have hO : OnlyE w (w2.setCell ⟨gp, 0, none⟩ (.slice A' (L.length + 1) c')) (fun k => T.ownBlock = some k ∨ k = gp) := (OnlyE.of_below hb).trans hO1
  have hbox2 : w2.heap[gp]? = some (.cells (gCells T g) 64 (0, 0)) := (hO2.same gp h1.lt h.ne).trans h1.box
  refine ⟨⟨?_, hO.mono fun k hk => hk.elim (h.dt k) fun e => e ▸ h.dg⟩, cell_of_row w2 gp 0 _ _ _ hbox2, frozen_of_row w2 gp 0 _ _ hbox2, ((OnlyE.of_below (D := fun _ => False) hb).below (B := 0) (fun _ _ => Nat.zero_le _) (Nat.zero_le _)).trans (hO2.below (B := 0) (fun _ _ => Nat.zero_le _) (Nat.zero_le _))⟩
  have hzlt : ∀ b, z.has b → b < w1.heap.size := fun b hb => hz.lt hb
  exact
  { box := heap_setCell_same w2 gp 0 _ _ _ hbox2
    row := by
      rw [List.length_append, flat_append]
      exact own_only hown hOs fun b hb e => by
        subst e
        rcases hT' _ hb with e | e
        · exact h.ne e
        · have := h1.lt; omega
    gl := by
      show g.l ++ [z.x] = _
      rw [List.map_append, ← h.gl]
      rfl
    parts := fun y hy => by
      rcases List.mem_append.1 hy with hy | hy
      · refine (h.parts y hy).kept hO fun b hb => ?_
        have := h.da y hy b hb
        rintro (e | e)
        · exact this.2.2 e
        · exact this.2.1 e
      · have : y = z := by simpa using hy
        subst this
        refine hz.kept hO1 fun b hb => ?_
        have h3 := hnew b hb
        rintro (e | e)
        · have := hTlt b e; omega
        · have := h.lt; omega
    apart := by
      refine List.pairwise_append.2 ⟨h.apart, List.pairwise_singleton _ _, fun y hy x hx => ?_⟩
      have : x = z := by simpa using hx
      subst this
      intro k h3 h4
      have := (h.din k (h.da y hy k h3).1).2
      have := hnew k h4
      omega
    dg := .inl h.dg
    dt := fun b hb => by
      rcases hT' b hb with e | e
      · exact .inl (h.dt b e)
      · right; have := (hown.lt b hb).2; omega
    da := fun y hy b hb => by
      rcases List.mem_append.1 hy with hy | hy
      · have h3 := h.da y hy b hb
        refine ⟨.inl h3.1, h3.2.1, fun e => ?_⟩
        rcases hT' b e with e | e
        · exact h3.2.2 e
        · have := (h.din b h3.1).2; omega
      · have : y = z := by simpa using hy
        subst this
        have h3 := hnew b hb
        have h4 := hzlt b hb
        refine ⟨.inr ⟨h3, by omega⟩, by have := h.lt; omega, fun e => ?_⟩
        rcases hT' b e with e | e
        · have := hTlt b e; omega
        · omega
    din := fun b hb => by
      simp only [World.setCell, Array.size_modify]
      rcases hb with hb | hb
      · have := h.din b hb; omega
      · exact ⟨by omega, hb.2⟩
    ne := fun e => by
      rcases hT' _ e with e | e
      · exact h.ne e
      · have := h1.lt; omega
    ok := hok
    rm := h.rm }

/-- A new part in memory. -/
theorem part_new {W : World} {k s q b n sz : Nat} {x : Id} (hS : SetAt W s q (List.replicate n false)) (hp : W.ownsRow 0 5 1 (.slice (some ⟨b, 0, none⟩) sz sz) sz (List.replicate sz (.int .u8 0))) (hsb : s ≠ b) (hqb : q ≠ b) :
    PartAt (W.alloc (.cells #[.pointer (some ⟨s, 0, none⟩), .int .u8 (x.f : Int), .int .u64 (x.s : Int), .slice (some ⟨b, 0, none⟩) sz sz] 79)) k ⟨W.heap.size, s, q, b, newPart x sz n⟩ := by
  have hbA : RowKit.Below W.heap.size W (W.alloc (.cells #[.pointer (some ⟨s, 0, none⟩), .int .u8 (x.f : Int), .int .u64 (x.s : Int), .slice (some ⟨b, 0, none⟩) sz sz] 79)) := (RowKit.Below.refl _ _).alloc (Nat.le_refl _) _
  obtain ⟨l1, l2, -, -⟩ := hS.lt
  have l3 := (hp.lt b rfl).2
  refine ⟨heap_alloc_new W (.cells _ _ (0, 0)), hS.on hbA, ⟨List.replicate sz 0, ?_, fun i d hi _ => ?_⟩, ⟨by show W.heap.size ≠ s; omega, by show W.heap.size ≠ q; omega, by show W.heap.size ≠ b; omega⟩, hsb, hqb⟩
  · have := own_below hp hbA
    have e : bvs (List.replicate sz 0) = List.replicate sz (.int .u8 0) := by simp [bvs, bv]
    rw [e]
    exact this
  · have hi' : (List.replicate n false)[i]? = some true := hi
    rw [List.getElem?_replicate] at hi'
    split at hi' <;> simp at hi'

theorem made_own (X : World) (n : Nat) (hn : n ≤ maxLen) : (X.alloc (.cells (madeCells #[.int .u8 0] n) 5)).ownsRow 0 5 1 (.slice (some ⟨X.heap.size, 0, none⟩) n n) n (List.replicate n (.int .u8 0)) := by
  refine ⟨by simp, .inr ⟨X.heap.size, n, _, rfl, Nat.zero_le _, heap_alloc_new X (.cells _ _ (0, 0)), Nat.le_refl _, hn, by simp [madeCells], ?_⟩⟩
  rw [toList_madeCells_one' _ rfl, List.take_of_length_le (by simp)]

set_option maxHeartbeats 3200000 in
theorem begin_any (h : GtAt w base gp T L g D) (hL : L.length ≤ 1000000) (F : Fr) (cs : Array Value) (hF : FrL w F cs) (hsz : F.size ≤ 1048576) (hof : F.of_ ≤ 1048576) (hok : Gm.Sok { g with l := g.l ++ [newPart F.id F.size F.of_] }) :
    Calls Tryd.prog 42 #[.pointer (some ⟨gp, 0, none⟩), .agg cs] w fun e w' => ∃ z T', e = .returned z.ptr ∧ z.x = newPart F.id F.size F.of_ ∧ GtAt w' base gp T' (L ++ [z]) { g with l := g.l ++ [newPart F.id F.size F.of_] } (fun k => D k ∨ (w.heap.size ≤ k ∧ k < w'.heap.size)) ∧ OnlyE w w' D := by
  have hmk : ∀ W : World, (Instr.makeSlice 39 (.int .u32 (F.size : Int)) (.int .u32 (F.size : Int))).run Tryd.prog W = .ok (.slice (some ⟨W.heap.size, 0, none⟩) F.size F.size) (W.alloc (.cells (madeCells #[.int .u8 0] F.size) 5)) := fun W =>
    run_make_row' 39 5 (.int .u8 0) 1 Tryd.underlying39 Tryd.info5 rfl .u32 .u32 F.size (by omega) (by omega) W
  have HN : Hid (∀ W, Calls Tryd.prog 53 #[.int .i64 (F.of_ : Int)] W fun e w' => ∃ p q, e = .returned (.pointer (some ⟨p, 0, none⟩)) ∧ SetAt w' p q (List.replicate F.of_ false) ∧ W.heap.size ≤ p ∧ W.heap.size ≤ q ∧ RowKit.Below W.heap.size W w') := fun W => new_any (F.of_ : Int) F.of_ (by omega) W hof
  have HPU : Hid (∀ X s q b, RowKit.Below w.heap.size w X → SetAt X s q (List.replicate F.of_ false) → X.ownsRow 0 5 1 (.slice (some ⟨b, 0, none⟩) F.size F.size) F.size (List.replicate F.size (.int .u8 0)) → w.heap.size ≤ s → w.heap.size ≤ q → w.heap.size ≤ b → s ≠ b → q ≠ b →
      ∃ A' c' w2, (Builtin.append_ #[62, 62] 62 #[T, .slice (some ⟨(X.alloc (.cells #[.pointer (some ⟨s, 0, none⟩), .int .u8 (F.id.f : Int), .int .u64 (F.id.s : Int), .slice (some ⟨b, 0, none⟩) F.size F.size] 79)).heap.size, 0, none⟩) 1 1]).run Tryd.prog
          ((X.alloc (.cells #[.pointer (some ⟨s, 0, none⟩), .int .u8 (F.id.f : Int), .int .u64 (F.id.s : Int), .slice (some ⟨b, 0, none⟩) F.size F.size] 79)).alloc (.cells #[.pointer (some ⟨X.heap.size, 0, none⟩)] 75)) = .ok (.slice A' (L.length + 1) c') w2 ∧
        (GtAt (w2.setCell ⟨gp, 0, none⟩ (.slice A' (L.length + 1) c')) base gp (.slice A' (L.length + 1) c') (L ++ [⟨X.heap.size, s, q, b, newPart F.id F.size F.of_⟩]) { g with l := g.l ++ [newPart F.id F.size F.of_] } (fun k => D k ∨ (w.heap.size ≤ k ∧ k < w2.heap.size)) ∧ OnlyE w (w2.setCell ⟨gp, 0, none⟩ (.slice A' (L.length + 1) c')) D) ∧ w2.cell? ⟨gp, 0, none⟩ = some T ∧ w2.frozen? ⟨gp, 0, none⟩ = false ∧ RowKit.Below 0 w w2) := fun X s q b hX hS hp h1 h2 h3 h4 h5 => by
    have hlt := hS.lt
    exact h.push (hX.trans (((RowKit.Below.refl X.heap.size X).alloc (Nat.le_refl _) _).mono hX.size)) ⟨X.heap.size, s, q, b, newPart F.id F.size F.of_⟩ (part_new hS hp h4 h5) (fun k hk => by
      have := hX.size
      rcases hk with rfl | rfl | rfl | rfl
      · exact this
      · exact h1
      · exact h2
      · exact h3) hok hL
  have hlt := h.lt
  have C0 := Lib.hid h.c0
  obtain ⟨pf, rfl, -⟩ := hF
  unfold frCells
  clear h hok
  generalize hn : F.of_ = n at *
  generalize hz : F.size = sz at *
  generalize hx : F.id = x at *
  have ew : IntKind.i64.wrap (n : Int) = (n : Int) := by rw [IntKind.wrap_i64] <;> omega
  clear hn hz hx
  go_enter Tryd.func42, Tryd.ntmps42
  go_wp2_with fail
  generalize hw0 : World.alloc w _ = w0
  obtain ⟨hs0, hG, hcc⟩ := box1 w w0 _ _ hw0
  have hb0 : RowKit.Below w.heap.size w w0 := hG.below
  have hw00 : w.heap.size < w0.heap.size := by omega
  have HF : Hid (∀ V, RowKit.Below w0.heap.size w0 V → V.cell? ⟨w.heap.size, 3, none⟩ = some (.int .u8 (x.f : Int)) ∧ V.cell? ⟨w.heap.size, 4, none⟩ = some (.int .u64 (x.s : Int)) ∧ V.cell? ⟨w.heap.size, 7, none⟩ = some (.int .u32 (n : Int)) ∧ V.cell? ⟨w.heap.size, 8, none⟩ = some (.int .u32 (sz : Int))) := fun V hV =>
    ⟨(hV.cell (p := ⟨w.heap.size, 3, none⟩) hw00).trans (hcc 3 _ rfl), (hV.cell (p := ⟨w.heap.size, 4, none⟩) hw00).trans (hcc 4 _ rfl), (hV.cell (p := ⟨w.heap.size, 7, none⟩) hw00).trans (hcc 7 _ rfl), (hV.cell (p := ⟨w.heap.size, 8, none⟩) hw00).trans (hcc 8 _ rfl)⟩
  clear hcc hw0 hG
  refine wp_region_held_drew (S := fun V => RowKit.Below w0.heap.size w0 V) (by kernel_rfl) ((RowKit.Below.refl _ _).drew) (fun hHeld => ?_)
  have hHeld : RowKit.Below w0.heap.size w0 w0.drew := (RowKit.Below.refl _ _).drew
  generalize w0.drew = X0 at hHeld ⊢
  refine wpAnyH_takeAt (i := 0) (d := 6) (v := ?_) rfl rfl (by kernel_rfl) (by kernel_rfl) (by kernel_rfl) (fun _ _ _ h => h) (Or.inl ⟨by rfl, ?_⟩) hHeld ?_
  rotate_left
  · (intro _ hSw; go_simp; try with_reducible rfl)
  simp only [List.setIfInBounds_toArray, List.set_cons_zero, List.set_cons_succ]
  refine wpAnyH_takeAt (i := 1) (d := 7) (v := ?_) rfl rfl (by kernel_rfl) (by kernel_rfl) (by kernel_rfl) (fun _ _ _ h => h) (Or.inl ⟨by rfl, ?_⟩) hHeld ?_
  rotate_left
  · (intro _ hSw; have h7 := (HF.out _ hSw).2.2.1; go_simp; try with_reducible rfl)
  simp only [List.setIfInBounds_toArray, List.set_cons_zero, List.set_cons_succ]
  refine wpAnyH_takeAt (i := 2) (d := 8) (v := ?_) rfl rfl (by kernel_rfl) (by kernel_rfl) (by kernel_rfl) (fun _ _ _ h => h) (Or.inl ⟨by rfl, ?_⟩) hHeld ?_
  rotate_left
  · (intro _ hSw; go_simp; try with_reducible rfl)
  simp only [List.setIfInBounds_toArray, List.set_cons_zero, List.set_cons_succ]
  refine wpAnyH_takeAt (i := 4) (d := 10) (v := ?_) rfl rfl (by kernel_rfl) (by kernel_rfl) (by kernel_rfl) (fun _ _ _ h => h) (Or.inl ⟨by rfl, ?_⟩) hHeld ?_
  rotate_left
  · (intro _ hSw; go_simp; try with_reducible rfl)
  simp only [List.setIfInBounds_toArray, List.set_cons_zero, List.set_cons_succ]
  refine wpAnyH_takeAt (i := 5) (d := 11) (v := ?_) rfl rfl (by kernel_rfl) (by kernel_rfl) (by kernel_rfl) (fun _ _ _ h => h) (Or.inl ⟨by rfl, ?_⟩) hHeld ?_
  rotate_left
  · (intro _ hSw; have h3 := (HF.out _ hSw).1; have h4 := (HF.out _ hSw).2.1; go_simp; try with_reducible rfl)
  simp only [List.setIfInBounds_toArray, List.set_cons_zero, List.set_cons_succ]
  refine wpAnyH_takeAt (i := 6) (d := 12) (v := ?_) rfl rfl (by kernel_rfl) (by kernel_rfl) (by kernel_rfl) (fun _ _ _ h => h) (Or.inl ⟨by rfl, ?_⟩) hHeld ?_
  rotate_left
  · (intro _ hSw; go_simp; try with_reducible rfl)
  simp only [List.setIfInBounds_toArray, List.set_cons_zero, List.set_cons_succ]
  refine wpAnyH_takeAt (i := 7) (d := 13) (v := ?_) rfl rfl (by kernel_rfl) (by kernel_rfl) (by kernel_rfl) (fun _ _ _ h => h) (Or.inl ⟨by rfl, ?_⟩) hHeld ?_
  rotate_left
  · (intro _ hSw; have h8 := (HF.out _ hSw).2.2.2; go_simp; try with_reducible rfl)
  simp only [List.setIfInBounds_toArray, List.set_cons_zero, List.set_cons_succ]
  have hX0 := hHeld
  refine wpAnyH_ready (rs := [3, 8]) (by kernel_rfl) (by simp) ?_
  refine AllReadyH.cons rfl (fun K hK => ?_) (AllReadyH.cons rfl (fun K hK => ?_) AllReadyH.nil)
  · go_simp
    refine (HN.out _).mono ?_
    rintro e X1 ⟨s, q, rfl, hset, hs, hq, hb1⟩
    have hHeldA : RowKit.Below w0.heap.size w0 X1 := hX0.trans (hb1.mono hX0.size)
    refine hK.out _ _ hHeldA (fun _ => ?_)
    clear hK K hHeld
    have hsX := hX0.size
    refine wpAnyH_ready (rs := [8]) (by kernel_rfl) (by simp) ?_
    refine AllReadyH.cons rfl (fun K hK => ?_) AllReadyH.nil
    go_simp
    have hb2 : RowKit.Below X1.heap.size X1 (X1.alloc (.cells (madeCells #[.int .u8 0] sz) 5)) := (RowKit.Below.refl _ _).alloc (Nat.le_refl _) _
    have hHeld := hHeldA.trans (hb2.mono hHeldA.size)
    refine hK.out _ _ hHeld (fun _ => ?_)
    clear hK K
    have hpay := made_own X1 sz (by unfold maxLen; omega)
    obtain ⟨l1, l2, -, -⟩ := hset.lt
    replace hset := hset.on hb2
    have hsb : s ≠ X1.heap.size := by omega
    have hqb : q ≠ X1.heap.size := by omega
    have hbb : w.heap.size ≤ X1.heap.size := by have := hb1.size; have := hb0.size; omega
    replace hs : w.heap.size ≤ s := by have := hb0.size; omega
    replace hq : w.heap.size ≤ q := by have := hb0.size; omega
    clear hb1 hHeldA hb2 l1 l2
    generalize X1.alloc (.cells (madeCells #[.int .u8 0] sz) 5) = X at hset hpay hHeld ⊢
    generalize X1.heap.size = b at hpay hsb hqb hbb ⊢
    clear hsX
    refine wpAnyH_takeAt (i := 9) (d := 15) (v := ?_) rfl rfl (by kernel_rfl) (by kernel_rfl) (by kernel_rfl) (fun _ _ _ h => h) (Or.inl ⟨by rfl, ?_⟩) hHeld ?_
    rotate_left
    · (intro _ hSw; go_simp; try with_reducible rfl)
    simp only [List.setIfInBounds_toArray, List.set_cons_zero, List.set_cons_succ]
    refine wpAnyH_ready (rs := [10]) (by kernel_rfl) (by simp) ?_
    refine AllReadyH.cons rfl (fun K hK => ?_) AllReadyH.nil
    go_simp
    have hHeldC : RowKit.Below w0.heap.size w0 (X.alloc (.cells #[.pointer (some ⟨s, 0, none⟩), .int .u8 (x.f : Int), .int .u64 (x.s : Int), .slice (some ⟨b, 0, none⟩) sz sz] 79)) := hHeld.trans (((RowKit.Below.refl _ _).alloc (Nat.le_refl _) _).mono hHeld.size)
    refine hK.out _ _ hHeldC (fun _ => ?_)
    clear hK K
    have HP := Lib.hid (HPU.out X s q b (hb0.trans (hHeld.mono hb0.size)) hset hpay hs hq hbb hsb hqb)
    clear hset hpay hs hq hbb hsb hqb hHeld
    have hHeld := hHeldC
    refine wpAnyH_takeAt (i := 11) (d := 5) (v := ?_) rfl rfl (by kernel_rfl) (by kernel_rfl) (by kernel_rfl) (fun _ _ _ h => h) (Or.inl ⟨by rfl, ?_⟩) hHeld ?_
    rotate_left
    · (intro _ hSw; go_simp; try with_reducible rfl)
    simp only [List.setIfInBounds_toArray, List.set_cons_zero, List.set_cons_succ]
    refine wpAnyH_done (by kernel_rfl) ?_ _
    have HBC := Lib.hid (hb0.trans (hHeldC.mono hb0.size))
    generalize hX3 : X.alloc (.cells #[.pointer (some ⟨s, 0, none⟩), .int .u8 (x.f : Int), .int .u64 (x.s : Int), .slice (some ⟨b, 0, none⟩) sz sz] 79) = X3 at HP HBC ⊢
    clear hX3 hHeld hHeldC
    generalize X.heap.size = pp at HP ⊢
    obtain ⟨A', c', w2, hrun, hgo, hc, hf, hB⟩ := HP.out
    have g0 := (HBC.out.cell (p := ⟨gp, 0, none⟩) hlt).trans C0.out
    have HGO := Lib.hid hgo
    clear HP hgo hB
    have HR := Lib.hid hrun
    clear hrun hmk HN HF HPU
    go_wp2_with (first | (at_builtin; refine wpList_append_run rfl (.tmp 21) (.tmp 23) 62 rfl rfl rfl HR.out ?_) | fail)
    go_ret
    have es : (w2.setCell ⟨gp, 0, none⟩ (.slice A' (L.length + 1) c')).heap.size = w2.heap.size := by simp [World.setCell]
    refine ⟨⟨pp, s, q, b, newPart x sz n⟩, .slice A' (L.length + 1) c', rfl, rfl, ?_, HGO.out.2⟩
    rw [es]
    exact HGO.out.1
  · go_simp
    have hb2 : RowKit.Below X0.heap.size X0 (X0.alloc (.cells (madeCells #[.int .u8 0] sz) 5)) := (RowKit.Below.refl _ _).alloc (Nat.le_refl _) _
    have hHeldA := hX0.trans (hb2.mono hX0.size)
    refine hK.out _ _ hHeldA (fun _ => ?_)
    clear hK K hHeld
    have hpay := made_own X0 sz (by unfold maxLen; omega)
    have hsX := hX0.size
    have hb0s := hb0.size
    have hX1 : (X0.alloc (.cells (madeCells #[.int .u8 0] sz) 5)).heap.size = X0.heap.size + 1 := by simp
    have hbb : w.heap.size ≤ X0.heap.size := by omega
    clear hb2
    refine wpAnyH_ready (rs := [3]) (by kernel_rfl) (by simp) ?_
    refine AllReadyH.cons rfl (fun K hK => ?_) AllReadyH.nil
    go_simp
    generalize X0.alloc (.cells (madeCells #[.int .u8 0] sz) 5) = X1 at hpay hHeldA hX1 ⊢
    refine (HN.out _).mono ?_
    rintro e X ⟨s, q, rfl, hset, hs, hq, hb1⟩
    have hHeld := hHeldA.trans (hb1.mono hHeldA.size)
    refine hK.out _ _ hHeld (fun _ => ?_)
    clear hK K
    replace hpay := own_below hpay hb1
    have hsb : s ≠ X0.heap.size := by omega
    have hqb : q ≠ X0.heap.size := by omega
    replace hs : w.heap.size ≤ s := by omega
    replace hq : w.heap.size ≤ q := by omega
    clear hb1 hHeldA hX1 hb0s hsX
    generalize X0.heap.size = b at hpay hsb hqb hbb ⊢
    refine wpAnyH_takeAt (i := 9) (d := 15) (v := ?_) rfl rfl (by kernel_rfl) (by kernel_rfl) (by kernel_rfl) (fun _ _ _ h => h) (Or.inl ⟨by rfl, ?_⟩) hHeld ?_
    rotate_left
    · (intro _ hSw; go_simp; try with_reducible rfl)
    simp only [List.setIfInBounds_toArray, List.set_cons_zero, List.set_cons_succ]
    refine wpAnyH_ready (rs := [10]) (by kernel_rfl) (by simp) ?_
    refine AllReadyH.cons rfl (fun K hK => ?_) AllReadyH.nil
    go_simp
    have hHeldC : RowKit.Below w0.heap.size w0 (X.alloc (.cells #[.pointer (some ⟨s, 0, none⟩), .int .u8 (x.f : Int), .int .u64 (x.s : Int), .slice (some ⟨b, 0, none⟩) sz sz] 79)) := hHeld.trans (((RowKit.Below.refl _ _).alloc (Nat.le_refl _) _).mono hHeld.size)
    refine hK.out _ _ hHeldC (fun _ => ?_)
    clear hK K
    have HP := Lib.hid (HPU.out X s q b (hb0.trans (hHeld.mono hb0.size)) hset hpay hs hq hbb hsb hqb)
    clear hset hpay hs hq hbb hsb hqb hHeld
    have hHeld := hHeldC
    refine wpAnyH_takeAt (i := 11) (d := 5) (v := ?_) rfl rfl (by kernel_rfl) (by kernel_rfl) (by kernel_rfl) (fun _ _ _ h => h) (Or.inl ⟨by rfl, ?_⟩) hHeld ?_
    rotate_left
    · (intro _ hSw; go_simp; try with_reducible rfl)
    simp only [List.setIfInBounds_toArray, List.set_cons_zero, List.set_cons_succ]
    refine wpAnyH_done (by kernel_rfl) ?_ _
    have HBC := Lib.hid (hb0.trans (hHeldC.mono hb0.size))
    generalize hX3 : X.alloc (.cells #[.pointer (some ⟨s, 0, none⟩), .int .u8 (x.f : Int), .int .u64 (x.s : Int), .slice (some ⟨b, 0, none⟩) sz sz] 79) = X3 at HP HBC ⊢
    clear hX3 hHeld hHeldC
    generalize X.heap.size = pp at HP ⊢
    obtain ⟨A', c', w2, hrun, hgo, hc, hf, hB⟩ := HP.out
    have g0 := (HBC.out.cell (p := ⟨gp, 0, none⟩) hlt).trans C0.out
    have HGO := Lib.hid hgo
    clear HP hgo hB
    have HR := Lib.hid hrun
    clear hrun hmk HN HF HPU
    go_wp2_with (first | (at_builtin; refine wpList_append_run rfl (.tmp 21) (.tmp 23) 62 rfl rfl rfl HR.out ?_) | fail)
    go_ret
    have es : (w2.setCell ⟨gp, 0, none⟩ (.slice A' (L.length + 1) c')).heap.size = w2.heap.size := by simp [World.setCell]
    refine ⟨⟨pp, s, q, b, newPart x sz n⟩, .slice A' (L.length + 1) c', rfl, rfl, ?_, HGO.out.2⟩
    rw [es]
    exact HGO.out.1
end

end Go.Proofs.YthkongnjokmmfaaDoor

