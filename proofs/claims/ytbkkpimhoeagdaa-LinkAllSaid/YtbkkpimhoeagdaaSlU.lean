/- The document's Put. -/
import Derived.Test.YtbkkpimhoeagdaaSlS
namespace Go.Proofs.Ytbkkpimhoeagdaa
open Go.RowKit Go.Sort
set_option maxRecDepth 20000

/-- The three boxes of a Put: the window, the frame, the answer. -/
structure PBox (w : World) (gs fs rs : Array Value) (W : World) : Prop where
  below : RowKit.Below w.heap.size w W
  g : W.heap[w.heap.size]? = some (.cells gs 29 (0, 0))
  f : W.heap[w.heap.size + 1]? = some (.cells fs 44 (0, 0))
  r : W.heap[w.heap.size + 1 + 1]? = some (.cells rs 29 (0, 0))

theorem alloc3_blocks (w : World) (o1 o2 o3 : Obj) {W : World} (hW : ((w.alloc o1).alloc o2).alloc o3 = W) :
    W.heap[w.heap.size]? = some o1 ∧ W.heap[w.heap.size + 1]? = some o2 ∧ W.heap[w.heap.size + 1 + 1]? = some o3 ∧ RowKit.Below w.heap.size w W := by
  obtain ⟨h1, h2, h3⟩ := alloc2_blocks w o1 o2 rfl
  subst hW
  refine ⟨(heap_alloc_old _ _ (by simp; omega)).trans h1, (heap_alloc_old _ _ (by simp)).trans h2, ?_, h3.alloc (by simp; omega) _⟩
  have := heap_alloc_new ((w.alloc o1).alloc o2) o3
  simpa using this
theorem PBox.start {w W : World} {gs fs rs : Array Value} (h : ((w.alloc (.cells gs 29)).alloc (.cells fs 44)).alloc (.cells rs 29) = W) : PBox w gs fs rs W := by
  obtain ⟨h1, h2, h3, hb⟩ := alloc3_blocks w _ _ _ h
  exact ⟨hb, h1, h2, h3⟩
theorem PBox.lt {w W : World} {gs fs rs : Array Value} (h : PBox w gs fs rs W) : w.heap.size + 3 ≤ W.heap.size := (Array.getElem?_eq_some_iff.1 h.r).1
theorem PBox.up {w W W' : World} {gs fs rs : Array Value} (h : PBox w gs fs rs W) (hb : RowKit.Below (w.heap.size + 3) W W') : PBox w gs fs rs W' :=
  ⟨h.below.trans (hb.mono (by omega)), (hb.block _ (by omega)).trans h.g, (hb.block _ (by omega)).trans h.f, (hb.block _ (by omega)).trans h.r⟩
theorem PBox.on {w W W' : World} {gs fs rs : Array Value} (h : PBox w gs fs rs W) (hb : RowKit.Below W.heap.size W W') : PBox w gs fs rs W' := h.up (hb.mono h.lt)
theorem PBox.setG {w W : World} {gs fs rs : Array Value} (h : PBox w gs fs rs W) (i : Nat) (u : Value) : PBox w (gs.setIfInBounds i u) fs rs (W.setCell ⟨w.heap.size, i, none⟩ u) :=
  ⟨h.below.setCell (p := ⟨w.heap.size, i, none⟩) (Nat.le_refl _) u, heap_setCell_same W _ i _ _ u h.g, (heap_setCell_other W ⟨w.heap.size, i, none⟩ (w.heap.size + 1) u (by simp)).trans h.f, (heap_setCell_other W ⟨w.heap.size, i, none⟩ (w.heap.size + 1 + 1) u (by simp; omega)).trans h.r⟩
theorem PBox.setR {w W : World} {gs fs rs : Array Value} (h : PBox w gs fs rs W) (i : Nat) (u : Value) : PBox w gs fs (rs.setIfInBounds i u) (W.setCell ⟨w.heap.size + 1 + 1, i, none⟩ u) :=
  ⟨h.below.setCell (p := ⟨w.heap.size + 1 + 1, i, none⟩) (by show w.heap.size ≤ w.heap.size + 1 + 1; omega) u, (heap_setCell_other W ⟨w.heap.size + 1 + 1, i, none⟩ w.heap.size u (by simp; omega)).trans h.g, (heap_setCell_other W ⟨w.heap.size + 1 + 1, i, none⟩ (w.heap.size + 1) u (by simp)).trans h.f, heap_setCell_same W _ i _ _ u h.r⟩
theorem PBox.cellG {w W : World} {gs fs rs : Array Value} (h : PBox w gs fs rs W) (i : Nat) : W.cell? ⟨w.heap.size, i, none⟩ = gs[i]? := cell_of_row W _ i _ _ _ h.g
theorem PBox.cellR {w W : World} {gs fs rs : Array Value} (h : PBox w gs fs rs W) (i : Nat) : W.cell? ⟨w.heap.size + 1 + 1, i, none⟩ = rs[i]? := cell_of_row W _ i _ _ _ h.r
theorem PBox.frG {w W : World} {gs fs rs : Array Value} (h : PBox w gs fs rs W) (i : Nat) : W.frozen? ⟨w.heap.size, i, none⟩ = false := frozen_of_row W _ i _ _ h.g
theorem PBox.frR {w W : World} {gs fs rs : Array Value} (h : PBox w gs fs rs W) (i : Nat) : W.frozen? ⟨w.heap.size + 1 + 1, i, none⟩ = false := frozen_of_row W _ i _ _ h.r

theorem refPut_full (A : Option Addr) (n c width last : Nat) (lm : List Pf) (x : Pf) (w : World) (hl : lm.length = n) (hnc : n ≤ c) (hcm : c ≤ maxLen) (hr : width ≤ n) :
    Calls Try.prog 28 #[.agg #[.int .i64 (width : Int), .slice A n c, .int .u64 (last : Int)], .agg x.cs] w (RGot w A lm width lm last 0) := by
  have hd : decide (width ≤ n) = true := by simpa using hr
  have HL := Lib.hid hl
  clear hl
  go_enter Try.func28, Try.ntmps28
  go_wp2
  obtain ⟨h1, h2, h3, hb⟩ := alloc3_blocks w _ _ _ rfl
  refine bodyPost_ret (results_cell_tmp rfl _ _ (w.heap.size + 1 + 1) _ rfl (load_rowW h3 rfl)) rfl ?_
  exact ⟨A, c, by rw [HL.out]; rfl, by rw [HL.out]; exact hnc, hcm, KeepsP.same A lm hb, hb⟩

/-- append(frames, frames...), with what is behind it. -/
theorem app_frames {W : World} {base n B m c : Nat} {v : Value} {xs : List Value} {A : Option Addr} {ys : List Pf} (hown : W.ownsRow base 44 16 v n xs) (hl : ys.length = m) (hL : Lies W B A (flat encPf ys)) (hb : base ≤ W.heap.size) (hn : n + m ≤ 10000) :
    ∃ A' c' W', (Builtin.append_ #[26, 26] 26 #[v, .slice A m c]).run Try.prog W = .ok (.slice A' (n + m) c') W' ∧ W'.ownsRow base 44 16 (.slice A' (n + m) c') (n + m) (xs ++ flat encPf ys) ∧
      W.grownBy W' v.ownBlock ∧ RowKit.Below base W W' ∧ n + m ≤ c' ∧ c' ≤ maxLen := by
  obtain ⟨A', c', W', h1, h2, h3, -, h5, h6⟩ := app_frame (c := c) hown hl hL hb hn
  exact ⟨A', c', W', h1, h2, h3, (RowKit.Below.refl _ _).grown h3 hb (fun k e => (hown.lt k e).1), h5, h6⟩
theorem LiesX.at_row {W : World} {D : Nat → Prop} {q : Nat} {cs : Array Value} {t : TypeId} {fr : Nat × Nat} {xs : List Value} (h : W.heap[q]? = some (.cells cs t fr)) (hD : ¬ D q) (hx : cs.toList = xs) : LiesX W D (some ⟨q, 0, none⟩) xs := fun _ =>
  ⟨q, 0, rfl, (Array.getElem?_eq_some_iff.1 h).1, hD, fun i u hu => by
    rw [Nat.zero_add, cell_of_row W q i _ _ _ h, ← hu, ← hx]
    simp⟩

set_option maxRecDepth 20000 in
set_option maxHeartbeats 3200000 in
theorem refPut_any (A : Option Addr) (n c width last : Nat) (lm : List Pf) (x : Pf) (w : World) (hl : lm.length = n) (hn : n ≤ 100) (hr : ¬ width ≤ n) (hlow : last ≤ 1000000) (hA : Lies w w.heap.size A (flat encPf lm)) :
    Calls Try.prog 28 #[.agg #[.int .i64 (width : Int), .slice A n c, .int .u64 (last : Int)], .agg x.cs] w (RGot w A lm width (lm ++ [x.seqd (last + 1)]) (last + 1) 1) := by
  have hd : decide (width ≤ n) = false := by simp; omega
  have HL := Lib.hid hl
  have HA := Lib.hid hA
  clear hl hA
  go_enter Try.func28, Try.ntmps28
  go_upto_region 5 with fail
  rw [show (Value.int .u64 ((last : Int) + 1)) = .int .u64 ((last + 1 : Nat) : Int) from rfl, Pf.seqd_cs]
  generalize hW9 : World.alloc (World.alloc (World.alloc w (.cells #[.int .i64 (width : Int), .slice A n c, .int .u64 ((last + 1 : Nat) : Int)] 29)) (.cells (x.seqd (last + 1)).cs 44)) (.cells #[.int .i64 0, .slice none 0 0, .int .u64 0] 29) = W9
  have H0 : Hid (PBox w (rCells width (.slice A n c) (last + 1)) (x.seqd (last + 1)).cs zeroW W9) := PBox.start hW9
  clear hW9
  generalize hy : x.seqd (last + 1) = y at H0 ⊢
  have HY := Lib.hid hy
  clear hy
  refine wp_region_Z 8 (PBox w (rCells width (.slice A n c) (last + 1)) y.cs zeroW) (by kernel_rfl) ?_
  have hHeld : PBox w (rCells width (.slice A n c) (last + 1)) y.cs zeroW W9.drew := H0.out.on (drewB _)
  generalize World.drew W9 = W0 at hHeld ⊢
  have H1 := Lib.hid hHeld
  have HAL : Hid (∀ W, RowKit.Below w.heap.size w W → Lies W w.heap.size A (flat encPf lm)) := fun W hW => HA.out.below hW
  clear H0
  refine wpZ_take (i := 1) (d := 21) (v := ?_) rfl rfl (by kernel_rfl) (by kernel_rfl) (by kernel_rfl) (by kernel_rfl) (fun _ _ _ h => h) (Or.inl ⟨by rfl, ?_⟩) hHeld ?_
  rotate_left
  · (intro _ hSw; go_simp; try with_reducible rfl)
  simp only [List.setIfInBounds_toArray, List.set_cons_zero, List.set_cons_succ]
  refine wpZ_take (i := 2) (d := 22) (v := ?_) rfl rfl (by kernel_rfl) (by kernel_rfl) (by kernel_rfl) (by kernel_rfl) (fun _ _ _ h => h) (Or.inl ⟨by rfl, ?_⟩) hHeld ?_
  rotate_left
  · (intro _ hSw; have x1 := hSw.cellG 1; simp only [rCells, List.getElem?_toArray, List.getElem?_cons_succ, List.getElem?_cons_zero] at x1; go_simp; try with_reducible rfl)
  simp only [List.setIfInBounds_toArray, List.set_cons_zero, List.set_cons_succ]
  refine wpZ_take (i := 4) (d := 24) (v := .agg y.cs) rfl rfl (by kernel_rfl) (by kernel_rfl) (by kernel_rfl) (by kernel_rfl) (fun _ _ _ h => h) (yields_frame (S := PBox w (rCells width (.slice A n c) (last + 1)) y.cs zeroW) (x := .tmp 3) (g := w.heap.size + 1) rfl rfl rfl (Pf.size y) (fun V hV => hV.f)) hHeld ?_
  simp only [List.setIfInBounds_toArray, List.set_cons_zero, List.set_cons_succ]
  refine wpZ_ready (rs := [0, 5]) (by kernel_rfl) (by simp) ?_
  refine AllReadyZ.cons rfl (fun K hK => ?_) (AllReadyZ.cons rfl (fun K hK => ?_) AllReadyZ.nil)
  · skip
    go_simp
    have hGa := H1.out.on ((RowKit.Below.refl _ _).alloc (Nat.le_refl _) (.cells #[] 44))
    have hoa : (W0.alloc (.cells #[] 44)).ownsRow (w.heap.size + 3) 44 16 (.slice (some ⟨W0.heap.size, 0, none⟩) 0 0) 0 [] := World.ownsRow_lit W0 #[] 0 H1.out.lt (Nat.zero_le _) rfl
    have hHeld2 := hGa
    refine hK.out _ _ (fun _ => hHeld2) ?_
    clear hK K hHeld
    have hHeld := hHeld2
    clear hHeld2
    refine wpZ_ready (rs := [3, 5]) (by kernel_rfl) (by simp) ?_
    refine AllReadyZ.cons rfl (fun K hK => ?_) (AllReadyZ.cons rfl (fun K hK => ?_) AllReadyZ.nil)
    · skip
      obtain ⟨A3, c3, W3, hrun3, ho3, hg3, hb3, hc3, hm3⟩ := app_frames (c := c) hoa HL.out (HAL.out _ hGa.below) hGa.lt (by omega)
      rw [Nat.zero_add, List.nil_append] at ho3
      rw [Nat.zero_add] at hrun3
      have hG3 := hGa.up hb3
      refine wp_append_step (s := .tmp 20) (x := .tmp 22) (t := 26) rfl rfl rfl rfl hrun3 ?_
      go_simp
      have hHeld2 := hG3
      refine hK.out _ _ (fun _ => hHeld2) ?_
      clear hK K hHeld
      have hHeld := hHeld2
      clear hHeld2
      refine wpZ_ready (rs := [5]) (by kernel_rfl) (by simp) ?_
      refine AllReadyZ.cons rfl (fun K hK => ?_) AllReadyZ.nil
      refine wp_build1_step (x := .tmp 24) (y := y) rfl rfl rfl ?_
      go_simp
      have hbl := (RowKit.Below.refl W3.heap.size W3).alloc (Nat.le_refl _) (.cells y.cs 44)
      have hGl := hG3.on hbl
      have hx1 := own_below ho3 hbl
      have hx2 := lies_new W3 y.cs 44
      rw [← flat_single] at hx2
      have hx3 : (w.heap.size + 3) ≤ (W3.alloc (.cells y.cs 44)).heap.size := hGl.lt
      clear ho3 hg3 hb3 hc3 hm3 hbl hoa hGa hG3 hrun3
      have hHeld2 := hGl
      refine hK.out _ _ (fun _ => hHeld2) ?_
      clear hK K hHeld
      have hHeld := hHeld2
      clear hHeld2
      clear hGl
      obtain ⟨A4, c4, W4, hrun4, ho4, hg4, hb4, hc4, hm4⟩ := app_frames (ys := [y]) (m := 1) (c := 1) hx1 rfl hx2 hx3 (by omega)
      rw [← flat_append] at ho4
      have HO4 := Lib.hid ho4
      have hG4 := hHeld.up hb4
      have HC4 := Lib.hid hc4
      have HM4 := Lib.hid hm4
      clear hx1 hx2 ho4 hg4 hb4 hc4 hm4
      refine wpZ_ready (rs := [6]) (by kernel_rfl) (by simp) ?_
      refine AllReadyZ.cons rfl (fun K hK => ?_) AllReadyZ.nil
      refine wp_append_step (s := .tmp 23) (x := .tmp 25) (t := 26) rfl rfl rfl rfl hrun4 ?_
      go_simp
      have hHeld2 := hG4
      refine hK.out _ _ (fun _ => hHeld2) ?_
      clear hK K hHeld
      have hHeld := hHeld2
      clear hHeld2
      refine wpZ_take (i := 7) (d := 27) (v := ?_) rfl rfl (by kernel_rfl) (by kernel_rfl) (by kernel_rfl) (by kernel_rfl) (fun _ _ _ h => h) (Or.inl ⟨by rfl, ?_⟩) hHeld ?_
      rotate_left
      · (intro _ hSw; go_simp; try with_reducible rfl)
      simp only [List.setIfInBounds_toArray, List.set_cons_zero, List.set_cons_succ]
      have HG4 := Lib.hid hG4
      have y1 := hG4.cellG 1
      have y2 := hG4.frG 1
      simp only [rCells, List.getElem?_toArray, List.getElem?_cons_succ, List.getElem?_cons_zero] at y1
      clear hG4 hHeld hrun4
      refine wpZ_ready (rs := [8]) (by kernel_rfl) (by simp) ?_
      refine AllReadyZ.cons rfl (fun K hK => ?_) AllReadyZ.nil
      go_simp
      refine hK.out _ _ (fun h => absurd rfl h) ?_
      clear hK K
      refine wpZ_done (by kernel_rfl) ?_ _
      have hS := HG4.out.setG 1 (.slice A4 (n + 1) c4)
      generalize hW : World.setCell W4 ⟨w.heap.size, 1, none⟩ (.slice A4 (n + 1) c4) = W at hS ⊢
      have HO5 : Hid (W.ownsRow (w.heap.size + 3) 44 16 (.slice A4 (n + 1) c4) (n + 1) (flat encPf (lm ++ [y]))) := by
        show World.ownsRow _ _ _ _ _ _ _
        rw [← hW]
        exact own_only HO4.out (onlyE_set (D := fun k => k = w.heap.size) rfl 1 _) fun b hb e => by have := (HO4.out.lt b hb).1; omega
      have z0 := hS.cellG 0
      have z1 := hS.cellG 1
      have z2 := hS.cellG 2
      have q0 := hS.cellR 0
      have q1 := hS.cellR 1
      have q2 := hS.cellR 2
      have r0 := hS.frR 0
      have r1 := hS.frR 1
      have r2 := hS.frR 2
      have HS := Lib.hid hS
      simp only [rCells, zeroW, List.setIfInBounds_toArray, List.set_cons_zero, List.set_cons_succ, List.getElem?_toArray, List.getElem?_cons_succ, List.getElem?_cons_zero] at z0 z1 z2 q0 q1 q2
      clear hS hW HO4 HG4 H1 y1 y2
      go_wp2
      have hR := ((HS.out.setR 0 (.int .i64 (width : Int))).setR 1 (.slice A4 (n + 1) c4)).setR 2 (.int .u64 ((last + 1 : Nat) : Int))
      have hbw := hR.below
      refine bodyPost_ret (results_cell_tmp rfl _ _ (w.heap.size + 1 + 1) _ rfl (load_rowW hR.r rfl)) rfl ?_
      have hlen : (lm ++ [y]).length = n + 1 := by rw [List.length_append, HL.out]; rfl
      rw [HY.out]
      refine ⟨A4, c4, ?_, ?_, HM4.out, ?_, hbw⟩
      · rw [hlen]; rfl
      · rw [hlen]; exact HC4.out
      · have hD : ∀ b, (Value.slice A4 (n + 1) c4).ownBlock = some b → ¬ (b = w.heap.size + 1 + 1) := fun b hb e => by have := (HO5.out.lt b hb).1; omega
        have h1 := own_only HO5.out ((onlyE_set (D := fun k => k = w.heap.size + 1 + 1) rfl 0 (.int .i64 (width : Int))).trans ((onlyE_set (D := fun k => k = w.heap.size + 1 + 1) rfl 1 (.slice A4 (n + 1) c4)).trans (onlyE_set (D := fun k => k = w.heap.size + 1 + 1) rfl 2 (.int .u64 ((last + 1 : Nat) : Int))))) hD
        exact KeepsP.new h1 (by omega)
    · skip
      refine wp_build1_step (x := .tmp 24) (y := y) rfl rfl rfl ?_
      go_simp
      have hbl := (RowKit.Below.refl (W0.alloc (.cells #[] 44)).heap.size (W0.alloc (.cells #[] 44))).alloc (Nat.le_refl _) (.cells y.cs 44)
      have hGl := hGa.on hbl
      have hol := own_below hoa hbl
      have hlx : LiesX ((W0.alloc (.cells #[] 44)).alloc (.cells y.cs 44)) (fun k => k = W0.heap.size) (some ⟨W0.heap.size + 1, 0, none⟩) (flat encPf [y]) := LiesX.at_row (alloc2_new W0 (.cells #[] 44) (.cells y.cs 44)) (by omega) (flat_single y).symm
      clear hbl hoa hGa
      have hHeld2 := hGl
      refine hK.out _ _ (fun _ => hHeld2) ?_
      clear hK K hHeld
      have hHeld := hHeld2
      clear hHeld2
      refine wpZ_ready (rs := [3]) (by kernel_rfl) (by simp) ?_
      refine AllReadyZ.cons rfl (fun K hK => ?_) AllReadyZ.nil
      obtain ⟨A3, c3, W3, hrun3, ho3, hg3, hb3, hc3, hm3⟩ := app_frames (c := c) hol HL.out (HAL.out _ hGl.below) hGl.lt (by omega)
      rw [Nat.zero_add, List.nil_append] at ho3
      rw [Nat.zero_add] at hrun3
      have hG3 := hGl.up hb3
      refine wp_append_step (s := .tmp 20) (x := .tmp 22) (t := 26) rfl rfl rfl rfl hrun3 ?_
      go_simp
      have hx1 := ho3
      have hx2 := (hlx.kept (OnlyE.of_grown hg3 rfl)).lies
      have hx3 := hG3.lt
      clear ho3 hg3 hb3 hc3 hm3 hol hGl hlx hrun3
      have hHeld2 := hG3
      refine hK.out _ _ (fun _ => hHeld2) ?_
      clear hK K hHeld
      have hHeld := hHeld2
      clear hHeld2
      clear hG3
      obtain ⟨A4, c4, W4, hrun4, ho4, hg4, hb4, hc4, hm4⟩ := app_frames (ys := [y]) (m := 1) (c := 1) hx1 rfl hx2 hx3 (by omega)
      rw [← flat_append] at ho4
      have HO4 := Lib.hid ho4
      have hG4 := hHeld.up hb4
      have HC4 := Lib.hid hc4
      have HM4 := Lib.hid hm4
      clear hx1 hx2 ho4 hg4 hb4 hc4 hm4
      refine wpZ_ready (rs := [6]) (by kernel_rfl) (by simp) ?_
      refine AllReadyZ.cons rfl (fun K hK => ?_) AllReadyZ.nil
      refine wp_append_step (s := .tmp 23) (x := .tmp 25) (t := 26) rfl rfl rfl rfl hrun4 ?_
      go_simp
      have hHeld2 := hG4
      refine hK.out _ _ (fun _ => hHeld2) ?_
      clear hK K hHeld
      have hHeld := hHeld2
      clear hHeld2
      refine wpZ_take (i := 7) (d := 27) (v := ?_) rfl rfl (by kernel_rfl) (by kernel_rfl) (by kernel_rfl) (by kernel_rfl) (fun _ _ _ h => h) (Or.inl ⟨by rfl, ?_⟩) hHeld ?_
      rotate_left
      · (intro _ hSw; go_simp; try with_reducible rfl)
      simp only [List.setIfInBounds_toArray, List.set_cons_zero, List.set_cons_succ]
      have HG4 := Lib.hid hG4
      have y1 := hG4.cellG 1
      have y2 := hG4.frG 1
      simp only [rCells, List.getElem?_toArray, List.getElem?_cons_succ, List.getElem?_cons_zero] at y1
      clear hG4 hHeld hrun4
      refine wpZ_ready (rs := [8]) (by kernel_rfl) (by simp) ?_
      refine AllReadyZ.cons rfl (fun K hK => ?_) AllReadyZ.nil
      go_simp
      refine hK.out _ _ (fun h => absurd rfl h) ?_
      clear hK K
      refine wpZ_done (by kernel_rfl) ?_ _
      have hS := HG4.out.setG 1 (.slice A4 (n + 1) c4)
      generalize hW : World.setCell W4 ⟨w.heap.size, 1, none⟩ (.slice A4 (n + 1) c4) = W at hS ⊢
      have HO5 : Hid (W.ownsRow (w.heap.size + 3) 44 16 (.slice A4 (n + 1) c4) (n + 1) (flat encPf (lm ++ [y]))) := by
        show World.ownsRow _ _ _ _ _ _ _
        rw [← hW]
        exact own_only HO4.out (onlyE_set (D := fun k => k = w.heap.size) rfl 1 _) fun b hb e => by have := (HO4.out.lt b hb).1; omega
      have z0 := hS.cellG 0
      have z1 := hS.cellG 1
      have z2 := hS.cellG 2
      have q0 := hS.cellR 0
      have q1 := hS.cellR 1
      have q2 := hS.cellR 2
      have r0 := hS.frR 0
      have r1 := hS.frR 1
      have r2 := hS.frR 2
      have HS := Lib.hid hS
      simp only [rCells, zeroW, List.setIfInBounds_toArray, List.set_cons_zero, List.set_cons_succ, List.getElem?_toArray, List.getElem?_cons_succ, List.getElem?_cons_zero] at z0 z1 z2 q0 q1 q2
      clear hS hW HO4 HG4 H1 y1 y2
      go_wp2
      have hR := ((HS.out.setR 0 (.int .i64 (width : Int))).setR 1 (.slice A4 (n + 1) c4)).setR 2 (.int .u64 ((last + 1 : Nat) : Int))
      have hbw := hR.below
      refine bodyPost_ret (results_cell_tmp rfl _ _ (w.heap.size + 1 + 1) _ rfl (load_rowW hR.r rfl)) rfl ?_
      have hlen : (lm ++ [y]).length = n + 1 := by rw [List.length_append, HL.out]; rfl
      rw [HY.out]
      refine ⟨A4, c4, ?_, ?_, HM4.out, ?_, hbw⟩
      · rw [hlen]; rfl
      · rw [hlen]; exact HC4.out
      · have hD : ∀ b, (Value.slice A4 (n + 1) c4).ownBlock = some b → ¬ (b = w.heap.size + 1 + 1) := fun b hb e => by have := (HO5.out.lt b hb).1; omega
        have h1 := own_only HO5.out ((onlyE_set (D := fun k => k = w.heap.size + 1 + 1) rfl 0 (.int .i64 (width : Int))).trans ((onlyE_set (D := fun k => k = w.heap.size + 1 + 1) rfl 1 (.slice A4 (n + 1) c4)).trans (onlyE_set (D := fun k => k = w.heap.size + 1 + 1) rfl 2 (.int .u64 ((last + 1 : Nat) : Int))))) hD
        exact KeepsP.new h1 (by omega)
  · skip
    refine wp_build1_step (x := .tmp 24) (y := y) rfl rfl rfl ?_
    go_simp
    have hGl := H1.out.on ((RowKit.Below.refl _ _).alloc (Nat.le_refl _) (.cells y.cs 44))
    clear hHeld
    have hHeld := hGl
    have hHeld2 := hGl
    refine hK.out _ _ (fun _ => hHeld2) ?_
    clear hK K hHeld
    have hHeld := hHeld2
    clear hHeld2
    refine wpZ_ready (rs := [0]) (by kernel_rfl) (by simp) ?_
    refine AllReadyZ.cons rfl (fun K hK => ?_) AllReadyZ.nil
    go_simp
    have hGa := hGl.on ((RowKit.Below.refl _ _).alloc (Nat.le_refl _) (.cells #[] 44))
    have hoa : ((W0.alloc (.cells y.cs 44)).alloc (.cells #[] 44)).ownsRow (w.heap.size + 3) 44 16 (.slice (some ⟨(W0.alloc (.cells y.cs 44)).heap.size, 0, none⟩) 0 0) 0 [] := World.ownsRow_lit (W0.alloc (.cells y.cs 44)) #[] 0 hGl.lt (Nat.zero_le _) rfl
    have hlx : LiesX ((W0.alloc (.cells y.cs 44)).alloc (.cells #[] 44)) (fun k => k = W0.heap.size + 1) (some ⟨W0.heap.size, 0, none⟩) (flat encPf [y]) := LiesX.at_row ((heap_alloc_old _ _ (by simp)).trans (heap_alloc_new W0 (.cells y.cs 44))) (by omega) (flat_single y).symm
    rw [show (W0.alloc (.cells y.cs 44)).heap.size = W0.heap.size + 1 by simp] at hoa
    clear hGl
    have hHeld2 := hGa
    refine hK.out _ _ (fun _ => hHeld2) ?_
    clear hK K hHeld
    have hHeld := hHeld2
    clear hHeld2
    refine wpZ_ready (rs := [3]) (by kernel_rfl) (by simp) ?_
    refine AllReadyZ.cons rfl (fun K hK => ?_) AllReadyZ.nil
    obtain ⟨A3, c3, W3, hrun3, ho3, hg3, hb3, hc3, hm3⟩ := app_frames (c := c) hoa HL.out (HAL.out _ hGa.below) hGa.lt (by omega)
    rw [Nat.zero_add, List.nil_append] at ho3
    rw [Nat.zero_add] at hrun3
    have hG3 := hGa.up hb3
    refine wp_append_step (s := .tmp 20) (x := .tmp 22) (t := 26) rfl rfl rfl rfl hrun3 ?_
    go_simp
    have hx1 := ho3
    have hx2 := (hlx.kept (OnlyE.of_grown hg3 rfl)).lies
    have hx3 := hG3.lt
    clear ho3 hg3 hb3 hc3 hm3 hoa hGa hlx hrun3
    have hHeld2 := hG3
    refine hK.out _ _ (fun _ => hHeld2) ?_
    clear hK K hHeld
    have hHeld := hHeld2
    clear hHeld2
    clear hG3
    obtain ⟨A4, c4, W4, hrun4, ho4, hg4, hb4, hc4, hm4⟩ := app_frames (ys := [y]) (m := 1) (c := 1) hx1 rfl hx2 hx3 (by omega)
    rw [← flat_append] at ho4
    have HO4 := Lib.hid ho4
    have hG4 := hHeld.up hb4
    have HC4 := Lib.hid hc4
    have HM4 := Lib.hid hm4
    clear hx1 hx2 ho4 hg4 hb4 hc4 hm4
    refine wpZ_ready (rs := [6]) (by kernel_rfl) (by simp) ?_
    refine AllReadyZ.cons rfl (fun K hK => ?_) AllReadyZ.nil
    refine wp_append_step (s := .tmp 23) (x := .tmp 25) (t := 26) rfl rfl rfl rfl hrun4 ?_
    go_simp
    have hHeld2 := hG4
    refine hK.out _ _ (fun _ => hHeld2) ?_
    clear hK K hHeld
    have hHeld := hHeld2
    clear hHeld2
    refine wpZ_take (i := 7) (d := 27) (v := ?_) rfl rfl (by kernel_rfl) (by kernel_rfl) (by kernel_rfl) (by kernel_rfl) (fun _ _ _ h => h) (Or.inl ⟨by rfl, ?_⟩) hHeld ?_
    rotate_left
    · (intro _ hSw; go_simp; try with_reducible rfl)
    simp only [List.setIfInBounds_toArray, List.set_cons_zero, List.set_cons_succ]
    have HG4 := Lib.hid hG4
    have y1 := hG4.cellG 1
    have y2 := hG4.frG 1
    simp only [rCells, List.getElem?_toArray, List.getElem?_cons_succ, List.getElem?_cons_zero] at y1
    clear hG4 hHeld hrun4
    refine wpZ_ready (rs := [8]) (by kernel_rfl) (by simp) ?_
    refine AllReadyZ.cons rfl (fun K hK => ?_) AllReadyZ.nil
    go_simp
    refine hK.out _ _ (fun h => absurd rfl h) ?_
    clear hK K
    refine wpZ_done (by kernel_rfl) ?_ _
    have hS := HG4.out.setG 1 (.slice A4 (n + 1) c4)
    generalize hW : World.setCell W4 ⟨w.heap.size, 1, none⟩ (.slice A4 (n + 1) c4) = W at hS ⊢
    have HO5 : Hid (W.ownsRow (w.heap.size + 3) 44 16 (.slice A4 (n + 1) c4) (n + 1) (flat encPf (lm ++ [y]))) := by
      show World.ownsRow _ _ _ _ _ _ _
      rw [← hW]
      exact own_only HO4.out (onlyE_set (D := fun k => k = w.heap.size) rfl 1 _) fun b hb e => by have := (HO4.out.lt b hb).1; omega
    have z0 := hS.cellG 0
    have z1 := hS.cellG 1
    have z2 := hS.cellG 2
    have q0 := hS.cellR 0
    have q1 := hS.cellR 1
    have q2 := hS.cellR 2
    have r0 := hS.frR 0
    have r1 := hS.frR 1
    have r2 := hS.frR 2
    have HS := Lib.hid hS
    simp only [rCells, zeroW, List.setIfInBounds_toArray, List.set_cons_zero, List.set_cons_succ, List.getElem?_toArray, List.getElem?_cons_succ, List.getElem?_cons_zero] at z0 z1 z2 q0 q1 q2
    clear hS hW HO4 HG4 H1 y1 y2
    go_wp2
    have hR := ((HS.out.setR 0 (.int .i64 (width : Int))).setR 1 (.slice A4 (n + 1) c4)).setR 2 (.int .u64 ((last + 1 : Nat) : Int))
    have hbw := hR.below
    refine bodyPost_ret (results_cell_tmp rfl _ _ (w.heap.size + 1 + 1) _ rfl (load_rowW hR.r rfl)) rfl ?_
    have hlen : (lm ++ [y]).length = n + 1 := by rw [List.length_append, HL.out]; rfl
    rw [HY.out]
    refine ⟨A4, c4, ?_, ?_, HM4.out, ?_, hbw⟩
    · rw [hlen]; rfl
    · rw [hlen]; exact HC4.out
    · have hD : ∀ b, (Value.slice A4 (n + 1) c4).ownBlock = some b → ¬ (b = w.heap.size + 1 + 1) := fun b hb e => by have := (HO5.out.lt b hb).1; omega
      have h1 := own_only HO5.out ((onlyE_set (D := fun k => k = w.heap.size + 1 + 1) rfl 0 (.int .i64 (width : Int))).trans ((onlyE_set (D := fun k => k = w.heap.size + 1 + 1) rfl 1 (.slice A4 (n + 1) c4)).trans (onlyE_set (D := fun k => k = w.heap.size + 1 + 1) rfl 2 (.int .u64 ((last + 1 : Nat) : Int))))) hD
      exact KeepsP.new h1 (by omega)

end Go.Proofs.Ytbkkpimhoeagdaa
