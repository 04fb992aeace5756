/- The document's Twice. -/
import Derived.Test.YtjecphjdmjoeiaaBgT
namespace Go.Proofs.Ytjecphjdmjoeiaa
open Go.RowKit Go.Sort

theorem refTwice_no (A : Option Addr) (n c room lost : Nat) (gl : List (List UInt8 × Bool)) (i : Int) (w : World) (hl : gl.length = n) (hnc : n ≤ c) (hcm : c ≤ maxLen) (hi : ¬ (0 ≤ i ∧ i < n) ∨ room ≤ n) :
    Calls Try.prog 23 #[.agg #[.int .i64 (room : Int), .slice A n c, .int .i64 (lost : Int)], .int .i64 i] w (GGot w A gl room gl lost #[.bool false]) := by
  have HL := Lib.hid hl
  have hbw : ∀ o1 o2, RowKit.Below w.heap.size w ((w.alloc o1).alloc o2) := fun o1 o2 => ((RowKit.Below.refl _ _).alloc (Nat.le_refl _) _).alloc (by simp) _
  clear hl
  by_cases h0 : i < 0
  · have d0 : decide (i < 0) = true := by simpa using h0
    clear hi
    go_enter Try.func23, Try.ntmps23
    go_wp2
    refine bodyPost_ret (results_cell_tmp rfl _ _ (w.heap.size + 1) _ rfl (load_rowG (alloc2_new _ _ _) rfl)) rfl ?_
    exact ⟨A, c, by rw [HL.out]; rfl, by rw [HL.out]; exact hnc, hcm, KeepsG.same A gl (hbw _ _), hbw _ _⟩
  · have d0 : decide (i < 0) = false := by simpa using h0
    by_cases h1 : (n : Int) ≤ i
    · have d1 : decide ((n : Int) ≤ i) = true := by simpa using h1
      have d1' : decide (i < (n : Int)) = false := by simp; omega
      clear hi
      go_enter Try.func23, Try.ntmps23
      go_wp2
      refine bodyPost_ret (results_cell_tmp rfl _ _ (w.heap.size + 1) _ rfl (load_rowG (alloc2_new _ _ _) rfl)) rfl ?_
      exact ⟨A, c, by rw [HL.out]; rfl, by rw [HL.out]; exact hnc, hcm, KeepsG.same A gl (hbw _ _), hbw _ _⟩
    · have d1 : decide ((n : Int) ≤ i) = false := by simpa using h1
      have d1' : decide (i < (n : Int)) = true := by simp; omega
      have h2 : room ≤ n := by omega
      have d2 : decide ((room : Int) ≤ (n : Int)) = true := by simp; omega
      have d2' : decide ((n : Int) < (room : Int)) = false := by simp; omega
      clear hi
      go_enter Try.func23, Try.ntmps23
      go_wp2
      refine bodyPost_ret (results_cell_tmp rfl _ _ (w.heap.size + 1) _ rfl (load_rowG (alloc2_new _ _ _) rfl)) rfl ?_
      exact ⟨A, c, by rw [HL.out]; rfl, by rw [HL.out]; exact hnc, hcm, KeepsG.same A gl (hbw _ _), hbw _ _⟩

/-- The cells of the thing at place i. -/
theorem gl_at {w : World} {B : Nat} {A : Option Addr} {gl : List (List UInt8 × Bool)} (h : Lies w B A (flat encG gl)) {i : Nat} (hi : i < gl.length) :
    ∃ b off, A = some ⟨b, off, none⟩ ∧ b < B ∧ w.cell? ⟨b, off + i * 2, none⟩ = some (.string (str gl[i].1)) ∧ w.cell? ⟨b, off + i * 2 + 1, none⟩ = some (.bool gl[i].2) := by
  have hn : flat encG gl ≠ [] := by
    intro h0
    have := flat_length encG_len gl
    rw [h0] at this
    simp at this
    omega
  obtain ⟨b, off, rfl, hb, hc⟩ := h hn
  have hf := fun j hj => flat_at encG_len gl i j hj hi
  refine ⟨b, off, rfl, hb, hc _ _ (hf 0 (by decide)), ?_⟩
  have := hc (i * 2 + 1) _ (hf 1 (by decide))
  rwa [← Nat.add_assoc] at this

set_option maxHeartbeats 1600000 in
theorem refTwice_any (A : Option Addr) (n c room lost : Nat) (gl : List (List UInt8 × Bool)) (i : Nat) (w : World) (hl : gl.length = n) (hi : i < gl.length) (hr : ¬ room ≤ n) (hn : n ≤ 5000)
    (hG : Lies w w.heap.size A (flat encG gl)) :
    Calls Try.prog 23 #[.agg #[.int .i64 (room : Int), .slice A n c, .int .i64 (lost : Int)], .int .i64 (i : Int)] w (GGot w A gl room (gl ++ [gl[i]]) lost #[.bool true]) := by
  have d1 : decide ((n : Int) ≤ (i : Int)) = false := by simp; omega
  have d1' : decide ((i : Int) < (n : Int)) = true := by simp; omega
  have d2 : decide ((room : Int) ≤ (n : Int)) = false := by simp; omega
  have d2' : decide ((n : Int) < (room : Int)) = true := by simp; omega
  have hin : i < n := by omega
  obtain ⟨bL, off, rfl, hbL, k0, k1⟩ := gl_at hG hi
  generalize gl[i] = y at k0 k1 ⊢
  obtain ⟨yb, yt⟩ := y
  simp only [] at k0 k1
  have HL := Lib.hid hl
  have HG := Lib.hid hG
  have HK0 : Hid (∀ W, RowKit.Below w.heap.size w W → W.cell? ⟨bL, off + i * 2, none⟩ = some (.string (str yb))) := fun W hW => (hW.cell (p := ⟨bL, off + i * 2, none⟩) hbL).trans k0
  have HK1 : Hid (∀ W, RowKit.Below w.heap.size w W → W.cell? ⟨bL, off + i * 2 + 1, none⟩ = some (.bool yt)) := fun W hW => (hW.cell (p := ⟨bL, off + i * 2 + 1, none⟩) hbL).trans k1
  clear hl hG k0 k1 hi
  go_enter Try.func23, Try.ntmps23
  go_wp2_with fail
  generalize hW9 : World.alloc (World.alloc w (.cells #[.int .i64 (room : Int), .slice (some ⟨bL, off, none⟩) n c, .int .i64 (lost : Int)] 28)) (.cells #[.int .i64 0, .slice none 0 0, .int .i64 0] 28) = W9
  have H0 : Hid (GBox w (gCells room (.slice (some ⟨bL, off, none⟩) n c) lost) zeroG W9) := GBox.start hW9
  clear hW9
  refine wp_region_Z 12 (GBox w (gCells room (.slice (some ⟨bL, off, none⟩) n c) lost) zeroG) (by kernel_rfl) ?_
  have hHeld : GBox w (gCells room (.slice (some ⟨bL, off, none⟩) n c) lost) zeroG W9.drew := H0.out.on (drewB _)
  generalize World.drew W9 = W0 at hHeld ⊢
  have H1 := Lib.hid hHeld
  have HGL : Hid (∀ W, RowKit.Below w.heap.size w W → Lies W w.heap.size (some ⟨bL, off, none⟩) (flat encG gl)) := fun W hW => HG.out.below hW
  clear H0
  refine wpZ_take (i := 1) (d := 25) (v := ?_) rfl rfl (by kernel_rfl) (by kernel_rfl) (by kernel_rfl) (by kernel_rfl) (fun _ _ _ h => h) (Or.inl ⟨by rfl, ?_⟩) hHeld ?_
  rotate_left
  · (intro _ hSw; go_simp; try with_reducible rfl)
  simp only [List.setIfInBounds_toArray, List.set_cons_zero, List.set_cons_succ]
  refine wpZ_take (i := 2) (d := 26) (v := ?_) rfl rfl (by kernel_rfl) (by kernel_rfl) (by kernel_rfl) (by kernel_rfl) (fun _ _ _ h => h) (Or.inl ⟨by rfl, ?_⟩) hHeld ?_
  rotate_left
  · (intro _ hSw; have x1 := hSw.cell 1; simp only [gCells, List.getElem?_toArray, List.getElem?_cons_succ, List.getElem?_cons_zero] at x1; go_simp; try with_reducible rfl)
  simp only [List.setIfInBounds_toArray, List.set_cons_zero, List.set_cons_succ]
  refine wpZ_take (i := 4) (d := 28) (v := ?_) rfl rfl (by kernel_rfl) (by kernel_rfl) (by kernel_rfl) (by kernel_rfl) (fun _ _ _ h => h) (Or.inl ⟨by rfl, ?_⟩) hHeld ?_
  rotate_left
  · (intro _ hSw; go_simp; try with_reducible rfl)
  simp only [List.setIfInBounds_toArray, List.set_cons_zero, List.set_cons_succ]
  refine wpZ_take (i := 5) (d := 29) (v := ?_) rfl rfl (by kernel_rfl) (by kernel_rfl) (by kernel_rfl) (by kernel_rfl) (fun _ _ _ h => h) (Or.inl ⟨by rfl, ?_⟩) hHeld ?_
  rotate_left
  · (intro _ hSw; have x1 := hSw.cell 1; simp only [gCells, List.getElem?_toArray, List.getElem?_cons_succ, List.getElem?_cons_zero] at x1; go_simp; try with_reducible rfl)
  simp only [List.setIfInBounds_toArray, List.set_cons_zero, List.set_cons_succ]
  refine wpZ_take (i := 6) (d := 30) (v := ?_) rfl rfl (by kernel_rfl) (by kernel_rfl) (by kernel_rfl) (by kernel_rfl) (fun _ _ _ h => h) (Or.inl ⟨by rfl, ?_⟩) hHeld ?_
  rotate_left
  · (intro _ hSw; go_simp; try with_reducible rfl)
  simp only [List.setIfInBounds_toArray, List.set_cons_zero, List.set_cons_succ]
  refine wpZ_take (i := 7) (d := 31) (v := ?_) rfl rfl (by kernel_rfl) (by kernel_rfl) (by kernel_rfl) (by kernel_rfl) (fun _ _ _ h => h) (Or.inl ⟨by rfl, ?_⟩) hHeld ?_
  rotate_left
  · (intro _ hSw; go_simp; try with_reducible rfl)
  simp only [List.setIfInBounds_toArray, List.set_cons_zero, List.set_cons_succ]
  refine wpZ_take (i := 8) (d := 32) (v := ?_) rfl rfl (by kernel_rfl) (by kernel_rfl) (by kernel_rfl) (by kernel_rfl) (fun _ _ _ h => h) (Or.inl ⟨by rfl, ?_⟩) hHeld ?_
  rotate_left
  · (intro _ hSw; have x1 := HK0.out _ hSw.below; have x2 := HK1.out _ hSw.below; go_simp; try with_reducible rfl)
  simp only [List.setIfInBounds_toArray, List.set_cons_zero, List.set_cons_succ]
  refine wpZ_ready (rs := [0, 9]) (by kernel_rfl) (by simp) ?_
  refine AllReadyZ.cons rfl (fun K hK => ?_) (AllReadyZ.cons rfl (fun K hK => ?_) AllReadyZ.nil)
  · skip
    go_simp
    have hGa := H1.out.on ((RowKit.Below.refl _ _).alloc (Nat.le_refl _) (.cells #[] 40))
    have hoa : (W0.alloc (.cells #[] 40)).ownsRow (w.heap.size + 2) 40 2 (.slice (some ⟨W0.heap.size, 0, none⟩) 0 0) 0 [] := World.ownsRow_lit W0 #[] 0 H1.out.lt (Nat.zero_le _) rfl
    have hHeld2 := hGa
    refine hK.out _ _ (fun _ => hHeld2) ?_
    clear hK K hHeld
    have hHeld := hHeld2
    clear hHeld2
    refine wpZ_ready (rs := [3, 9]) (by kernel_rfl) (by simp) ?_
    refine AllReadyZ.cons rfl (fun K hK => ?_) (AllReadyZ.cons rfl (fun K hK => ?_) AllReadyZ.nil)
    · skip
      obtain ⟨A3, c3, W3, hrun3, ho3, hg3, hb3, hc3, hm3⟩ := gApp hoa HL.out (HGL.out _ hGa.below) hGa.lt (by omega)
      rw [Nat.zero_add, List.nil_append] at ho3
      rw [Nat.zero_add] at hrun3
      have hG3 := hGa.up hb3
      refine wp_append_step (s := .tmp 24) (x := .tmp 26) (t := 26) rfl rfl rfl rfl hrun3 ?_
      go_simp
      have hHeld2 := hG3
      refine hK.out _ _ (fun _ => hHeld2) ?_
      clear hK K hHeld
      have hHeld := hHeld2
      clear hHeld2
      refine wpZ_ready (rs := [9]) (by kernel_rfl) (by simp) ?_
      refine AllReadyZ.cons rfl (fun K hK => ?_) AllReadyZ.nil
      go_simp
      have hbl := (RowKit.Below.refl W3.heap.size W3).alloc (Nat.le_refl _) (.cells #[.string (str yb), .bool yt] 40)
      have hGl := hG3.on hbl
      have hx1 := own_below ho3 hbl
      have hx2 := lies_new W3 #[.string (str yb), .bool yt] 40
      have hx3 : (w.heap.size + 2) ≤ (W3.alloc (.cells #[.string (str yb), .bool yt] 40)).heap.size := hGl.lt
      clear ho3 hg3 hb3 hc3 hm3 hbl hoa hGa hG3 hrun3
      have hHeld2 := hGl
      refine hK.out _ _ (fun _ => hHeld2) ?_
      clear hK K hHeld
      have hHeld := hHeld2
      clear hHeld2
      clear hGl
      obtain ⟨A4, c4, W4, hrun4, ho4, hg4, hb4, hc4, hm4⟩ := gApp (gl := [(yb, yt)]) (m := 1) (c := 1) hx1 rfl hx2 hx3 (by omega)
      rw [← flat_append] at ho4
      have HO4 := Lib.hid ho4
      have hG4 := hHeld.up hb4
      have HC4 := Lib.hid hc4
      have HM4 := Lib.hid hm4
      clear hx1 hx2 ho4 hg4 hb4 hc4 hm4
      refine wpZ_ready (rs := [10]) (by kernel_rfl) (by simp) ?_
      refine AllReadyZ.cons rfl (fun K hK => ?_) AllReadyZ.nil
      refine wp_append_step (s := .tmp 27) (x := .tmp 33) (t := 26) rfl rfl rfl rfl hrun4 ?_
      go_simp
      have hHeld2 := hG4
      refine hK.out _ _ (fun _ => hHeld2) ?_
      clear hK K hHeld
      have hHeld := hHeld2
      clear hHeld2
      refine wpZ_take (i := 11) (d := 35) (v := ?_) rfl rfl (by kernel_rfl) (by kernel_rfl) (by kernel_rfl) (by kernel_rfl) (fun _ _ _ h => h) (Or.inl ⟨by rfl, ?_⟩) hHeld ?_
      rotate_left
      · (intro _ hSw; go_simp; try with_reducible rfl)
      simp only [List.setIfInBounds_toArray, List.set_cons_zero, List.set_cons_succ]
      have HG4 := Lib.hid hG4
      have y1 := hG4.cell 1
      have y2 := hG4.fr 1
      simp only [gCells, List.getElem?_toArray, List.getElem?_cons_succ, List.getElem?_cons_zero] at y1
      clear hG4 hHeld hrun4
      refine wpZ_ready (rs := [12]) (by kernel_rfl) (by simp) ?_
      refine AllReadyZ.cons rfl (fun K hK => ?_) AllReadyZ.nil
      go_simp
      refine hK.out _ _ (fun h => absurd rfl h) ?_
      clear hK K
      refine wpZ_done (by kernel_rfl) ?_ _
      have hS := HG4.out.setBox 1 (.slice A4 (n + 1) c4)
      generalize hW : World.setCell W4 ⟨w.heap.size, 1, none⟩ (.slice A4 (n + 1) c4) = W at hS ⊢
      have HO5 : Hid (W.ownsRow (w.heap.size + 2) 40 2 (.slice A4 (n + 1) c4) (n + 1) (flat encG (gl ++ [(yb, yt)]))) := by
        show World.ownsRow _ _ _ _ _ _ _
        rw [← hW]
        exact own_only HO4.out (onlyE_set (D := fun k => k = w.heap.size) rfl 1 _) fun b hb e => by have := (HO4.out.lt b hb).1; omega
      have z0 := hS.cell 0
      have z1 := hS.cell 1
      have z2 := hS.cell 2
      have q0 := hS.cellR 0
      have q1 := hS.cellR 1
      have q2 := hS.cellR 2
      have r0 := hS.frR 0
      have r1 := hS.frR 1
      have r2 := hS.frR 2
      have HS := Lib.hid hS
      simp only [gCells, zeroG, List.setIfInBounds_toArray, List.set_cons_zero, List.set_cons_succ, List.getElem?_toArray, List.getElem?_cons_succ, List.getElem?_cons_zero] at z0 z1 z2 q0 q1 q2
      clear hS hW HO4 HG4 H1 y1 y2
      go_wp2
      have hR := ((HS.out.setRes 0 (.int .i64 (room : Int))).setRes 1 (.slice A4 (n + 1) c4)).setRes 2 (.int .i64 (lost : Int))
      have hbw := hR.below
      refine bodyPost_ret (results_cell_tmp rfl _ _ (w.heap.size + 1) _ rfl (load_rowG hR.res rfl)) rfl ?_
      have hlen : (gl ++ [(yb, yt)]).length = n + 1 := by rw [List.length_append, HL.out]; rfl
      refine ⟨A4, c4, ?_, ?_, HM4.out, ?_, hbw⟩
      · rw [hlen]; rfl
      · rw [hlen]; exact HC4.out
      · have hD : ∀ b, (Value.slice A4 (n + 1) c4).ownBlock = some b → ¬ (b = w.heap.size + 1) := fun b hb e => by have := (HO5.out.lt b hb).1; omega
        have h1 := own_only HO5.out ((onlyE_set (D := fun k => k = w.heap.size + 1) rfl 0 (.int .i64 (room : Int))).trans ((onlyE_set (D := fun k => k = w.heap.size + 1) rfl 1 (.slice A4 (n + 1) c4)).trans (onlyE_set (D := fun k => k = w.heap.size + 1) rfl 2 (.int .i64 (lost : Int))))) hD
        exact KeepsG.new h1 (by omega)
    · skip
      go_simp
      have hbl := (RowKit.Below.refl (W0.alloc (.cells #[] 40)).heap.size (W0.alloc (.cells #[] 40))).alloc (Nat.le_refl _) (.cells #[.string (str yb), .bool yt] 40)
      have hGl := hGa.on hbl
      have hol := own_below hoa hbl
      have hlx : LiesX ((W0.alloc (.cells #[] 40)).alloc (.cells #[.string (str yb), .bool yt] 40)) (fun k => k = W0.heap.size) (some ⟨W0.heap.size + 1, 0, none⟩) #[.string (str yb), .bool yt].toList := LiesX.at_block (alloc2_new W0 (.cells #[] 40) (.cells #[.string (str yb), .bool yt] 40)) (by omega) rfl
      clear hbl hoa hGa
      have hHeld2 := hGl
      refine hK.out _ _ (fun _ => hHeld2) ?_
      clear hK K hHeld
      have hHeld := hHeld2
      clear hHeld2
      refine wpZ_ready (rs := [3]) (by kernel_rfl) (by simp) ?_
      refine AllReadyZ.cons rfl (fun K hK => ?_) AllReadyZ.nil
      obtain ⟨A3, c3, W3, hrun3, ho3, hg3, hb3, hc3, hm3⟩ := gApp hol HL.out (HGL.out _ hGl.below) hGl.lt (by omega)
      rw [Nat.zero_add, List.nil_append] at ho3
      rw [Nat.zero_add] at hrun3
      have hG3 := hGl.up hb3
      refine wp_append_step (s := .tmp 24) (x := .tmp 26) (t := 26) rfl rfl rfl rfl hrun3 ?_
      go_simp
      have hx1 := ho3
      have hx2 := (hlx.kept (OnlyE.of_grown hg3 rfl)).lies
      have hx3 := hG3.lt
      clear ho3 hg3 hb3 hc3 hm3 hol hGl hlx hrun3
      have hHeld2 := hG3
      refine hK.out _ _ (fun _ => hHeld2) ?_
      clear hK K hHeld
      have hHeld := hHeld2
      clear hHeld2
      clear hG3
      obtain ⟨A4, c4, W4, hrun4, ho4, hg4, hb4, hc4, hm4⟩ := gApp (gl := [(yb, yt)]) (m := 1) (c := 1) hx1 rfl hx2 hx3 (by omega)
      rw [← flat_append] at ho4
      have HO4 := Lib.hid ho4
      have hG4 := hHeld.up hb4
      have HC4 := Lib.hid hc4
      have HM4 := Lib.hid hm4
      clear hx1 hx2 ho4 hg4 hb4 hc4 hm4
      refine wpZ_ready (rs := [10]) (by kernel_rfl) (by simp) ?_
      refine AllReadyZ.cons rfl (fun K hK => ?_) AllReadyZ.nil
      refine wp_append_step (s := .tmp 27) (x := .tmp 33) (t := 26) rfl rfl rfl rfl hrun4 ?_
      go_simp
      have hHeld2 := hG4
      refine hK.out _ _ (fun _ => hHeld2) ?_
      clear hK K hHeld
      have hHeld := hHeld2
      clear hHeld2
      refine wpZ_take (i := 11) (d := 35) (v := ?_) rfl rfl (by kernel_rfl) (by kernel_rfl) (by kernel_rfl) (by kernel_rfl) (fun _ _ _ h => h) (Or.inl ⟨by rfl, ?_⟩) hHeld ?_
      rotate_left
      · (intro _ hSw; go_simp; try with_reducible rfl)
      simp only [List.setIfInBounds_toArray, List.set_cons_zero, List.set_cons_succ]
      have HG4 := Lib.hid hG4
      have y1 := hG4.cell 1
      have y2 := hG4.fr 1
      simp only [gCells, List.getElem?_toArray, List.getElem?_cons_succ, List.getElem?_cons_zero] at y1
      clear hG4 hHeld hrun4
      refine wpZ_ready (rs := [12]) (by kernel_rfl) (by simp) ?_
      refine AllReadyZ.cons rfl (fun K hK => ?_) AllReadyZ.nil
      go_simp
      refine hK.out _ _ (fun h => absurd rfl h) ?_
      clear hK K
      refine wpZ_done (by kernel_rfl) ?_ _
      have hS := HG4.out.setBox 1 (.slice A4 (n + 1) c4)
      generalize hW : World.setCell W4 ⟨w.heap.size, 1, none⟩ (.slice A4 (n + 1) c4) = W at hS ⊢
      have HO5 : Hid (W.ownsRow (w.heap.size + 2) 40 2 (.slice A4 (n + 1) c4) (n + 1) (flat encG (gl ++ [(yb, yt)]))) := by
        show World.ownsRow _ _ _ _ _ _ _
        rw [← hW]
        exact own_only HO4.out (onlyE_set (D := fun k => k = w.heap.size) rfl 1 _) fun b hb e => by have := (HO4.out.lt b hb).1; omega
      have z0 := hS.cell 0
      have z1 := hS.cell 1
      have z2 := hS.cell 2
      have q0 := hS.cellR 0
      have q1 := hS.cellR 1
      have q2 := hS.cellR 2
      have r0 := hS.frR 0
      have r1 := hS.frR 1
      have r2 := hS.frR 2
      have HS := Lib.hid hS
      simp only [gCells, zeroG, List.setIfInBounds_toArray, List.set_cons_zero, List.set_cons_succ, List.getElem?_toArray, List.getElem?_cons_succ, List.getElem?_cons_zero] at z0 z1 z2 q0 q1 q2
      clear hS hW HO4 HG4 H1 y1 y2
      go_wp2
      have hR := ((HS.out.setRes 0 (.int .i64 (room : Int))).setRes 1 (.slice A4 (n + 1) c4)).setRes 2 (.int .i64 (lost : Int))
      have hbw := hR.below
      refine bodyPost_ret (results_cell_tmp rfl _ _ (w.heap.size + 1) _ rfl (load_rowG hR.res rfl)) rfl ?_
      have hlen : (gl ++ [(yb, yt)]).length = n + 1 := by rw [List.length_append, HL.out]; rfl
      refine ⟨A4, c4, ?_, ?_, HM4.out, ?_, hbw⟩
      · rw [hlen]; rfl
      · rw [hlen]; exact HC4.out
      · have hD : ∀ b, (Value.slice A4 (n + 1) c4).ownBlock = some b → ¬ (b = w.heap.size + 1) := fun b hb e => by have := (HO5.out.lt b hb).1; omega
        have h1 := own_only HO5.out ((onlyE_set (D := fun k => k = w.heap.size + 1) rfl 0 (.int .i64 (room : Int))).trans ((onlyE_set (D := fun k => k = w.heap.size + 1) rfl 1 (.slice A4 (n + 1) c4)).trans (onlyE_set (D := fun k => k = w.heap.size + 1) rfl 2 (.int .i64 (lost : Int))))) hD
        exact KeepsG.new h1 (by omega)
  · skip
    go_simp
    have hGl := H1.out.on ((RowKit.Below.refl _ _).alloc (Nat.le_refl _) (.cells #[.string (str yb), .bool yt] 40))
    clear hHeld
    have hHeld := hGl
    have hHeld2 := hGl
    refine hK.out _ _ (fun _ => hHeld2) ?_
    clear hK K hHeld
    have hHeld := hHeld2
    clear hHeld2
    refine wpZ_ready (rs := [0]) (by kernel_rfl) (by simp) ?_
    refine AllReadyZ.cons rfl (fun K hK => ?_) AllReadyZ.nil
    go_simp
    have hGa := hGl.on ((RowKit.Below.refl _ _).alloc (Nat.le_refl _) (.cells #[] 40))
    have hoa : ((W0.alloc (.cells #[.string (str yb), .bool yt] 40)).alloc (.cells #[] 40)).ownsRow (w.heap.size + 2) 40 2 (.slice (some ⟨(W0.alloc (.cells #[.string (str yb), .bool yt] 40)).heap.size, 0, none⟩) 0 0) 0 [] := World.ownsRow_lit (W0.alloc (.cells #[.string (str yb), .bool yt] 40)) #[] 0 hGl.lt (Nat.zero_le _) rfl
    have hlx : LiesX ((W0.alloc (.cells #[.string (str yb), .bool yt] 40)).alloc (.cells #[] 40)) (fun k => k = W0.heap.size + 1) (some ⟨W0.heap.size, 0, none⟩) #[.string (str yb), .bool yt].toList := LiesX.at_block ((heap_alloc_old _ _ (by simp)).trans (heap_alloc_new W0 (.cells #[.string (str yb), .bool yt] 40))) (by omega) rfl
    rw [show (W0.alloc (.cells #[.string (str yb), .bool yt] 40)).heap.size = W0.heap.size + 1 by simp] at hoa
    clear hGl
    have hHeld2 := hGa
    refine hK.out _ _ (fun _ => hHeld2) ?_
    clear hK K hHeld
    have hHeld := hHeld2
    clear hHeld2
    refine wpZ_ready (rs := [3]) (by kernel_rfl) (by simp) ?_
    refine AllReadyZ.cons rfl (fun K hK => ?_) AllReadyZ.nil
    obtain ⟨A3, c3, W3, hrun3, ho3, hg3, hb3, hc3, hm3⟩ := gApp hoa HL.out (HGL.out _ hGa.below) hGa.lt (by omega)
    rw [Nat.zero_add, List.nil_append] at ho3
    rw [Nat.zero_add] at hrun3
    have hG3 := hGa.up hb3
    refine wp_append_step (s := .tmp 24) (x := .tmp 26) (t := 26) rfl rfl rfl rfl hrun3 ?_
    go_simp
    have hx1 := ho3
    have hx2 := (hlx.kept (OnlyE.of_grown hg3 rfl)).lies
    have hx3 := hG3.lt
    clear ho3 hg3 hb3 hc3 hm3 hoa hGa hlx hrun3
    have hHeld2 := hG3
    refine hK.out _ _ (fun _ => hHeld2) ?_
    clear hK K hHeld
    have hHeld := hHeld2
    clear hHeld2
    clear hG3
    obtain ⟨A4, c4, W4, hrun4, ho4, hg4, hb4, hc4, hm4⟩ := gApp (gl := [(yb, yt)]) (m := 1) (c := 1) hx1 rfl hx2 hx3 (by omega)
    rw [← flat_append] at ho4
    have HO4 := Lib.hid ho4
    have hG4 := hHeld.up hb4
    have HC4 := Lib.hid hc4
    have HM4 := Lib.hid hm4
    clear hx1 hx2 ho4 hg4 hb4 hc4 hm4
    refine wpZ_ready (rs := [10]) (by kernel_rfl) (by simp) ?_
    refine AllReadyZ.cons rfl (fun K hK => ?_) AllReadyZ.nil
    refine wp_append_step (s := .tmp 27) (x := .tmp 33) (t := 26) rfl rfl rfl rfl hrun4 ?_
    go_simp
    have hHeld2 := hG4
    refine hK.out _ _ (fun _ => hHeld2) ?_
    clear hK K hHeld
    have hHeld := hHeld2
    clear hHeld2
    refine wpZ_take (i := 11) (d := 35) (v := ?_) rfl rfl (by kernel_rfl) (by kernel_rfl) (by kernel_rfl) (by kernel_rfl) (fun _ _ _ h => h) (Or.inl ⟨by rfl, ?_⟩) hHeld ?_
    rotate_left
    · (intro _ hSw; go_simp; try with_reducible rfl)
    simp only [List.setIfInBounds_toArray, List.set_cons_zero, List.set_cons_succ]
    have HG4 := Lib.hid hG4
    have y1 := hG4.cell 1
    have y2 := hG4.fr 1
    simp only [gCells, List.getElem?_toArray, List.getElem?_cons_succ, List.getElem?_cons_zero] at y1
    clear hG4 hHeld hrun4
    refine wpZ_ready (rs := [12]) (by kernel_rfl) (by simp) ?_
    refine AllReadyZ.cons rfl (fun K hK => ?_) AllReadyZ.nil
    go_simp
    refine hK.out _ _ (fun h => absurd rfl h) ?_
    clear hK K
    refine wpZ_done (by kernel_rfl) ?_ _
    have hS := HG4.out.setBox 1 (.slice A4 (n + 1) c4)
    generalize hW : World.setCell W4 ⟨w.heap.size, 1, none⟩ (.slice A4 (n + 1) c4) = W at hS ⊢
    have HO5 : Hid (W.ownsRow (w.heap.size + 2) 40 2 (.slice A4 (n + 1) c4) (n + 1) (flat encG (gl ++ [(yb, yt)]))) := by
      show World.ownsRow _ _ _ _ _ _ _
      rw [← hW]
      exact own_only HO4.out (onlyE_set (D := fun k => k = w.heap.size) rfl 1 _) fun b hb e => by have := (HO4.out.lt b hb).1; omega
    have z0 := hS.cell 0
    have z1 := hS.cell 1
    have z2 := hS.cell 2
    have q0 := hS.cellR 0
    have q1 := hS.cellR 1
    have q2 := hS.cellR 2
    have r0 := hS.frR 0
    have r1 := hS.frR 1
    have r2 := hS.frR 2
    have HS := Lib.hid hS
    simp only [gCells, zeroG, List.setIfInBounds_toArray, List.set_cons_zero, List.set_cons_succ, List.getElem?_toArray, List.getElem?_cons_succ, List.getElem?_cons_zero] at z0 z1 z2 q0 q1 q2
    clear hS hW HO4 HG4 H1 y1 y2
    go_wp2
    have hR := ((HS.out.setRes 0 (.int .i64 (room : Int))).setRes 1 (.slice A4 (n + 1) c4)).setRes 2 (.int .i64 (lost : Int))
    have hbw := hR.below
    refine bodyPost_ret (results_cell_tmp rfl _ _ (w.heap.size + 1) _ rfl (load_rowG hR.res rfl)) rfl ?_
    have hlen : (gl ++ [(yb, yt)]).length = n + 1 := by rw [List.length_append, HL.out]; rfl
    refine ⟨A4, c4, ?_, ?_, HM4.out, ?_, hbw⟩
    · rw [hlen]; rfl
    · rw [hlen]; exact HC4.out
    · have hD : ∀ b, (Value.slice A4 (n + 1) c4).ownBlock = some b → ¬ (b = w.heap.size + 1) := fun b hb e => by have := (HO5.out.lt b hb).1; omega
      have h1 := own_only HO5.out ((onlyE_set (D := fun k => k = w.heap.size + 1) rfl 0 (.int .i64 (room : Int))).trans ((onlyE_set (D := fun k => k = w.heap.size + 1) rfl 1 (.slice A4 (n + 1) c4)).trans (onlyE_set (D := fun k => k = w.heap.size + 1) rfl 2 (.int .i64 (lost : Int))))) hD
      exact KeepsG.new h1 (by omega)

end Go.Proofs.Ytjecphjdmjoeiaa
