/- The document's Put. -/
import Derived.Test.YtjecphjdmjoeiaaBgS
namespace Go.Proofs.Ytjecphjdmjoeiaa
open Go.RowKit Go.Sort

theorem refPut_full (A : Option Addr) (n c room lost : Nat) (gl : List (List UInt8 × Bool)) (Ab : Option Addr) (nb cb : Nat) (w : World) (hl : gl.length = n) (hnc : n ≤ c) (hcm : c ≤ maxLen) (hlo : lost ≤ 1000000) (hr : room ≤ n) :
    Calls Try.prog 21 #[.agg #[.int .i64 (room : Int), .slice A n c, .int .i64 (lost : Int)], .slice Ab nb cb] w (GGot w A gl room gl (lost + 1) #[.int .i64 0]) := by
  have hd : decide ((n : Int) < (room : Int)) = false := by simp; omega
  have hd' : decide ((room : Int) ≤ (n : Int)) = true := by simp; omega
  have HL := Lib.hid hl
  clear hl
  go_enter Try.func21, Try.ntmps21
  go_wp2
  refine bodyPost_ret (results_cell_tmp rfl _ _ (w.heap.size + 1) _ rfl (load_rowG (alloc2_new _ _ _) rfl)) rfl ?_
  have hbw : ∀ o1 o2, RowKit.Below w.heap.size w ((w.alloc o1).alloc o2) := fun o1 o2 => ((RowKit.Below.refl _ _).alloc (Nat.le_refl _) _).alloc (by simp) _
  exact ⟨A, c, by rw [HL.out]; rfl, by rw [HL.out]; exact hnc, hcm, KeepsG.same A gl (hbw _ _), hbw _ _⟩

set_option maxHeartbeats 1600000 in
theorem refPut_any (A : Option Addr) (n c room lost : Nat) (gl : List (List UInt8 × Bool)) (Ab : Option Addr) (nb cb : Nat) (b : List UInt8) (w : World) (hl : gl.length = n) (hr : ¬ room ≤ n) (hn : n ≤ 5000)
    (hG : Lies w w.heap.size A (flat encG gl)) (hb : b.length = nb) (hB : Lies w w.heap.size Ab (bvs b)) :
    Calls Try.prog 21 #[.agg #[.int .i64 (room : Int), .slice A n c, .int .i64 (lost : Int)], .slice Ab nb cb] w (GGot w A gl room (gl ++ [(b, false)]) lost #[.int .i64 1]) := by
  have hd : decide ((n : Int) < (room : Int)) = true := by simp; omega
  have hd' : decide ((room : Int) ≤ (n : Int)) = false := by simp; omega
  have HL := Lib.hid hl
  have HG := Lib.hid hG
  have HB := Lib.hid hB
  have HBL := Lib.hid hb
  clear hl hG hB hb
  go_enter Try.func21, Try.ntmps21
  go_wp2_with fail
  generalize hW9 : World.alloc (World.alloc w (.cells #[.int .i64 (room : Int), .slice A n c, .int .i64 (lost : Int)] 28)) (.cells #[.int .i64 0, .slice none 0 0, .int .i64 0] 28) = W9
  have H0 : Hid (GBox w (gCells room (.slice A n c) lost) zeroG W9) := GBox.start hW9
  clear hW9
  refine wp_region_Z 10 (GBox w (gCells room (.slice A n c) lost) zeroG) (by kernel_rfl) ?_
  have hHeld : GBox w (gCells room (.slice A n c) lost) zeroG W9.drew := H0.out.on (drewB _)
  generalize World.drew W9 = W0 at hHeld ⊢
  have H1 := Lib.hid hHeld
  have HGL : Hid (∀ W, RowKit.Below w.heap.size w W → Lies W w.heap.size A (flat encG gl)) := fun W hW => HG.out.below hW
  clear H0
  refine wpZ_take (i := 1) (d := 18) (v := ?_) rfl rfl (by kernel_rfl) (by kernel_rfl) (by kernel_rfl) (by kernel_rfl) (fun _ _ _ h => h) (Or.inl ⟨by rfl, ?_⟩) hHeld ?_
  rotate_left
  · (intro _ hSw; go_simp; try with_reducible rfl)
  simp only [List.setIfInBounds_toArray, List.set_cons_zero, List.set_cons_succ]
  refine wpZ_take (i := 2) (d := 19) (v := ?_) rfl rfl (by kernel_rfl) (by kernel_rfl) (by kernel_rfl) (by kernel_rfl) (fun _ _ _ h => h) (Or.inl ⟨by rfl, ?_⟩) hHeld ?_
  rotate_left
  · (intro _ hSw; have x1 := hSw.cell 1; simp only [gCells, List.getElem?_toArray, List.getElem?_cons_succ, List.getElem?_cons_zero] at x1; go_simp; try with_reducible rfl)
  simp only [List.setIfInBounds_toArray, List.set_cons_zero, List.set_cons_succ]
  refine wpZ_take (i := 4) (d := 21) (v := ?_) rfl rfl (by kernel_rfl) (by kernel_rfl) (by kernel_rfl) (by kernel_rfl) (fun _ _ _ h => h) (Or.inl ⟨by rfl, ?_⟩) hHeld ?_
  rotate_left
  · (intro _ hSw; go_simp; try with_reducible rfl)
  simp only [List.setIfInBounds_toArray, List.set_cons_zero, List.set_cons_succ]
  refine wpZ_take (i := 5) (d := 22) (v := ?_) rfl rfl (by kernel_rfl) (by kernel_rfl) (by kernel_rfl) (by kernel_rfl) (fun _ _ _ h => h) (Or.inl ⟨by rfl, ?_⟩) hHeld ?_
  rotate_left
  · (intro _ hSw; have x1 := strs_of HBL.out (HB.out.below hSw.below) cb; go_simp; try with_reducible rfl)
  simp only [List.setIfInBounds_toArray, List.set_cons_zero, List.set_cons_succ]
  refine wpZ_take (i := 6) (d := 23) (v := ?_) rfl rfl (by kernel_rfl) (by kernel_rfl) (by kernel_rfl) (by kernel_rfl) (fun _ _ _ h => h) (Or.inl ⟨by rfl, ?_⟩) hHeld ?_
  rotate_left
  · (intro _ hSw; go_simp; try with_reducible rfl)
  simp only [List.setIfInBounds_toArray, List.set_cons_zero, List.set_cons_succ]
  refine wpZ_ready (rs := [0, 7]) (by kernel_rfl) (by simp) ?_
  refine AllReadyZ.cons rfl (fun K hK => ?_) (AllReadyZ.cons rfl (fun K hK => ?_) AllReadyZ.nil)
  · skip
    go_simp
    have hGa := H1.out.on ((RowKit.Below.refl _ _).alloc (Nat.le_refl _) (.cells #[] 40))
    have hoa : (W0.alloc (.cells #[] 40)).ownsRow (w.heap.size + 2) 40 2 (.slice (some ⟨W0.heap.size, 0, none⟩) 0 0) 0 [] := World.ownsRow_lit W0 #[] 0 H1.out.lt (Nat.zero_le _) rfl
    have hHeld2 := hGa
    refine hK.out _ _ (fun _ => hHeld2) ?_
    clear hK K hHeld
    have hHeld := hHeld2
    clear hHeld2
    refine wpZ_ready (rs := [3, 7]) (by kernel_rfl) (by simp) ?_
    refine AllReadyZ.cons rfl (fun K hK => ?_) (AllReadyZ.cons rfl (fun K hK => ?_) AllReadyZ.nil)
    · skip
      obtain ⟨A3, c3, W3, hrun3, ho3, hg3, hb3, hc3, hm3⟩ := gApp hoa HL.out (HGL.out _ hGa.below) hGa.lt (by omega)
      rw [Nat.zero_add, List.nil_append] at ho3
      rw [Nat.zero_add] at hrun3
      have hG3 := hGa.up hb3
      refine wp_append_step (s := .tmp 17) (x := .tmp 19) (t := 26) rfl rfl rfl rfl hrun3 ?_
      go_simp
      have hHeld2 := hG3
      refine hK.out _ _ (fun _ => hHeld2) ?_
      clear hK K hHeld
      have hHeld := hHeld2
      clear hHeld2
      refine wpZ_ready (rs := [7]) (by kernel_rfl) (by simp) ?_
      refine AllReadyZ.cons rfl (fun K hK => ?_) AllReadyZ.nil
      go_simp
      have hbl := (RowKit.Below.refl W3.heap.size W3).alloc (Nat.le_refl _) (.cells #[.string (str b), .bool false] 40)
      have hGl := hG3.on hbl
      have hx1 := own_below ho3 hbl
      have hx2 := lies_new W3 #[.string (str b), .bool false] 40
      have hx3 : (w.heap.size + 2) ≤ (W3.alloc (.cells #[.string (str b), .bool false] 40)).heap.size := hGl.lt
      clear ho3 hg3 hb3 hc3 hm3 hbl hoa hGa hG3 hrun3
      have hHeld2 := hGl
      refine hK.out _ _ (fun _ => hHeld2) ?_
      clear hK K hHeld
      have hHeld := hHeld2
      clear hHeld2
      clear hGl
      obtain ⟨A4, c4, W4, hrun4, ho4, hg4, hb4, hc4, hm4⟩ := gApp (gl := [(b, false)]) (m := 1) (c := 1) hx1 rfl hx2 hx3 (by omega)
      rw [← flat_append] at ho4
      have HO4 := Lib.hid ho4
      have hG4 := hHeld.up hb4
      have HC4 := Lib.hid hc4
      have HM4 := Lib.hid hm4
      clear hx1 hx2 ho4 hg4 hb4 hc4 hm4
      refine wpZ_ready (rs := [8]) (by kernel_rfl) (by simp) ?_
      refine AllReadyZ.cons rfl (fun K hK => ?_) AllReadyZ.nil
      refine wp_append_step (s := .tmp 20) (x := .tmp 24) (t := 26) rfl rfl rfl rfl hrun4 ?_
      go_simp
      have hHeld2 := hG4
      refine hK.out _ _ (fun _ => hHeld2) ?_
      clear hK K hHeld
      have hHeld := hHeld2
      clear hHeld2
      refine wpZ_take (i := 9) (d := 26) (v := ?_) rfl rfl (by kernel_rfl) (by kernel_rfl) (by kernel_rfl) (by kernel_rfl) (fun _ _ _ h => h) (Or.inl ⟨by rfl, ?_⟩) hHeld ?_
      rotate_left
      · (intro _ hSw; go_simp; try with_reducible rfl)
      simp only [List.setIfInBounds_toArray, List.set_cons_zero, List.set_cons_succ]
      have HG4 := Lib.hid hG4
      have y1 := hG4.cell 1
      have y2 := hG4.fr 1
      simp only [gCells, List.getElem?_toArray, List.getElem?_cons_succ, List.getElem?_cons_zero] at y1
      clear hG4 hHeld hrun4
      refine wpZ_ready (rs := [10]) (by kernel_rfl) (by simp) ?_
      refine AllReadyZ.cons rfl (fun K hK => ?_) AllReadyZ.nil
      go_simp
      refine hK.out _ _ (fun h => absurd rfl h) ?_
      clear hK K
      refine wpZ_done (by kernel_rfl) ?_ _
      have hS := HG4.out.setBox 1 (.slice A4 (n + 1) c4)
      generalize hW : World.setCell W4 ⟨w.heap.size, 1, none⟩ (.slice A4 (n + 1) c4) = W at hS ⊢
      have HO5 : Hid (W.ownsRow (w.heap.size + 2) 40 2 (.slice A4 (n + 1) c4) (n + 1) (flat encG (gl ++ [(b, false)]))) := by
        show World.ownsRow _ _ _ _ _ _ _
        rw [← hW]
        exact own_only HO4.out (onlyE_set (D := fun k => k = w.heap.size) rfl 1 _) fun b hb e => by have := (HO4.out.lt b hb).1; omega
      have z0 := hS.cell 0
      have z1 := hS.cell 1
      have z2 := hS.cell 2
      have q0 := hS.cellR 0
      have q1 := hS.cellR 1
      have q2 := hS.cellR 2
      have r0 := hS.frR 0
      have r1 := hS.frR 1
      have r2 := hS.frR 2
      have HS := Lib.hid hS
      simp only [gCells, zeroG, List.setIfInBounds_toArray, List.set_cons_zero, List.set_cons_succ, List.getElem?_toArray, List.getElem?_cons_succ, List.getElem?_cons_zero] at z0 z1 z2 q0 q1 q2
      clear hS hW HO4 HG4 H1 y1 y2
      go_wp2
      have hR := ((HS.out.setRes 0 (.int .i64 (room : Int))).setRes 1 (.slice A4 (n + 1) c4)).setRes 2 (.int .i64 (lost : Int))
      have hbw := hR.below
      refine bodyPost_ret (results_cell_tmp rfl _ _ (w.heap.size + 1) _ rfl (load_rowG hR.res rfl)) rfl ?_
      have hlen : (gl ++ [(b, false)]).length = n + 1 := by rw [List.length_append, HL.out]; rfl
      refine ⟨A4, c4, ?_, ?_, HM4.out, ?_, hbw⟩
      · rw [hlen]; rfl
      · rw [hlen]; exact HC4.out
      · have hD : ∀ b, (Value.slice A4 (n + 1) c4).ownBlock = some b → ¬ (b = w.heap.size + 1) := fun b hb e => by have := (HO5.out.lt b hb).1; omega
        have h1 := own_only HO5.out ((onlyE_set (D := fun k => k = w.heap.size + 1) rfl 0 (.int .i64 (room : Int))).trans ((onlyE_set (D := fun k => k = w.heap.size + 1) rfl 1 (.slice A4 (n + 1) c4)).trans (onlyE_set (D := fun k => k = w.heap.size + 1) rfl 2 (.int .i64 (lost : Int))))) hD
        exact KeepsG.new h1 (by omega)
    · skip
      go_simp
      have hbl := (RowKit.Below.refl (W0.alloc (.cells #[] 40)).heap.size (W0.alloc (.cells #[] 40))).alloc (Nat.le_refl _) (.cells #[.string (str b), .bool false] 40)
      have hGl := hGa.on hbl
      have hol := own_below hoa hbl
      have hlx : LiesX ((W0.alloc (.cells #[] 40)).alloc (.cells #[.string (str b), .bool false] 40)) (fun k => k = W0.heap.size) (some ⟨W0.heap.size + 1, 0, none⟩) #[.string (str b), .bool false].toList := LiesX.at_block (alloc2_new W0 (.cells #[] 40) (.cells #[.string (str b), .bool false] 40)) (by omega) rfl
      clear hbl hoa hGa
      have hHeld2 := hGl
      refine hK.out _ _ (fun _ => hHeld2) ?_
      clear hK K hHeld
      have hHeld := hHeld2
      clear hHeld2
      refine wpZ_ready (rs := [3]) (by kernel_rfl) (by simp) ?_
      refine AllReadyZ.cons rfl (fun K hK => ?_) AllReadyZ.nil
      obtain ⟨A3, c3, W3, hrun3, ho3, hg3, hb3, hc3, hm3⟩ := gApp hol HL.out (HGL.out _ hGl.below) hGl.lt (by omega)
      rw [Nat.zero_add, List.nil_append] at ho3
      rw [Nat.zero_add] at hrun3
      have hG3 := hGl.up hb3
      refine wp_append_step (s := .tmp 17) (x := .tmp 19) (t := 26) rfl rfl rfl rfl hrun3 ?_
      go_simp
      have hx1 := ho3
      have hx2 := (hlx.kept (OnlyE.of_grown hg3 rfl)).lies
      have hx3 := hG3.lt
      clear ho3 hg3 hb3 hc3 hm3 hol hGl hlx hrun3
      have hHeld2 := hG3
      refine hK.out _ _ (fun _ => hHeld2) ?_
      clear hK K hHeld
      have hHeld := hHeld2
      clear hHeld2
      clear hG3
      obtain ⟨A4, c4, W4, hrun4, ho4, hg4, hb4, hc4, hm4⟩ := gApp (gl := [(b, false)]) (m := 1) (c := 1) hx1 rfl hx2 hx3 (by omega)
      rw [← flat_append] at ho4
      have HO4 := Lib.hid ho4
      have hG4 := hHeld.up hb4
      have HC4 := Lib.hid hc4
      have HM4 := Lib.hid hm4
      clear hx1 hx2 ho4 hg4 hb4 hc4 hm4
      refine wpZ_ready (rs := [8]) (by kernel_rfl) (by simp) ?_
      refine AllReadyZ.cons rfl (fun K hK => ?_) AllReadyZ.nil
      refine wp_append_step (s := .tmp 20) (x := .tmp 24) (t := 26) rfl rfl rfl rfl hrun4 ?_
      go_simp
      have hHeld2 := hG4
      refine hK.out _ _ (fun _ => hHeld2) ?_
      clear hK K hHeld
      have hHeld := hHeld2
      clear hHeld2
      refine wpZ_take (i := 9) (d := 26) (v := ?_) rfl rfl (by kernel_rfl) (by kernel_rfl) (by kernel_rfl) (by kernel_rfl) (fun _ _ _ h => h) (Or.inl ⟨by rfl, ?_⟩) hHeld ?_
      rotate_left
      · (intro _ hSw; go_simp; try with_reducible rfl)
      simp only [List.setIfInBounds_toArray, List.set_cons_zero, List.set_cons_succ]
      have HG4 := Lib.hid hG4
      have y1 := hG4.cell 1
      have y2 := hG4.fr 1
      simp only [gCells, List.getElem?_toArray, List.getElem?_cons_succ, List.getElem?_cons_zero] at y1
      clear hG4 hHeld hrun4
      refine wpZ_ready (rs := [10]) (by kernel_rfl) (by simp) ?_
      refine AllReadyZ.cons rfl (fun K hK => ?_) AllReadyZ.nil
      go_simp
      refine hK.out _ _ (fun h => absurd rfl h) ?_
      clear hK K
      refine wpZ_done (by kernel_rfl) ?_ _
      have hS := HG4.out.setBox 1 (.slice A4 (n + 1) c4)
      generalize hW : World.setCell W4 ⟨w.heap.size, 1, none⟩ (.slice A4 (n + 1) c4) = W at hS ⊢
      have HO5 : Hid (W.ownsRow (w.heap.size + 2) 40 2 (.slice A4 (n + 1) c4) (n + 1) (flat encG (gl ++ [(b, false)]))) := by
        show World.ownsRow _ _ _ _ _ _ _
        rw [← hW]
        exact own_only HO4.out (onlyE_set (D := fun k => k = w.heap.size) rfl 1 _) fun b hb e => by have := (HO4.out.lt b hb).1; omega
      have z0 := hS.cell 0
      have z1 := hS.cell 1
      have z2 := hS.cell 2
      have q0 := hS.cellR 0
      have q1 := hS.cellR 1
      have q2 := hS.cellR 2
      have r0 := hS.frR 0
      have r1 := hS.frR 1
      have r2 := hS.frR 2
      have HS := Lib.hid hS
      simp only [gCells, zeroG, List.setIfInBounds_toArray, List.set_cons_zero, List.set_cons_succ, List.getElem?_toArray, List.getElem?_cons_succ, List.getElem?_cons_zero] at z0 z1 z2 q0 q1 q2
      clear hS hW HO4 HG4 H1 y1 y2
      go_wp2
      have hR := ((HS.out.setRes 0 (.int .i64 (room : Int))).setRes 1 (.slice A4 (n + 1) c4)).setRes 2 (.int .i64 (lost : Int))
      have hbw := hR.below
      refine bodyPost_ret (results_cell_tmp rfl _ _ (w.heap.size + 1) _ rfl (load_rowG hR.res rfl)) rfl ?_
      have hlen : (gl ++ [(b, false)]).length = n + 1 := by rw [List.length_append, HL.out]; rfl
      refine ⟨A4, c4, ?_, ?_, HM4.out, ?_, hbw⟩
      · rw [hlen]; rfl
      · rw [hlen]; exact HC4.out
      · have hD : ∀ b, (Value.slice A4 (n + 1) c4).ownBlock = some b → ¬ (b = w.heap.size + 1) := fun b hb e => by have := (HO5.out.lt b hb).1; omega
        have h1 := own_only HO5.out ((onlyE_set (D := fun k => k = w.heap.size + 1) rfl 0 (.int .i64 (room : Int))).trans ((onlyE_set (D := fun k => k = w.heap.size + 1) rfl 1 (.slice A4 (n + 1) c4)).trans (onlyE_set (D := fun k => k = w.heap.size + 1) rfl 2 (.int .i64 (lost : Int))))) hD
        exact KeepsG.new h1 (by omega)
  · skip
    go_simp
    have hGl := H1.out.on ((RowKit.Below.refl _ _).alloc (Nat.le_refl _) (.cells #[.string (str b), .bool false] 40))
    clear hHeld
    have hHeld := hGl
    have hHeld2 := hGl
    refine hK.out _ _ (fun _ => hHeld2) ?_
    clear hK K hHeld
    have hHeld := hHeld2
    clear hHeld2
    refine wpZ_ready (rs := [0]) (by kernel_rfl) (by simp) ?_
    refine AllReadyZ.cons rfl (fun K hK => ?_) AllReadyZ.nil
    go_simp
    have hGa := hGl.on ((RowKit.Below.refl _ _).alloc (Nat.le_refl _) (.cells #[] 40))
    have hoa : ((W0.alloc (.cells #[.string (str b), .bool false] 40)).alloc (.cells #[] 40)).ownsRow (w.heap.size + 2) 40 2 (.slice (some ⟨(W0.alloc (.cells #[.string (str b), .bool false] 40)).heap.size, 0, none⟩) 0 0) 0 [] := World.ownsRow_lit (W0.alloc (.cells #[.string (str b), .bool false] 40)) #[] 0 hGl.lt (Nat.zero_le _) rfl
    have hlx : LiesX ((W0.alloc (.cells #[.string (str b), .bool false] 40)).alloc (.cells #[] 40)) (fun k => k = W0.heap.size + 1) (some ⟨W0.heap.size, 0, none⟩) #[.string (str b), .bool false].toList := LiesX.at_block ((heap_alloc_old _ _ (by simp)).trans (heap_alloc_new W0 (.cells #[.string (str b), .bool false] 40))) (by omega) rfl
    rw [show (W0.alloc (.cells #[.string (str b), .bool false] 40)).heap.size = W0.heap.size + 1 by simp] at hoa
    clear hGl
    have hHeld2 := hGa
    refine hK.out _ _ (fun _ => hHeld2) ?_
    clear hK K hHeld
    have hHeld := hHeld2
    clear hHeld2
    refine wpZ_ready (rs := [3]) (by kernel_rfl) (by simp) ?_
    refine AllReadyZ.cons rfl (fun K hK => ?_) AllReadyZ.nil
    obtain ⟨A3, c3, W3, hrun3, ho3, hg3, hb3, hc3, hm3⟩ := gApp hoa HL.out (HGL.out _ hGa.below) hGa.lt (by omega)
    rw [Nat.zero_add, List.nil_append] at ho3
    rw [Nat.zero_add] at hrun3
    have hG3 := hGa.up hb3
    refine wp_append_step (s := .tmp 17) (x := .tmp 19) (t := 26) rfl rfl rfl rfl hrun3 ?_
    go_simp
    have hx1 := ho3
    have hx2 := (hlx.kept (OnlyE.of_grown hg3 rfl)).lies
    have hx3 := hG3.lt
    clear ho3 hg3 hb3 hc3 hm3 hoa hGa hlx hrun3
    have hHeld2 := hG3
    refine hK.out _ _ (fun _ => hHeld2) ?_
    clear hK K hHeld
    have hHeld := hHeld2
    clear hHeld2
    clear hG3
    obtain ⟨A4, c4, W4, hrun4, ho4, hg4, hb4, hc4, hm4⟩ := gApp (gl := [(b, false)]) (m := 1) (c := 1) hx1 rfl hx2 hx3 (by omega)
    rw [← flat_append] at ho4
    have HO4 := Lib.hid ho4
    have hG4 := hHeld.up hb4
    have HC4 := Lib.hid hc4
    have HM4 := Lib.hid hm4
    clear hx1 hx2 ho4 hg4 hb4 hc4 hm4
    refine wpZ_ready (rs := [8]) (by kernel_rfl) (by simp) ?_
    refine AllReadyZ.cons rfl (fun K hK => ?_) AllReadyZ.nil
    refine wp_append_step (s := .tmp 20) (x := .tmp 24) (t := 26) rfl rfl rfl rfl hrun4 ?_
    go_simp
    have hHeld2 := hG4
    refine hK.out _ _ (fun _ => hHeld2) ?_
    clear hK K hHeld
    have hHeld := hHeld2
    clear hHeld2
    refine wpZ_take (i := 9) (d := 26) (v := ?_) rfl rfl (by kernel_rfl) (by kernel_rfl) (by kernel_rfl) (by kernel_rfl) (fun _ _ _ h => h) (Or.inl ⟨by rfl, ?_⟩) hHeld ?_
    rotate_left
    · (intro _ hSw; go_simp; try with_reducible rfl)
    simp only [List.setIfInBounds_toArray, List.set_cons_zero, List.set_cons_succ]
    have HG4 := Lib.hid hG4
    have y1 := hG4.cell 1
    have y2 := hG4.fr 1
    simp only [gCells, List.getElem?_toArray, List.getElem?_cons_succ, List.getElem?_cons_zero] at y1
    clear hG4 hHeld hrun4
    refine wpZ_ready (rs := [10]) (by kernel_rfl) (by simp) ?_
    refine AllReadyZ.cons rfl (fun K hK => ?_) AllReadyZ.nil
    go_simp
    refine hK.out _ _ (fun h => absurd rfl h) ?_
    clear hK K
    refine wpZ_done (by kernel_rfl) ?_ _
    have hS := HG4.out.setBox 1 (.slice A4 (n + 1) c4)
    generalize hW : World.setCell W4 ⟨w.heap.size, 1, none⟩ (.slice A4 (n + 1) c4) = W at hS ⊢
    have HO5 : Hid (W.ownsRow (w.heap.size + 2) 40 2 (.slice A4 (n + 1) c4) (n + 1) (flat encG (gl ++ [(b, false)]))) := by
      show World.ownsRow _ _ _ _ _ _ _
      rw [← hW]
      exact own_only HO4.out (onlyE_set (D := fun k => k = w.heap.size) rfl 1 _) fun b hb e => by have := (HO4.out.lt b hb).1; omega
    have z0 := hS.cell 0
    have z1 := hS.cell 1
    have z2 := hS.cell 2
    have q0 := hS.cellR 0
    have q1 := hS.cellR 1
    have q2 := hS.cellR 2
    have r0 := hS.frR 0
    have r1 := hS.frR 1
    have r2 := hS.frR 2
    have HS := Lib.hid hS
    simp only [gCells, zeroG, List.setIfInBounds_toArray, List.set_cons_zero, List.set_cons_succ, List.getElem?_toArray, List.getElem?_cons_succ, List.getElem?_cons_zero] at z0 z1 z2 q0 q1 q2
    clear hS hW HO4 HG4 H1 y1 y2
    go_wp2
    have hR := ((HS.out.setRes 0 (.int .i64 (room : Int))).setRes 1 (.slice A4 (n + 1) c4)).setRes 2 (.int .i64 (lost : Int))
    have hbw := hR.below
    refine bodyPost_ret (results_cell_tmp rfl _ _ (w.heap.size + 1) _ rfl (load_rowG hR.res rfl)) rfl ?_
    have hlen : (gl ++ [(b, false)]).length = n + 1 := by rw [List.length_append, HL.out]; rfl
    refine ⟨A4, c4, ?_, ?_, HM4.out, ?_, hbw⟩
    · rw [hlen]; rfl
    · rw [hlen]; exact HC4.out
    · have hD : ∀ b, (Value.slice A4 (n + 1) c4).ownBlock = some b → ¬ (b = w.heap.size + 1) := fun b hb e => by have := (HO5.out.lt b hb).1; omega
      have h1 := own_only HO5.out ((onlyE_set (D := fun k => k = w.heap.size + 1) rfl 0 (.int .i64 (room : Int))).trans ((onlyE_set (D := fun k => k = w.heap.size + 1) rfl 1 (.slice A4 (n + 1) c4)).trans (onlyE_set (D := fun k => k = w.heap.size + 1) rfl 2 (.int .i64 (lost : Int))))) hD
      exact KeepsG.new h1 (by omega)

end Go.Proofs.Ytjecphjdmjoeiaa
