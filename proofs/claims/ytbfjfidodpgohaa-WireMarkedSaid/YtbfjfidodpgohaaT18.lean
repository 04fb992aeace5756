/- The head of a frame's bytes: readHead, walked. -/
import Derived.Test.YtbfjfidodpgohaaT17

namespace Go.Proofs.Ytbfjfidodpgohaa
open Go.RowKit Go.Sort

theorem headGot_yes {w W : World} {x1 x2 x3 : UInt8} {t : List UInt8} {A : Option Addr} {m cc : Nat} (u0 u1 u2 : Value) (h1 : t.length = m) (h2 : m ≤ cc) (h3 : cc ≤ maxLen) (h4 : Lies W w.heap.size A (bvs t)) (h5 : RowKit.Below w.heap.size w W) :
    HeadGot w ((x1.toNat, x2.toNat, x3.toNat), t, 0) (.returned (.tuple #[.agg #[.int .u8 (x1.toNat : Int), .int .u8 (x2.toNat : Int), .int .u8 (x3.toNat : Int)], .slice A m cc, .int .i64 0])) (((W.setCell ⟨w.heap.size, 0, none⟩ u0).setCell ⟨w.heap.size, 1, none⟩ u1).setCell ⟨w.heap.size, 2, none⟩ u2).drew := by
  have hb : RowKit.Below w.heap.size W (((W.setCell ⟨w.heap.size, 0, none⟩ u0).setCell ⟨w.heap.size, 1, none⟩ u1).setCell ⟨w.heap.size, 2, none⟩ u2).drew := ((((RowKit.Below.refl _ _).setCell (p := ⟨w.heap.size, 0, none⟩) (Nat.le_refl _) u0).setCell (p := ⟨w.heap.size, 1, none⟩) (Nat.le_refl _) u1).setCell (p := ⟨w.heap.size, 2, none⟩) (Nat.le_refl _) u2).drew
  exact ⟨A, m, cc, rfl, h1, h2, h3, h4.below hb, h5.trans hb⟩

theorem far3 (W : World) {q b : Nat} (h : q ≠ b) (o : Nat) (u0 u1 u2 : Value) : ((((W.setCell ⟨q, 0, none⟩ u0).setCell ⟨q, 1, none⟩ u1).setCell ⟨q, 2, none⟩ u2).drew).cell? ⟨b, o, none⟩ = W.cell? ⟨b, o, none⟩ := by
  show (((W.setCell ⟨q, 0, none⟩ u0).setCell ⟨q, 1, none⟩ u1).setCell ⟨q, 2, none⟩ u2).cell? ⟨b, o, none⟩ = _
  rw [World.cell?_setCell_far _ _ _ _ h, World.cell?_setCell_far _ _ _ _ h, World.cell?_setCell_far _ _ _ _ h]

set_option maxRecDepth 100000 in
set_option maxHeartbeats 1600000 in
theorem readHead_any (A : Option Addr) (n c : Nat) (l : List UInt8) (w : World) (hl : l.length = n) (hn : n ≤ 10000) (hnc : n ≤ c) (hcm : c ≤ maxLen) (h : Lies w w.heap.size A (bvs l)) :
    Calls Try.prog 18 #[.slice A n c] w (HeadGot w (headRd l)) := by
  have HN := Lib.hid (head_new A n c l w hl hn h)
  have hcase := rnum_cases l top
  unfold headRd
  unfold maxLen at hcm
  generalize rnum l 0 top = r at HN hcase ⊢
  obtain ⟨told, p, er⟩ := r
  dsimp only at HN hcase ⊢
  by_cases her : er = 0
  · subst her
    rw [if_neg (by simp)]
    have hp : ∃ s, p = l.drop s ∧ s ≤ l.length := by
      rcases hcase with h | ⟨m, h1, -, -, h2, -⟩
      · exact absurd rfl h.1
      · injection h1 with h1 h3
        injection h3 with h3 h4
        exact ⟨_, h3, h2⟩
    clear hcase
    have hpl : p.length ≤ 10000 := by
      obtain ⟨s, e, _⟩ := hp
      rw [e, List.length_drop]
      omega
    unfold headRd2
    by_cases h1 : p.length + 4 < told
    · rw [if_pos h1]
      clear hp
      go_enter Try.func18, Try.ntmps18
      go_wp2_with fail
      refine HN.out.mono ?_
      rintro e W1 ⟨gr, rfl, HNum⟩
      go_wp2_with fail
      refine HNum.out.mono ?_
      rintro e W ⟨rfl, n2, hM⟩
      have hn2 := hM.len
      have z0 := cell_of_row W _ 0 _ _ _ hM.row
      have z1 := cell_of_row W _ 1 _ _ _ hM.row
      have z2 := cell_of_row W _ 2 _ _ _ hM.row
      have fz := row_frozen hM.row
      simp only [List.getElem?_toArray, List.getElem?_cons_zero, List.getElem?_cons_succ] at z0 z1 z2
      have HB := Lib.hid hM.below
      have HRow := Lib.hid hM.row
      have HE := Lib.hid hM.err
      have HLf := Lib.hid hM.left
      clear hM HNum
      rw [hn2] at h1 hpl
      have q1 : (n2 : Int) + 4 < (told : Int) := by omega
      clear h1 hn2
      go_wp2_with fail
      refine HE.out.mono ?_
      rintro e _ ⟨rfl, rfl⟩
      go_wp2_with fail
      refine HLf.out.mono ?_
      rintro e _ ⟨rfl, rfl⟩
      go_wp2
      refine bodyPost_ret (results_cell3 rfl _ _ w.heap.size _ rfl (run_loadVar_row _ _ _ _ _ (0, 0) _ (heap_setCell_row (heap_setCell_row (heap_setCell_row HRow.out 0 _) 1 _) 2 _) Try.underlying25 rfl (by kernel_rfl))) rfl ?_
      exact HeadGot.none 2 (((HB.out.setCell (p := ⟨w.heap.size, _, none⟩) (Nat.le_refl _) _).setCell (p := ⟨w.heap.size, _, none⟩) (Nat.le_refl _) _).setCell (p := ⟨w.heap.size, _, none⟩) (Nat.le_refl _) _)
    rw [if_neg h1]
    by_cases h2 : told < p.length + 4
    · rw [if_pos h2]
      clear hp
      go_enter Try.func18, Try.ntmps18
      go_wp2_with fail
      refine HN.out.mono ?_
      rintro e W1 ⟨gr, rfl, HNum⟩
      go_wp2_with fail
      refine HNum.out.mono ?_
      rintro e W ⟨rfl, n2, hM⟩
      have hn2 := hM.len
      have z0 := cell_of_row W _ 0 _ _ _ hM.row
      have z1 := cell_of_row W _ 1 _ _ _ hM.row
      have z2 := cell_of_row W _ 2 _ _ _ hM.row
      have fz := row_frozen hM.row
      simp only [List.getElem?_toArray, List.getElem?_cons_zero, List.getElem?_cons_succ] at z0 z1 z2
      have HB := Lib.hid hM.below
      have HRow := Lib.hid hM.row
      have HE := Lib.hid hM.err
      have HLf := Lib.hid hM.left
      clear hM HNum
      rw [hn2] at h1 h2 hpl
      have q1 : ¬ (n2 : Int) + 4 < (told : Int) := by omega
      have q2 : (told : Int) < (n2 : Int) + 4 := by omega
      clear h1 h2 hn2
      go_wp2_with fail
      refine HE.out.mono ?_
      rintro e _ ⟨rfl, rfl⟩
      go_wp2_with fail
      refine HLf.out.mono ?_
      rintro e _ ⟨rfl, rfl⟩
      go_wp2
      refine bodyPost_ret (results_cell3 rfl _ _ w.heap.size _ rfl (run_loadVar_row _ _ _ _ _ (0, 0) _ (heap_setCell_row (heap_setCell_row (heap_setCell_row HRow.out 0 _) 1 _) 2 _) Try.underlying25 rfl (by kernel_rfl))) rfl ?_
      exact HeadGot.none 4 (((HB.out.setCell (p := ⟨w.heap.size, _, none⟩) (Nat.le_refl _) _).setCell (p := ⟨w.heap.size, _, none⟩) (Nat.le_refl _) _).setCell (p := ⟨w.heap.size, _, none⟩) (Nat.le_refl _) _)
    rw [if_neg h2]
    by_cases h3 : p.length < 4
    · rw [if_pos h3]
      clear hp
      go_enter Try.func18, Try.ntmps18
      go_wp2_with fail
      refine HN.out.mono ?_
      rintro e W1 ⟨gr, rfl, HNum⟩
      go_wp2_with fail
      refine HNum.out.mono ?_
      rintro e W ⟨rfl, n2, hM⟩
      have hn2 := hM.len
      have z0 := cell_of_row W _ 0 _ _ _ hM.row
      have z1 := cell_of_row W _ 1 _ _ _ hM.row
      have z2 := cell_of_row W _ 2 _ _ _ hM.row
      have fz := row_frozen hM.row
      simp only [List.getElem?_toArray, List.getElem?_cons_zero, List.getElem?_cons_succ] at z0 z1 z2
      have HB := Lib.hid hM.below
      have HRow := Lib.hid hM.row
      have HE := Lib.hid hM.err
      have HLf := Lib.hid hM.left
      clear hM HNum
      rw [hn2] at h1 h2 h3 hpl
      have q1 : ¬ (n2 : Int) + 4 < (told : Int) := by omega
      have q2 : ¬ (told : Int) < (n2 : Int) + 4 := by omega
      have q3 : (n2 : Int) < 4 := by omega
      clear h1 h2 h3 hn2
      go_wp2_with fail
      refine HE.out.mono ?_
      rintro e _ ⟨rfl, rfl⟩
      go_wp2_with fail
      refine HLf.out.mono ?_
      rintro e _ ⟨rfl, rfl⟩
      go_wp2_with fail
      refine HLf.out.mono ?_
      rintro e _ ⟨rfl, rfl⟩
      go_wp2
      refine bodyPost_ret (results_cell3 rfl _ _ w.heap.size _ rfl (run_loadVar_row _ _ _ _ _ (0, 0) _ (heap_setCell_row (heap_setCell_row (heap_setCell_row HRow.out 0 _) 1 _) 2 _) Try.underlying25 rfl (by kernel_rfl))) rfl ?_
      exact HeadGot.none 2 (((HB.out.setCell (p := ⟨w.heap.size, _, none⟩) (Nat.le_refl _) _).setCell (p := ⟨w.heap.size, _, none⟩) (Nat.le_refl _) _).setCell (p := ⟨w.heap.size, _, none⟩) (Nat.le_refl _) _)
    rw [if_neg h3]
    obtain ⟨sft, hpe, hle⟩ := hp
    obtain ⟨x0, x1, x2, x3, t, hpx⟩ : ∃ x0 x1 x2 x3 t, p = x0 :: x1 :: x2 :: x3 :: t := by
      rcases p with _ | ⟨x0, _ | ⟨x1, _ | ⟨x2, _ | ⟨x3, t⟩⟩⟩⟩
      · simp at h3
      · simp at h3
      · simp at h3
      · simp at h3
      · exact ⟨_, _, _, _, _, rfl⟩
    subst hpx
    obtain ⟨b, off, rfl, hb, hcell⟩ := h (by rintro e; have : l = [] := by simpa [bvs] using e
                                             rw [this] at hpe; simp at hpe)
    have YC : Hid (∀ i u, (bvs (x0 :: x1 :: x2 :: x3 :: t))[i]? = some u → w.cell? ⟨b, off + sft + i, none⟩ = some u) := fun i u hu => by
      rw [Nat.add_assoc]
      refine hcell (sft + i) u ?_
      rw [← hu, hpe]
      simp [bvs, List.getElem?_drop]
    have HT : Hid (told = (x0 :: x1 :: x2 :: x3 :: t).length + 4) := by show _ = _; omega
    have hln : (x0 :: x1 :: x2 :: x3 :: t).length = n - sft := by rw [hpe, List.length_drop, hl]
    have hlt : sft + 4 ≤ n := by have : (x0 :: x1 :: x2 :: x3 :: t).length = t.length + 4 := rfl; omega
    have HL4 : t.length + 4 = n - sft := hln
    clear h1 h2 h3 hpe hle hcell hln hpl
    show Calls Try.prog _ _ w (HeadGot w (if x0 ≠ 1 then hNone 3 else ((x1.toNat, x2.toNat, x3.toNat), t, 0)))
    by_cases hx : x0 = 1
    · rw [if_neg (by simp [hx])]
      have hv : ((x0.toNat : Int) != 1) = false := by rw [hx]; rfl
      clear hx
      go_enter Try.func18, Try.ntmps18
      go_wp2_with fail
      refine HN.out.mono ?_
      rintro e W1 ⟨gr, rfl, HNum⟩
      go_wp2_with fail
      refine HNum.out.mono ?_
      rintro e W ⟨rfl, n2, hM⟩
      have hn2 := hM.len
      have z0 := cell_of_row W _ 0 _ _ _ hM.row
      have z1 := cell_of_row W _ 1 _ _ _ hM.row
      have z2 := cell_of_row W _ 2 _ _ _ hM.row
      have fz := row_frozen hM.row
      simp only [List.getElem?_toArray, List.getElem?_cons_zero, List.getElem?_cons_succ] at z0 z1 z2
      have HB := Lib.hid hM.below
      have HRow := Lib.hid hM.row
      have HE := Lib.hid hM.err
      have HLf := Lib.hid hM.left
      clear hM HNum
      have hc0 := HB.out
      have y0 : W.cell? ⟨b, off + sft, none⟩ = some (.int .u8 (x0.toNat : Int)) := (hc0.cell (p := ⟨b, off + sft, none⟩) hb).trans (YC.out 0 _ rfl)
      have y1 : W.cell? ⟨b, off + sft + 1, none⟩ = some (.int .u8 (x1.toNat : Int)) := (hc0.cell (p := ⟨b, off + sft + 1, none⟩) hb).trans (YC.out 1 _ rfl)
      have y2 : W.cell? ⟨b, off + sft + 2, none⟩ = some (.int .u8 (x2.toNat : Int)) := (hc0.cell (p := ⟨b, off + sft + 2, none⟩) hb).trans (YC.out 2 _ rfl)
      have y3 : W.cell? ⟨b, off + sft + 3, none⟩ = some (.int .u8 (x3.toNat : Int)) := (hc0.cell (p := ⟨b, off + sft + 3, none⟩) hb).trans (YC.out 3 _ rfl)
      clear hc0
      have ht : t.length + 4 = n2 := hn2
      have es : (n : Int) - (n2 : Int) = (sft : Int) := by omega
      have hcs : ¬ c = sft := by omega
      have q1 : ¬ (n2 : Int) + 4 < (told : Int) := by have := HT.out; omega
      have q2 : ¬ (told : Int) < (n2 : Int) + 4 := by have := HT.out; omega
      have q3 : ¬ (n2 : Int) < 4 := by omega
      have hsn : sft ≤ n := by omega
      clear hn2
      go_wp2_with fail
      refine HE.out.mono ?_
      rintro e _ ⟨rfl, rfl⟩
      go_wp2_with fail
      refine HLf.out.mono ?_
      rintro e _ ⟨rfl, rfl⟩
      go_wp2_with fail
      refine HLf.out.mono ?_
      rintro e _ ⟨rfl, rfl⟩
      go_wp2_with fail
      refine HLf.out.mono ?_
      rintro e _ ⟨rfl, rfl⟩
      go_wp2_with fail
      have hn2' : n - sft = n2 := by omega
      rw [hn2']
      generalize hcc : c - sft = c2
      have l1 : 1 < n2 := by omega
      have l2 : 2 < n2 := by omega
      have l3 : 3 < n2 := by omega
      have l4 : 4 ≤ n2 := by omega
      have i1 : (1 : Int) < (n2 : Int) := by omega
      have i2 : (2 : Int) < (n2 : Int) := by omega
      have i3 : (3 : Int) < (n2 : Int) := by omega
      have i4 : (4 : Int) ≤ (n2 : Int) := by omega
      have hc2 : n2 ≤ c2 := by omega
      have hcm2 : c2 ≤ maxLen := by unfold maxLen; omega
      have HT4 : Hid (t.length = n2 - 4) := by show _ = _; omega
      have HBB : Hid (b < w.heap.size) := hb
      have hbne : w.heap.size ≠ b := by omega
      have YD : Hid (Lies W w.heap.size (if c2 = 4 then some ⟨b, off + sft, none⟩ else some ⟨b, off + sft + 4, none⟩) (bvs t)) := fun hne => by
        have : 0 < t.length := by rcases t with _ | ⟨a, t⟩; · exact absurd rfl hne
                                  · simp
        rw [if_neg (by omega)]
        refine ⟨b, off + sft + 4, rfl, HBB.out, fun i u hu => ?_⟩
        refine (HB.out.cell (p := ⟨b, off + sft + 4 + i, none⟩) HBB.out).trans ?_
        have := YC.out (4 + i) u (by rw [← hu]; simp [bvs, Nat.add_comm 4 i])
        rwa [← Nat.add_assoc] at this
      clear hcc hn2' es hcs hsn HL4 hlt ht hnc hcm q1 q2 q3 hv y0 z0 z1 z2 HE HLf h hl
      by_cases hc4 : c2 = 4
      · rw [if_pos hc4] at YD
        have G1 : Hid (n2 - 4 ≤ 0 ∧ 0 ≤ maxLen) := ⟨by omega, Nat.zero_le _⟩
        refine wp_region_held_drew (S := fun V => V.cell? ⟨b, off + sft + 1, none⟩ = some (.int .u8 (x1.toNat : Int)) ∧ V.cell? ⟨b, off + sft + 2, none⟩ = some (.int .u8 (x2.toNat : Int)) ∧ V.cell? ⟨b, off + sft + 3, none⟩ = some (.int .u8 (x3.toNat : Int))) (by kernel_rfl) ⟨y1, y2, y3⟩ (fun hHeld => ?_)
        refine wpAnyH_takeAt (i := 0) (d := 50) (v := ?_) rfl rfl (by kernel_rfl) (by kernel_rfl) (by kernel_rfl) (fun _ _ _ h => h) (Or.inl ⟨by rfl, ?_⟩) hHeld ?_
        rotate_left
        · (intro _ hSw; go_simp; try with_reducible rfl)
        simp only [List.setIfInBounds_toArray, List.set_cons_zero, List.set_cons_succ]
        refine wpAnyH_takeAt (i := 1) (d := 51) (v := ?_) rfl rfl (by kernel_rfl) (by kernel_rfl) (by kernel_rfl) (fun _ _ _ h => h) (Or.inl ⟨by rfl, ?_⟩) hHeld ?_
        rotate_left
        · (intro _ hSw; go_simp; try with_reducible rfl)
        simp only [List.setIfInBounds_toArray, List.set_cons_zero, List.set_cons_succ]
        refine wpAnyH_takeAt (i := 2) (d := 52) (v := ?_) rfl rfl (by kernel_rfl) (by kernel_rfl) (by kernel_rfl) (fun _ _ _ h => h) (Or.inl ⟨by rfl, ?_⟩) hHeld ?_
        rotate_left
        · (intro _ hSw; go_simp; try with_reducible rfl)
        simp only [List.setIfInBounds_toArray, List.set_cons_zero, List.set_cons_succ]
        refine wpAnyH_takeAt (i := 3) (d := 53) (v := ?_) rfl rfl (by kernel_rfl) (by kernel_rfl) (by kernel_rfl) (fun _ _ _ h => h) (Or.inl ⟨by rfl, ?_⟩) hHeld ?_
        rotate_left
        · (intro _ hSw; go_simp; try with_reducible rfl)
        simp only [List.setIfInBounds_toArray, List.set_cons_zero, List.set_cons_succ]
        refine wpAnyH_takeAt (i := 4) (d := 54) (v := ?_) rfl rfl (by kernel_rfl) (by kernel_rfl) (by kernel_rfl) (fun _ _ _ h => h) (Or.inl ⟨by rfl, ?_⟩) hHeld ?_
        rotate_left
        · (intro _ hSw; go_simp; try with_reducible rfl)
        simp only [List.setIfInBounds_toArray, List.set_cons_zero, List.set_cons_succ]
        refine wpAnyH_takeAt (i := 5) (d := 55) (v := ?_) rfl rfl (by kernel_rfl) (by kernel_rfl) (by kernel_rfl) (fun _ _ _ h => h) (Or.inl ⟨by rfl, ?_⟩) hHeld ?_
        rotate_left
        · (intro _ hSw; go_simp; try with_reducible rfl)
        simp only [List.setIfInBounds_toArray, List.set_cons_zero, List.set_cons_succ]
        refine wpAnyH_takeAt (i := 6) (d := 56) (v := ?_) rfl rfl (by kernel_rfl) (by kernel_rfl) (by kernel_rfl) (fun _ _ _ h => h) (Or.inl ⟨by rfl, ?_⟩) hHeld ?_
        rotate_left
        · (intro _ hSw; go_simp; try with_reducible rfl)
        simp only [List.setIfInBounds_toArray, List.set_cons_zero, List.set_cons_succ]
        refine wpAnyH_takeAt (i := 7) (d := 57) (v := ?_) rfl rfl (by kernel_rfl) (by kernel_rfl) (by kernel_rfl) (fun _ _ _ h => h) (Or.inl ⟨by rfl, ?_⟩) hHeld ?_
        rotate_left
        · (intro _ hSw; go_simp; try with_reducible rfl)
        simp only [List.setIfInBounds_toArray, List.set_cons_zero, List.set_cons_succ]
        refine wpAnyH_takeAt (i := 8) (d := 58) (v := ?_) rfl rfl (by kernel_rfl) (by kernel_rfl) (by kernel_rfl) (fun _ _ _ h => h) (Or.inl ⟨by rfl, ?_⟩) hHeld ?_
        rotate_left
        · (intro _ hSw; go_simp; try with_reducible rfl)
        simp only [List.setIfInBounds_toArray, List.set_cons_zero, List.set_cons_succ]
        refine wpAnyH_takeAt (i := 9) (d := 59) (v := ?_) rfl rfl (by kernel_rfl) (by kernel_rfl) (by kernel_rfl) (fun _ _ _ h => h) (Or.inl ⟨by rfl, ?_⟩) hHeld ?_
        rotate_left
        · (intro _ hSw; go_simp; try with_reducible rfl)
        simp only [List.setIfInBounds_toArray, List.set_cons_zero, List.set_cons_succ]
        refine wpAnyH_takeAt (i := 10) (d := 60) (v := ?_) rfl rfl (by kernel_rfl) (by kernel_rfl) (by kernel_rfl) (fun _ _ _ h => h) (Or.inl ⟨by rfl, ?_⟩) hHeld ?_
        rotate_left
        · (intro _ hSw; go_simp; try with_reducible rfl)
        simp only [List.setIfInBounds_toArray, List.set_cons_zero, List.set_cons_succ]
        refine wpAnyH_takeAt (i := 11) (d := 61) (v := ?_) rfl rfl (by kernel_rfl) (by kernel_rfl) (by kernel_rfl) (fun _ _ _ h => h) (Or.inl ⟨by rfl, ?_⟩) hHeld ?_
        rotate_left
        · (intro _ hSw; go_simp; try with_reducible rfl)
        simp only [List.setIfInBounds_toArray, List.set_cons_zero, List.set_cons_succ]
        have HR0 := HRow.out
        refine wpAnyH_ready (rs := [12]) (by kernel_rfl) (by simp) ?_
        refine AllReadyH.cons rfl (fun K hK => ?_) AllReadyH.nil
        have z0 : W.cell? ⟨w.heap.size, 0, none⟩ = some (.int .u8 0) := cell_of_row W _ 0 _ _ _ HR0
        have z1 : W.cell? ⟨w.heap.size, 1, none⟩ = some (.int .u8 0) := cell_of_row W _ 1 _ _ _ HR0
        have z2 : W.cell? ⟨w.heap.size, 2, none⟩ = some (.int .u8 0) := cell_of_row W _ 2 _ _ _ HR0
        clear HR0
        go_simp
        refine hK.out _ _ ?_ (fun hHeld => ?_)
        · refine ⟨?_, ?_, ?_⟩
          · exact (far3 W hbne _ _ _ _).trans y1
          · exact (far3 W hbne _ _ _ _).trans y2
          · exact (far3 W hbne _ _ _ _).trans y3
        clear hK K z0 z1 z2
        refine wpAnyH_takeAt (i := 13) (d := 3) (v := ?_) rfl rfl (by kernel_rfl) (by kernel_rfl) (by kernel_rfl) (fun _ _ _ h => h) (Or.inl ⟨by rfl, ?_⟩) hHeld ?_
        rotate_left
        · (intro _ hSw; go_simp; try with_reducible rfl)
        simp only [List.setIfInBounds_toArray, List.set_cons_zero, List.set_cons_succ]
        refine wpAnyH_takeAt (i := 14) (d := 4) (v := ?_) rfl rfl (by kernel_rfl) (by kernel_rfl) (by kernel_rfl) (fun _ _ _ h => h) (Or.inl ⟨by rfl, ?_⟩) hHeld ?_
        rotate_left
        · (intro _ hSw; go_simp; try with_reducible rfl)
        simp only [List.setIfInBounds_toArray, List.set_cons_zero, List.set_cons_succ]
        refine wpAnyH_done (by kernel_rfl) ?_ _
        go_wp2
        refine bodyPost_ret (results_cell3 rfl _ _ w.heap.size _ rfl (run_loadVar_row _ _ _ _ _ (0, 0) _ (heap_setCell_row (heap_setCell_row (heap_setCell_row HRow.out 0 _) 1 _) 2 _) Try.underlying25 rfl (by kernel_rfl))) rfl ?_
        exact headGot_yes (A := some ⟨b, off + sft, none⟩) (m := n2 - 4) (cc := 0) _ _ _ HT4.out G1.out.1 G1.out.2 YD.out HB.out
      · rw [if_neg hc4] at YD
        have G1 : Hid (n2 - 4 ≤ c2 - 4 ∧ c2 - 4 ≤ maxLen) := ⟨by omega, by omega⟩
        refine wp_region_held_drew (S := fun V => V.cell? ⟨b, off + sft + 1, none⟩ = some (.int .u8 (x1.toNat : Int)) ∧ V.cell? ⟨b, off + sft + 2, none⟩ = some (.int .u8 (x2.toNat : Int)) ∧ V.cell? ⟨b, off + sft + 3, none⟩ = some (.int .u8 (x3.toNat : Int))) (by kernel_rfl) ⟨y1, y2, y3⟩ (fun hHeld => ?_)
        refine wpAnyH_takeAt (i := 0) (d := 50) (v := ?_) rfl rfl (by kernel_rfl) (by kernel_rfl) (by kernel_rfl) (fun _ _ _ h => h) (Or.inl ⟨by rfl, ?_⟩) hHeld ?_
        rotate_left
        · (intro _ hSw; go_simp; try with_reducible rfl)
        simp only [List.setIfInBounds_toArray, List.set_cons_zero, List.set_cons_succ]
        refine wpAnyH_takeAt (i := 1) (d := 51) (v := ?_) rfl rfl (by kernel_rfl) (by kernel_rfl) (by kernel_rfl) (fun _ _ _ h => h) (Or.inl ⟨by rfl, ?_⟩) hHeld ?_
        rotate_left
        · (intro _ hSw; go_simp; try with_reducible rfl)
        simp only [List.setIfInBounds_toArray, List.set_cons_zero, List.set_cons_succ]
        refine wpAnyH_takeAt (i := 2) (d := 52) (v := ?_) rfl rfl (by kernel_rfl) (by kernel_rfl) (by kernel_rfl) (fun _ _ _ h => h) (Or.inl ⟨by rfl, ?_⟩) hHeld ?_
        rotate_left
        · (intro _ hSw; go_simp; try with_reducible rfl)
        simp only [List.setIfInBounds_toArray, List.set_cons_zero, List.set_cons_succ]
        refine wpAnyH_takeAt (i := 3) (d := 53) (v := ?_) rfl rfl (by kernel_rfl) (by kernel_rfl) (by kernel_rfl) (fun _ _ _ h => h) (Or.inl ⟨by rfl, ?_⟩) hHeld ?_
        rotate_left
        · (intro _ hSw; go_simp; try with_reducible rfl)
        simp only [List.setIfInBounds_toArray, List.set_cons_zero, List.set_cons_succ]
        refine wpAnyH_takeAt (i := 4) (d := 54) (v := ?_) rfl rfl (by kernel_rfl) (by kernel_rfl) (by kernel_rfl) (fun _ _ _ h => h) (Or.inl ⟨by rfl, ?_⟩) hHeld ?_
        rotate_left
        · (intro _ hSw; go_simp; try with_reducible rfl)
        simp only [List.setIfInBounds_toArray, List.set_cons_zero, List.set_cons_succ]
        refine wpAnyH_takeAt (i := 5) (d := 55) (v := ?_) rfl rfl (by kernel_rfl) (by kernel_rfl) (by kernel_rfl) (fun _ _ _ h => h) (Or.inl ⟨by rfl, ?_⟩) hHeld ?_
        rotate_left
        · (intro _ hSw; go_simp; try with_reducible rfl)
        simp only [List.setIfInBounds_toArray, List.set_cons_zero, List.set_cons_succ]
        refine wpAnyH_takeAt (i := 6) (d := 56) (v := ?_) rfl rfl (by kernel_rfl) (by kernel_rfl) (by kernel_rfl) (fun _ _ _ h => h) (Or.inl ⟨by rfl, ?_⟩) hHeld ?_
        rotate_left
        · (intro _ hSw; go_simp; try with_reducible rfl)
        simp only [List.setIfInBounds_toArray, List.set_cons_zero, List.set_cons_succ]
        refine wpAnyH_takeAt (i := 7) (d := 57) (v := ?_) rfl rfl (by kernel_rfl) (by kernel_rfl) (by kernel_rfl) (fun _ _ _ h => h) (Or.inl ⟨by rfl, ?_⟩) hHeld ?_
        rotate_left
        · (intro _ hSw; go_simp; try with_reducible rfl)
        simp only [List.setIfInBounds_toArray, List.set_cons_zero, List.set_cons_succ]
        refine wpAnyH_takeAt (i := 8) (d := 58) (v := ?_) rfl rfl (by kernel_rfl) (by kernel_rfl) (by kernel_rfl) (fun _ _ _ h => h) (Or.inl ⟨by rfl, ?_⟩) hHeld ?_
        rotate_left
        · (intro _ hSw; go_simp; try with_reducible rfl)
        simp only [List.setIfInBounds_toArray, List.set_cons_zero, List.set_cons_succ]
        refine wpAnyH_takeAt (i := 9) (d := 59) (v := ?_) rfl rfl (by kernel_rfl) (by kernel_rfl) (by kernel_rfl) (fun _ _ _ h => h) (Or.inl ⟨by rfl, ?_⟩) hHeld ?_
        rotate_left
        · (intro _ hSw; go_simp; try with_reducible rfl)
        simp only [List.setIfInBounds_toArray, List.set_cons_zero, List.set_cons_succ]
        refine wpAnyH_takeAt (i := 10) (d := 60) (v := ?_) rfl rfl (by kernel_rfl) (by kernel_rfl) (by kernel_rfl) (fun _ _ _ h => h) (Or.inl ⟨by rfl, ?_⟩) hHeld ?_
        rotate_left
        · (intro _ hSw; go_simp; try with_reducible rfl)
        simp only [List.setIfInBounds_toArray, List.set_cons_zero, List.set_cons_succ]
        refine wpAnyH_takeAt (i := 11) (d := 61) (v := ?_) rfl rfl (by kernel_rfl) (by kernel_rfl) (by kernel_rfl) (fun _ _ _ h => h) (Or.inl ⟨by rfl, ?_⟩) hHeld ?_
        rotate_left
        · (intro _ hSw; go_simp; try with_reducible rfl)
        simp only [List.setIfInBounds_toArray, List.set_cons_zero, List.set_cons_succ]
        have HR0 := HRow.out
        refine wpAnyH_ready (rs := [12]) (by kernel_rfl) (by simp) ?_
        refine AllReadyH.cons rfl (fun K hK => ?_) AllReadyH.nil
        have z0 : W.cell? ⟨w.heap.size, 0, none⟩ = some (.int .u8 0) := cell_of_row W _ 0 _ _ _ HR0
        have z1 : W.cell? ⟨w.heap.size, 1, none⟩ = some (.int .u8 0) := cell_of_row W _ 1 _ _ _ HR0
        have z2 : W.cell? ⟨w.heap.size, 2, none⟩ = some (.int .u8 0) := cell_of_row W _ 2 _ _ _ HR0
        clear HR0
        go_simp
        refine hK.out _ _ ?_ (fun hHeld => ?_)
        · refine ⟨?_, ?_, ?_⟩
          · exact (far3 W hbne _ _ _ _).trans y1
          · exact (far3 W hbne _ _ _ _).trans y2
          · exact (far3 W hbne _ _ _ _).trans y3
        clear hK K z0 z1 z2
        refine wpAnyH_takeAt (i := 13) (d := 3) (v := ?_) rfl rfl (by kernel_rfl) (by kernel_rfl) (by kernel_rfl) (fun _ _ _ h => h) (Or.inl ⟨by rfl, ?_⟩) hHeld ?_
        rotate_left
        · (intro _ hSw; go_simp; try with_reducible rfl)
        simp only [List.setIfInBounds_toArray, List.set_cons_zero, List.set_cons_succ]
        refine wpAnyH_takeAt (i := 14) (d := 4) (v := ?_) rfl rfl (by kernel_rfl) (by kernel_rfl) (by kernel_rfl) (fun _ _ _ h => h) (Or.inl ⟨by rfl, ?_⟩) hHeld ?_
        rotate_left
        · (intro _ hSw; go_simp; try with_reducible rfl)
        simp only [List.setIfInBounds_toArray, List.set_cons_zero, List.set_cons_succ]
        refine wpAnyH_done (by kernel_rfl) ?_ _
        go_wp2
        refine bodyPost_ret (results_cell3 rfl _ _ w.heap.size _ rfl (run_loadVar_row _ _ _ _ _ (0, 0) _ (heap_setCell_row (heap_setCell_row (heap_setCell_row HRow.out 0 _) 1 _) 2 _) Try.underlying25 rfl (by kernel_rfl))) rfl ?_
        exact headGot_yes (A := some ⟨b, off + sft + 4, none⟩) (m := n2 - 4) (cc := c2 - 4) _ _ _ HT4.out G1.out.1 G1.out.2 YD.out HB.out
    · rw [if_pos hx]
      have hv : ((x0.toNat : Int) != 1) = true := by
        simp
        intro e
        exact hx (UInt8.toNat_inj.1 (show x0.toNat = (1 : UInt8).toNat by have : (1 : UInt8).toNat = 1 := rfl; omega))
      go_enter Try.func18, Try.ntmps18
      go_wp2_with fail
      refine HN.out.mono ?_
      rintro e W1 ⟨gr, rfl, HNum⟩
      go_wp2_with fail
      refine HNum.out.mono ?_
      rintro e W ⟨rfl, n2, hM⟩
      have hn2 := hM.len
      have z0 := cell_of_row W _ 0 _ _ _ hM.row
      have z1 := cell_of_row W _ 1 _ _ _ hM.row
      have z2 := cell_of_row W _ 2 _ _ _ hM.row
      have fz := row_frozen hM.row
      simp only [List.getElem?_toArray, List.getElem?_cons_zero, List.getElem?_cons_succ] at z0 z1 z2
      have HB := Lib.hid hM.below
      have HRow := Lib.hid hM.row
      have HE := Lib.hid hM.err
      have HLf := Lib.hid hM.left
      clear hM HNum
      have hc0 := HB.out
      have y0 : W.cell? ⟨b, off + sft, none⟩ = some (.int .u8 (x0.toNat : Int)) := (hc0.cell (p := ⟨b, off + sft, none⟩) hb).trans (YC.out 0 _ rfl)
      have y1 : W.cell? ⟨b, off + sft + 1, none⟩ = some (.int .u8 (x1.toNat : Int)) := (hc0.cell (p := ⟨b, off + sft + 1, none⟩) hb).trans (YC.out 1 _ rfl)
      have y2 : W.cell? ⟨b, off + sft + 2, none⟩ = some (.int .u8 (x2.toNat : Int)) := (hc0.cell (p := ⟨b, off + sft + 2, none⟩) hb).trans (YC.out 2 _ rfl)
      have y3 : W.cell? ⟨b, off + sft + 3, none⟩ = some (.int .u8 (x3.toNat : Int)) := (hc0.cell (p := ⟨b, off + sft + 3, none⟩) hb).trans (YC.out 3 _ rfl)
      clear hc0
      have ht : t.length + 4 = n2 := hn2
      have es : (n : Int) - (n2 : Int) = (sft : Int) := by omega
      have hcs : ¬ c = sft := by omega
      have q1 : ¬ (n2 : Int) + 4 < (told : Int) := by have := HT.out; omega
      have q2 : ¬ (told : Int) < (n2 : Int) + 4 := by have := HT.out; omega
      have q3 : ¬ (n2 : Int) < 4 := by omega
      have hsn : sft ≤ n := by omega
      clear hn2
      go_wp2_with fail
      refine HE.out.mono ?_
      rintro e _ ⟨rfl, rfl⟩
      go_wp2_with fail
      refine HLf.out.mono ?_
      rintro e _ ⟨rfl, rfl⟩
      go_wp2_with fail
      refine HLf.out.mono ?_
      rintro e _ ⟨rfl, rfl⟩
      go_wp2_with fail
      refine HLf.out.mono ?_
      rintro e _ ⟨rfl, rfl⟩

      go_wp2
      refine bodyPost_ret (results_cell3 rfl _ _ w.heap.size _ rfl (run_loadVar_row _ _ _ _ _ (0, 0) _ (heap_setCell_row (heap_setCell_row (heap_setCell_row HRow.out 0 _) 1 _) 2 _) Try.underlying25 rfl (by kernel_rfl))) rfl ?_
      exact HeadGot.none 3 (((HB.out.setCell (p := ⟨w.heap.size, _, none⟩) (Nat.le_refl _) _).setCell (p := ⟨w.heap.size, _, none⟩) (Nat.le_refl _) _).setCell (p := ⟨w.heap.size, _, none⟩) (Nat.le_refl _) _)
  · rw [if_pos her]
    have q0 : ((er : Int) != 0) = true := by simp; omega
    have HL := Lib.hid hl
    have HH := Lib.hid h
    clear hcase her hl h
    go_enter Try.func18, Try.ntmps18
    go_wp2_with fail
    refine HN.out.mono ?_
    rintro e W1 ⟨gr, rfl, HNum⟩
    go_wp2_with fail
    refine HNum.out.mono ?_
    rintro e W ⟨rfl, n2, hM⟩
    have hn2 := hM.len
    have z0 := cell_of_row W _ 0 _ _ _ hM.row
    have z1 := cell_of_row W _ 1 _ _ _ hM.row
    have z2 := cell_of_row W _ 2 _ _ _ hM.row
    have fz := row_frozen hM.row
    simp only [List.getElem?_toArray, List.getElem?_cons_zero, List.getElem?_cons_succ] at z0 z1 z2
    have HB := Lib.hid hM.below
    have HRow := Lib.hid hM.row
    have HE := Lib.hid hM.err
    have HLf := Lib.hid hM.left
    clear hM HNum
    clear hn2
    go_wp2_with fail
    refine HE.out.mono ?_
    rintro e _ ⟨rfl, rfl⟩
    go_wp2
    refine bodyPost_ret (results_cell3 rfl _ _ w.heap.size _ rfl (run_loadVar_row _ _ _ _ _ (0, 0) _ (heap_setCell_row (heap_setCell_row (heap_setCell_row HRow.out 0 _) 1 _) 2 _) Try.underlying25 rfl (by kernel_rfl))) rfl ?_
    exact HeadGot.none er (((HB.out.setCell (p := ⟨w.heap.size, _, none⟩) (Nat.le_refl _) _).setCell (p := ⟨w.heap.size, _, none⟩) (Nat.le_refl _) _).setCell (p := ⟨w.heap.size, _, none⟩) (Nat.le_refl _) _)

end Go.Proofs.Ytbfjfidodpgohaa
