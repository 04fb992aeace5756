/- Stage 13: the document's without, walked (the door seat alone). -/
import Derived.Test.YthkongnjokmmfaaDoorGdF
set_option maxRecDepth 20000
namespace Go.Proofs.YthkongnjokmmfaaDoor
open Go.RowKit Go.Sort

def rgZero : Array Value := #[.int .i64 0, .int .i64 0, .int .i64 0, .slice none 0 0, .int .u8 0, .int .u64 0, .int .i64 0, .int .i64 0, .int .i64 0, .int .i64 0, .int .i64 0, .int .i64 0]

section
variable {w : World} {D : Nat → Prop} {A : Option Addr} {n c : Nat} {R : List Rp} {m : Gm}
set_option maxRecDepth 100000 in
set_option maxHeartbeats 3200000 in
theorem refWithout_any (h : RgAt w D A n c R m) (hn : n ≤ 1000000) (hD : ∀ k, D k → k < w.heap.size) (i : Nat) (hi : i < n) :
    Calls Tryd.prog 27 #[.agg (rgCells (.slice A n c) m), .int .i64 (i : Int)] w fun e w' => ∃ A' c', e = .returned (.agg (rgCells (.slice A' (n - 1) c') { m with l := m.l.eraseIdx i })) ∧ RgAt w' D A' (n - 1) c' (R.eraseIdx i) { m with l := m.l.eraseIdx i } ∧ RowKit.Below w.heap.size w w' := by
  have hlen := h.len
  have hnc := h.nc
  have hcm := h.cm
  obtain ⟨b, off, hA, -, -⟩ := h.part (show i < R.length by omega)
  subst hA
  obtain ⟨w0, hw0⟩ : ∃ w0, w0 = (w.alloc (.cells (rgCells (.slice (some ⟨b, off, none⟩) n c) m) 32)).alloc (.cells rgZero 32) := ⟨_, rfl⟩
  have hb0 : RowKit.Below w.heap.size w w0 := by rw [hw0]; exact ((RowKit.Below.refl _ _).alloc (Nat.le_refl _) _).alloc (by simp) _
  have hs0 : w0.heap.size = w.heap.size + 2 := by rw [hw0]; simp
  have hrB : w0.heap[w.heap.size]? = some (.cells (rgCells (.slice (some ⟨b, off, none⟩) n c) m) 32 (0, 0)) := by rw [hw0]; exact alloc2_old w _ _ _
  have hrR : w0.heap[w.heap.size + 1]? = some (.cells rgZero 32 (0, 0)) := by rw [hw0]; exact alloc2_new w _ _
  have h0 : RgAt w0 (fun k => D k ∨ k = w.heap.size ∨ k = w.heap.size + 1) (some ⟨b, off, none⟩) n c R m := (h.widen fun k hk => hk.elim .inr fun e => .inl (by omega)).on hb0
  obtain ⟨A1, c1, W1, hrun1, hb1, hrest⟩ := h0.cut2 hn (fun k hk => by rcases hk with hk | rfl | rfl; (have := hD k hk; omega); omega; omega) hi (RowKit.Below.refl _ _) rfl
  have HR1 := Lib.hid hrun1
  have HW0 := Lib.hid hw0
  have hcl : (c : Int) ≤ 9223372036854775807 := by unfold maxLen at hcm; omega
  -- the end, whatever the second append's address
  have HEND : Hid (∀ A2 c2 W2, RowKit.Below w0.heap.size w0 W2 → RgAt W2 (fun k => D k ∨ k = w.heap.size ∨ k = w.heap.size + 1) A2 (n - 1) c2 (R.eraseIdx i) { m with l := m.l.eraseIdx i } →
      (W2.setCell ⟨w.heap.size, 3, none⟩ (.slice A2 (n - 1) c2)).heap[w.heap.size]? = some (.cells (rgCells (.slice A2 (n - 1) c2) { m with l := m.l.eraseIdx i }) 32 (0, 0)) ∧
      (W2.setCell ⟨w.heap.size, 3, none⟩ (.slice A2 (n - 1) c2)).heap[w.heap.size + 1]? = some (.cells rgZero 32 (0, 0)) ∧ W2.cell? ⟨w.heap.size, 3, none⟩ = some (.slice (some ⟨b, off, none⟩) n c) ∧ W2.frozen? ⟨w.heap.size, 3, none⟩ = false ∧
      (∀ W4, W4 = (W2.setCell ⟨w.heap.size, 3, none⟩ (.slice A2 (n - 1) c2)).setRow (w.heap.size + 1) (rgCells (.slice A2 (n - 1) c2) { m with l := m.l.eraseIdx i }) → W4.heap[w.heap.size + 1]? = some (.cells (rgCells (.slice A2 (n - 1) c2) { m with l := m.l.eraseIdx i }) 32 (0, 0)) ∧
        RgAt W4 D A2 (n - 1) c2 (R.eraseIdx i) { m with l := m.l.eraseIdx i } ∧ RowKit.Below w.heap.size w W4)) := fun A2 c2 W2 hW2 hR2 => by
    have r1 := (hW2.block w.heap.size (by omega)).trans hrB
    have r2 := (hW2.block (w.heap.size + 1) (by omega)).trans hrR
    have hO1 : OnlyE W2 (W2.setCell ⟨w.heap.size, 3, none⟩ (.slice A2 (n - 1) c2)) (fun k => k = w.heap.size) := onlyE_set (D := fun k => k = w.heap.size) rfl 3 _
    have hz2 := hW2.size
    have r3 := (hO1.same (w.heap.size + 1) (by omega) (by omega)).trans r2
    refine ⟨heap_setCell_same W2 w.heap.size 3 _ _ _ r1, r3, cell_of_row W2 w.heap.size 3 _ _ _ r1, frozen_of_row W2 w.heap.size 3 _ _ r1, ?_⟩
    rintro W4 rfl
    have hO2 : OnlyE (W2.setCell ⟨w.heap.size, 3, none⟩ (.slice A2 (n - 1) c2)) ((W2.setCell ⟨w.heap.size, 3, none⟩ (.slice A2 (n - 1) c2)).setRow (w.heap.size + 1) (rgCells (.slice A2 (n - 1) c2) { m with l := m.l.eraseIdx i })) (fun k => k = w.heap.size + 1) := OnlyE.of_grown (grown_setRow _ _ _) rfl
    have hO : OnlyE W2 ((W2.setCell ⟨w.heap.size, 3, none⟩ (.slice A2 (n - 1) c2)).setRow (w.heap.size + 1) (rgCells (.slice A2 (n - 1) c2) { m with l := m.l.eraseIdx i })) (fun k => k = w.heap.size ∨ k = w.heap.size + 1) := (hO1.mono fun k hk => .inl hk).trans (hO2.mono fun k hk => .inr hk)
    refine ⟨setRow_heap _ _ _ _ _ (0, 0) r3, (hR2.kept (hO.mono fun k hk => .inr hk)).widen fun k hk => .inr (.inl hk), ?_⟩
    exact (hb0.trans (hW2.mono hb0.size)).trans (hO.below (fun k hk => by omega) (by omega))
  have y3 : W1.cell? ⟨w.heap.size, 3, none⟩ = some (.slice (some ⟨b, off, none⟩) n c) := (hb1.cell (p := ⟨w.heap.size, 3, none⟩) (by show w.heap.size < w0.heap.size; omega)).trans (cell_of_row w0 w.heap.size 3 _ _ _ hrB)
  have HONE : Hid (∀ A2 c2, (rgCells (.slice A2 (n - 1) c2) { m with l := m.l.eraseIdx i }).all (·.oneCell') = true) := fun A2 c2 => rg_one A2 (n - 1) c2 _
  have hs00 := hs0
  clear hw0 hb0 hs0 hrB hrR h0 hrun1 hb1 h
  rw [show w0.heap.size = w.heap.size + 1 + 1 by omega] at HR1
  unfold rgCells rgZero at *
  generalize (m.counts.getD 0 0 : Int) = q0 at *
  generalize (m.counts.getD 1 0 : Int) = q1 at *
  generalize (m.counts.getD 2 0 : Int) = q2 at *
  generalize (m.counts.getD 3 0 : Int) = q3 at *
  generalize (m.counts.getD 4 0 : Int) = q4 at *
  generalize (m.counts.getD 5 0 : Int) = q5 at *
  have hic : i ≤ c := by omega
  have hic2 : i + 1 ≤ n := by omega
  by_cases hcj : c = i + 1
  · subst hcj
    have hnn : n = i + 1 := by omega
    subst hnn
    clear hic hic2 hcl hnc hcm hi
    simp only [Nat.add_sub_cancel] at HONE
    obtain ⟨A2, c2, W2, hrun2, hb2, hR2⟩ := hrest ⟨b, off, none⟩ 0 (by omega)
    obtain ⟨e1, e2, e3, e4, e5⟩ := HEND.out A2 c2 W2 hb2 hR2
    rw [Nat.sub_self, Nat.add_sub_cancel] at hrun2
    simp only [Nat.add_sub_cancel] at e1 e2 e5
    have HR2 := Lib.hid hrun2
    have HE1 := Lib.hid e1
    have HE2 := Lib.hid e2
    have HE5 := Lib.hid e5
    clear hrun2 e1 e2 e5 HEND hrest hb2 hR2
    go_enter Tryd.func27, Tryd.ntmps27
    go_wp2_with (first | (at_builtin; rw [← HW0.out]; refine wpList_append_run rfl (.tmp 6) (.tmp 10) 29 rfl rfl rfl HR1.out ?_) | (at_builtin; refine wpList_append_run rfl (.tmp 12) (.tmp 17) 29 rfl rfl rfl HR2.out ?_) | (refine load_Rg (.tmp 2) rfl HE1.out rfl ?_) | (refine store_Rg (.tmp 4) (.tmp 20) rfl rfl HE2.out rfl rfl (HONE.out _ _) ?_) | fail)
    exact bodyPost_ret (results_cell_row rfl _ _ _ _ _ _ _ rfl (HE5.out _ rfl).1 Tryd.underlying32 rfl (infoRg rfl)) rfl ⟨A2, c2, rfl, (HE5.out _ rfl).2.1, (HE5.out _ rfl).2.2⟩
  · obtain ⟨A2, c2, W2, hrun2, hb2, hR2⟩ := hrest ⟨b, off + (i + 1) * 5, none⟩ (c - (i + 1)) (fun _ => rfl)
    obtain ⟨e1, e2, e3, e4, e5⟩ := HEND.out A2 c2 W2 hb2 hR2
    have HR2 := Lib.hid hrun2
    have HE1 := Lib.hid e1
    have HE2 := Lib.hid e2
    have HE5 := Lib.hid e5
    clear hrun2 e1 e2 e5 HEND hrest hb2 hR2
    go_enter Tryd.func27, Tryd.ntmps27
    go_wp2_with (first | (at_builtin; rw [← HW0.out]; refine wpList_append_run rfl (.tmp 6) (.tmp 10) 29 rfl rfl rfl HR1.out ?_) | (at_builtin; refine wpList_append_run rfl (.tmp 12) (.tmp 17) 29 rfl rfl rfl HR2.out ?_) | (refine load_Rg (.tmp 2) rfl HE1.out rfl ?_) | (refine store_Rg (.tmp 4) (.tmp 20) rfl rfl HE2.out rfl rfl (HONE.out _ _) ?_) | fail)
    exact bodyPost_ret (results_cell_row rfl _ _ _ _ _ _ _ rfl (HE5.out _ rfl).1 Tryd.underlying32 rfl (infoRg rfl)) rfl ⟨A2, c2, rfl, (HE5.out _ rfl).2.1, (HE5.out _ rfl).2.2⟩
end

end Go.Proofs.YthkongnjokmmfaaDoor
