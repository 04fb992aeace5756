/- The walks of order, Less, May, Run and their kin (ident). -/
import Derived.Test.YtoihikeeaobemaaIdA
import Derived.Test.YtoihikeeaobemaaHeld
import Derived.Deep.RegionWith
namespace Go.Proofs.Ytoihikeeaobemaa
open Go.RowKit Go.Sort

def ordI (x y : Id) : Int := orI (cmpI x.f y.f) (cmpI x.s y.s)

theorem box2 (W w0 : World) (c1 c2 : Array Value) (t1 t2 : TypeId) (h : (W.alloc (.cells c1 t1)).alloc (.cells c2 t2) = w0) : w0.heap.size = W.heap.size + 1 + 1 ∧ Grew W w0 ∧
    (∀ j u, c1[j]? = some u → w0.cell? ⟨W.heap.size, j, none⟩ = some u) ∧ (∀ j u, c2[j]? = some u → w0.cell? ⟨W.heap.size + 1, j, none⟩ = some u) := by
  subst h
  refine ⟨by simp, ((Grew.refl W).alloc _).alloc _, fun j u hu => ?_, fun j u hu => ?_⟩
  · have h1 : ((W.alloc (.cells c1 t1)).alloc (.cells c2 t2)).heap[W.heap.size]? = some (.cells c1 t1 (0, 0)) := by
      rw [Below.heap_alloc _ _ _ (by simp)]
      exact heap_alloc_new W _
    rw [cell_of_row _ _ _ _ _ _ h1]; exact hu
  · have h1 := heap_alloc_new (W.alloc (.cells c1 t1)) (.cells c2 t2 (0, 0))
    have h2 := cell_of_row _ _ j _ _ _ h1
    rw [show (W.alloc (.cells c1 t1)).heap.size = W.heap.size + 1 by simp] at h2
    rw [h2]; exact hu

set_option maxHeartbeats 800000 in
theorem order_any (x y : Id) (W : World) : Calls Try.prog 27 #[valId x, valId y] W fun e w' => e = .returned (.int .i64 (ordI x y)) ∧ Grew W w' := by
  unfold valId ordI
  have c8 := fun W' => cmp8_any x.f y.f W'
  have c64 := fun W' => cmp64_any x.s y.s W'
  generalize cmpI x.f y.f = r1 at c8 ⊢
  generalize cmpI x.s y.s = r2 at c64 ⊢
  go_enter Try.func27, Try.ntmps27
  go_wp2_with fail
  generalize hw0 : (W.alloc _).alloc _ = w0
  obtain ⟨hs0, hG, hc1, hc2⟩ := box2 W w0 _ _ _ _ hw0
  have k0 : ∀ W', Below w0.heap.size w0 W' → W'.cell? ⟨W.heap.size, 0, none⟩ = some (.int .u8 x.f) := fun W' hb => (hb.cell (p := ⟨W.heap.size, 0, none⟩) (by show _ < w0.heap.size; rw [hs0]; show (_ : Nat) < _; dsimp only; omega)).trans (hc1 0 _ rfl)
  have k1 : ∀ W', Below w0.heap.size w0 W' → W'.cell? ⟨W.heap.size, 1, none⟩ = some (.int .u64 x.s) := fun W' hb => (hb.cell (p := ⟨W.heap.size, 1, none⟩) (by show _ < w0.heap.size; rw [hs0]; show (_ : Nat) < _; dsimp only; omega)).trans (hc1 1 _ rfl)
  have k2 : ∀ W', Below w0.heap.size w0 W' → W'.cell? ⟨W.heap.size + 1, 0, none⟩ = some (.int .u8 y.f) := fun W' hb => (hb.cell (p := ⟨W.heap.size + 1, 0, none⟩) (by show _ < w0.heap.size; rw [hs0]; show (_ : Nat) < _; dsimp only; omega)).trans (hc2 0 _ rfl)
  have k3 : ∀ W', Below w0.heap.size w0 W' → W'.cell? ⟨W.heap.size + 1, 1, none⟩ = some (.int .u64 y.s) := fun W' hb => (hb.cell (p := ⟨W.heap.size + 1, 1, none⟩) (by show _ < w0.heap.size; rw [hs0]; show (_ : Nat) < _; dsimp only; omega)).trans (hc2 1 _ rfl)
  have hbd : Below w0.heap.size w0 w0.drew := (Below.refl _ _).drew
  have HG : Hid (Grew W w0.drew) := hG.drewN 1
  clear hc1 hc2 hw0 hs0 hG
  refine wp_region_held_drew (S := fun W => Below w0.heap.size w0 W) (by kernel_rfl) hbd (fun hHeld => ?_)
  refine wpAnyH_takeAt (i := 0) (d := 5) (v := ?_) rfl rfl (by kernel_rfl) (by kernel_rfl) (by kernel_rfl) (fun _ _ _ h => h) (Or.inl ⟨by rfl, ?_⟩) hHeld ?_
  rotate_left
  · (intro _ hSw; go_simp; try with_reducible rfl)
  simp only [List.setIfInBounds_toArray, List.set_cons_zero, List.set_cons_succ]
  refine wpAnyH_takeAt (i := 1) (d := 6) (v := ?_) rfl rfl (by kernel_rfl) (by kernel_rfl) (by kernel_rfl) (fun _ _ _ h => h) (Or.inl ⟨by rfl, ?_⟩) hHeld ?_
  rotate_left
  · (intro _ hSw; go_simp; try with_reducible rfl)
  simp only [List.setIfInBounds_toArray, List.set_cons_zero, List.set_cons_succ]
  refine wpAnyH_takeAt (i := 2) (d := 7) (v := ?_) rfl rfl (by kernel_rfl) (by kernel_rfl) (by kernel_rfl) (fun _ _ _ h => h) (Or.inl ⟨by rfl, ?_⟩) hHeld ?_
  rotate_left
  · (intro _ hSw; go_simp; try with_reducible rfl)
  simp only [List.setIfInBounds_toArray, List.set_cons_zero, List.set_cons_succ]
  refine wpAnyH_takeAt (i := 3) (d := 8) (v := ?_) rfl rfl (by kernel_rfl) (by kernel_rfl) (by kernel_rfl) (fun _ _ _ h => h) (Or.inl ⟨by rfl, ?_⟩) hHeld ?_
  rotate_left
  · (intro _ hSw; go_simp; try with_reducible rfl)
  simp only [List.setIfInBounds_toArray, List.set_cons_zero, List.set_cons_succ]
  refine wpAnyH_takeAt (i := 5) (d := 10) (v := ?_) rfl rfl (by kernel_rfl) (by kernel_rfl) (by kernel_rfl) (fun _ _ _ h => h) (Or.inl ⟨by rfl, ?_⟩) hHeld ?_
  rotate_left
  · (intro _ hSw; go_simp; try with_reducible rfl)
  simp only [List.setIfInBounds_toArray, List.set_cons_zero, List.set_cons_succ]
  refine wpAnyH_takeAt (i := 6) (d := 11) (v := ?_) rfl rfl (by kernel_rfl) (by kernel_rfl) (by kernel_rfl) (fun _ _ _ h => h) (Or.inl ⟨by rfl, ?_⟩) hHeld ?_
  rotate_left
  · (intro _ hSw; go_simp; try with_reducible rfl)
  simp only [List.setIfInBounds_toArray, List.set_cons_zero, List.set_cons_succ]
  refine wpAnyH_takeAt (i := 7) (d := 12) (v := ?_) rfl rfl (by kernel_rfl) (by kernel_rfl) (by kernel_rfl) (fun _ _ _ h => h) (Or.inl ⟨by rfl, ?_⟩) hHeld ?_
  rotate_left
  · (intro _ hSw; go_simp; try with_reducible rfl)
  simp only [List.setIfInBounds_toArray, List.set_cons_zero, List.set_cons_succ]
  refine wpAnyH_takeAt (i := 8) (d := 13) (v := ?_) rfl rfl (by kernel_rfl) (by kernel_rfl) (by kernel_rfl) (fun _ _ _ h => h) (Or.inl ⟨by rfl, ?_⟩) hHeld ?_
  rotate_left
  · (intro _ hSw; go_simp; try with_reducible rfl)
  simp only [List.setIfInBounds_toArray, List.set_cons_zero, List.set_cons_succ]
  refine wpAnyH_ready (rs := [4]) (by kernel_rfl) (by simp) ?_
  refine AllReadyH.cons rfl (fun K hK => ?_) AllReadyH.nil
  go_simp
  refine (c8 _).mono ?_
  rintro e w' ⟨rfl, rfl⟩
  dsimp only
  refine hK.out _ _ hbd (fun hHeld => ?_)
  clear hK K
  refine wpAnyH_ready (rs := [9]) (by kernel_rfl) (by simp) ?_
  refine AllReadyH.cons rfl (fun K hK => ?_) AllReadyH.nil
  go_simp
  refine (c64 _).mono ?_
  rintro e w' ⟨rfl, rfl⟩
  dsimp only
  refine hK.out _ _ hbd (fun hHeld => ?_)
  clear hK K
  refine wpAnyH_ready (rs := [10]) (by kernel_rfl) (by simp) ?_
  refine AllReadyH.cons rfl (fun K hK => ?_) AllReadyH.nil
  go_simp
  refine hK.out _ _ (hbd.alloc (by simp) _) (fun hHeld => ?_)
  clear hK K
  refine wpAnyH_ready (rs := [11]) (by kernel_rfl) (by simp) ?_
  refine AllReadyH.cons rfl (fun K hK => ?_) AllReadyH.nil
  go_simp
  refine (or_any _ r1 r2 _ (by simp) (by simp)).mono ?_
  rintro e w' ⟨rfl, rfl⟩
  dsimp only
  refine hK.out _ _ (hbd.alloc (by simp) _) (fun hHeld => ?_)
  clear hK K
  refine wpAnyH_takeAt (i := 12) (d := 4) (v := ?_) rfl rfl (by kernel_rfl) (by kernel_rfl) (by kernel_rfl) (fun _ _ _ h => h) (Or.inl ⟨by rfl, ?_⟩) hHeld ?_
  rotate_left
  · (intro _ hSw; go_simp; try with_reducible rfl)
  simp only [List.setIfInBounds_toArray, List.set_cons_zero, List.set_cons_succ]
  refine wpAnyH_done (by kernel_rfl) ?_ _
  go_wp2
  go_ret
  exact ⟨rfl, HG.out.alloc _⟩


end Go.Proofs.Ytoihikeeaobemaa
