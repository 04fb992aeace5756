/- The document's Same of two lists of frames. -/
import Derived.Test.YtbkkpimhoeagdaaSlU
namespace Go.Proofs.Ytbkkpimhoeagdaa
open Go.RowKit Go.Sort
set_option maxRecDepth 20000

/-- Two elements of lists, as cells. -/
def TwoE (b o b' o' : Nat) (x y : Pf) (V : World) : Prop := V.rangeAt b o (encPf x) ∧ V.rangeAt b' o' (encPf y)

theorem map_at {ys zs : List Pf} (h : ys.map Pf.F = zs.map Pf.F) {i : Nat} (hi : i < ys.length) (hj : i < zs.length) : zs[i].F = ys[i].F := by
  have h1 : (ys.map Pf.F)[i]? = (zs.map Pf.F)[i]? := by rw [h]
  rw [List.getElem?_map, List.getElem?_map, List.getElem?_eq_getElem hi, List.getElem?_eq_getElem hj] at h1
  exact (Option.some.inj h1).symm

set_option maxRecDepth 20000 in
set_option maxHeartbeats 3200000 in
theorem refSameL_any (A B : Option Addr) (n c c' : Nat) (ys zs : List Pf) (w : World) (hl : ys.length = n) (hl' : zs.length = n) (hm : ys.map Pf.F = zs.map Pf.F) (hok : ∀ y ∈ ys, y.F.Ok) (hA : Lies w w.heap.size A (flat encPf ys)) (hB : Lies w w.heap.size B (flat encPf zs))
    (hyl : ∀ y ∈ ys, FrL w y.F y.cs) (hzl : ∀ z ∈ zs, FrL w z.F z.cs) (hn : n ≤ 1000) :
    Calls Try.prog 19 #[.slice A n c, .slice B n c'] w fun e w' => e = .returned (.bool true) ∧ RowKit.Below w.heap.size w w' := by
  have HL := Lib.hid hl
  have HL' := Lib.hid hl'
  have HM := Lib.hid hm
  have HOK := Lib.hid hok
  have HA := Lib.hid hA
  have HB := Lib.hid hB
  have HY := Lib.hid hyl
  have HZ := Lib.hid hzl
  clear hl hl' hm hok hA hB hyl hzl
  go_enter Try.func19, Try.ntmps19
  go_wp2_with fail
  go_loopw [5, 13] (fun _ s wr => ∃ i : Nat, i ≤ n ∧ s = .int .i64 i ∧ RowKit.Below w.heap.size w wr) (fun _ s _ => n - (intOf s).toNat)
  case atStart => exact ⟨0, Nat.zero_le _, rfl, RowKit.Below.refl _ _⟩
  case round =>
    obtain ⟨i, hi, rfl, hb⟩ := hrel
    have HBW := Lib.hid hb
    clear hb
    by_cases hlt : i < n
    · have hiy : i < ys.length := by rw [HL.out]; exact hlt
      have hiz : i < zs.length := by rw [HL'.out]; exact hlt
      obtain ⟨b1, o1, rfl, hb1, hc1⟩ := row_at (HA.out.below HBW.out) hiy
      obtain ⟨b2, o2, rfl, hb2, hc2⟩ := row_at (HB.out.below HBW.out) hiz
      have hFe := map_at HM.out hiy hiz
      have hy := (HY.out _ (List.getElem_mem hiy)).on HBW.out
      have hz := (HZ.out _ (List.getElem_mem hiz)).on HBW.out
      have hyo := HOK.out _ (List.getElem_mem hiy)
      rw [hFe] at hz
      generalize ys[i] = y at hc1 hFe hy hz hyo
      generalize zs[i] = z at hc2 hFe hz
      have HCL : Hid (∀ W, RowKit.Below wr.heap.size wr W → Calls Try.prog 17 #[.agg y.cs, .agg z.cs] W fun e w' => e = .returned (.bool true) ∧ RowKit.Below W.heap.size W w') := fun W hW => refSame_any y.F y.cs z.cs W hyo (hy.on hW) (hz.on hW)
      have hHeld : TwoE b1 (o1 + i * 16) b2 (o2 + i * 16) y z wr.drew := ⟨hc1, hc2⟩
      have HBD : Hid (RowKit.Below wr.heap.size wr wr.drew) := drewB _
      clear hFe hy hz hyo hc1 hc2 hiy hiz
      go_wp2_with fail
      refine wp_region_held_drew (S := TwoE b1 (o1 + i * 16) b2 (o2 + i * 16) y z) (by kernel_rfl) hHeld (fun hHeld => ?_)
      generalize wr.drew = W0 at hHeld HBD ⊢
      refine wpAnyH_takeAt (i := 0) (d := 16) (v := ?_) rfl rfl (by kernel_rfl) (by kernel_rfl) (by kernel_rfl) (fun _ _ _ h => h) (Or.inl ⟨by rfl, ?_⟩) hHeld ?_
      rotate_left
      · (intro _ hSw; go_simp; try with_reducible rfl)
      simp only [List.setIfInBounds_toArray, List.set_cons_zero, List.set_cons_succ]
      refine wpAnyH_takeAt (i := 1) (d := 17) (v := ?_) rfl rfl (by kernel_rfl) (by kernel_rfl) (by kernel_rfl) (fun _ _ _ h => h) (Or.inl ⟨by rfl, ?_⟩) hHeld ?_
      rotate_left
      · (intro _ hSw; go_simp; try with_reducible rfl)
      simp only [List.setIfInBounds_toArray, List.set_cons_zero, List.set_cons_succ]
      refine wpAnyH_takeAt (i := 2) (d := 18) (v := ?_) rfl rfl (by kernel_rfl) (by kernel_rfl) (by kernel_rfl) (fun _ _ _ h => h) (Or.inl ⟨by rfl, ?_⟩) hHeld ?_
      rotate_left
      · (intro _ hSw; go_simp; try with_reducible rfl)
      simp only [List.setIfInBounds_toArray, List.set_cons_zero, List.set_cons_succ]
      refine wpAnyH_takeAt (i := 3) (d := 19) (v := .agg y.cs) rfl rfl (by kernel_rfl) (by kernel_rfl) (by kernel_rfl) (fun _ _ _ h => h) (yieldsIf_load_mid (S := TwoE b1 (o1 + i * 16) b2 (o2 + i * 16) y z) rfl 44 (.tmp 18) rfl b1 (o1 + i * 16) rfl (encPf y) _ (fun V hV => hV.1) Try.underlying44 rfl (infoFr.trans (by rw [encPf_len]))) hHeld ?_
      simp only [List.setIfInBounds_toArray, List.set_cons_zero, List.set_cons_succ]
      refine wpAnyH_takeAt (i := 4) (d := 20) (v := ?_) rfl rfl (by kernel_rfl) (by kernel_rfl) (by kernel_rfl) (fun _ _ _ h => h) (Or.inl ⟨by rfl, ?_⟩) hHeld ?_
      rotate_left
      · (intro _ hSw; go_simp; try with_reducible rfl)
      simp only [List.setIfInBounds_toArray, List.set_cons_zero, List.set_cons_succ]
      refine wpAnyH_takeAt (i := 5) (d := 21) (v := ?_) rfl rfl (by kernel_rfl) (by kernel_rfl) (by kernel_rfl) (fun _ _ _ h => h) (Or.inl ⟨by rfl, ?_⟩) hHeld ?_
      rotate_left
      · (intro _ hSw; go_simp; try with_reducible rfl)
      simp only [List.setIfInBounds_toArray, List.set_cons_zero, List.set_cons_succ]
      refine wpAnyH_takeAt (i := 6) (d := 22) (v := ?_) rfl rfl (by kernel_rfl) (by kernel_rfl) (by kernel_rfl) (fun _ _ _ h => h) (Or.inl ⟨by rfl, ?_⟩) hHeld ?_
      rotate_left
      · (intro _ hSw; go_simp; try with_reducible rfl)
      simp only [List.setIfInBounds_toArray, List.set_cons_zero, List.set_cons_succ]
      refine wpAnyH_takeAt (i := 7) (d := 23) (v := .agg z.cs) rfl rfl (by kernel_rfl) (by kernel_rfl) (by kernel_rfl) (fun _ _ _ h => h) (yieldsIf_load_mid (S := TwoE b1 (o1 + i * 16) b2 (o2 + i * 16) y z) rfl 44 (.tmp 22) rfl b2 (o2 + i * 16) rfl (encPf z) _ (fun V hV => hV.2) Try.underlying44 rfl (infoFr.trans (by rw [encPf_len]))) hHeld ?_
      simp only [List.setIfInBounds_toArray, List.set_cons_zero, List.set_cons_succ]
      refine wpAnyH_ready (rs := [8]) (by kernel_rfl) (by simp) ?_
      refine AllReadyH.cons rfl (fun K hK => ?_) AllReadyH.nil
      go_simp
      refine (HCL.out W0 HBD.out).mono ?_
      rintro e W1 ⟨rfl, hb1'⟩
      have hH1 : TwoE b1 (o1 + i * 16) b2 (o2 + i * 16) y z W1 := ⟨fun j v hv => (hb1'.cell (p := ⟨b1, o1 + i * 16 + j, none⟩) (World.block_lt_of_cell? _ _ (hHeld.1 j v hv))).trans (hHeld.1 j v hv), fun j v hv => (hb1'.cell (p := ⟨b2, o2 + i * 16 + j, none⟩) (World.block_lt_of_cell? _ _ (hHeld.2 j v hv))).trans (hHeld.2 j v hv)⟩
      have HB1 : Hid (RowKit.Below w.heap.size w W1) := HBW.out.trans ((HBD.out.trans (hb1'.mono HBD.out.size)).mono HBW.out.size)
      refine hK.out _ _ hH1 (fun hHeld => ?_)
      clear hK K hb1' hH1
      refine wpAnyH_takeAt (i := 9) (d := 25) (v := ?_) rfl rfl (by kernel_rfl) (by kernel_rfl) (by kernel_rfl) (fun _ _ _ h => h) (Or.inl ⟨by rfl, ?_⟩) hHeld ?_
      rotate_left
      · (intro _ hSw; go_simp; try with_reducible rfl)
      simp only [List.setIfInBounds_toArray, List.set_cons_zero, List.set_cons_succ]
      refine wpAnyH_done (by kernel_rfl) ?_ _
      go_wp2
      go_roundw
      case rel => exact ⟨i + 1, by omega, by go_num, HB1.out⟩
      case measure => simp [intOf]; omega
    · obtain rfl : i = n := by omega
      go_wp2
      go_ret
      exact ⟨rfl, HBW.out⟩

end Go.Proofs.Ytbkkpimhoeagdaa
