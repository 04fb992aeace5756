/- Stage 16: the walk of there. -/
import Derived.Test.YtmnjedpnhilndaaReE
set_option maxRecDepth 20000
namespace Go.Proofs.Ytmnjedpnhilndaa
open Go.RowKit Go.Sort Go.Maps

theorem wp_store_step {o : Oper} {a : Act} {w : World} {ys : Nat → Option Bool} {K : Act → World → Prop} {Q : Exit → Act → World → Prop} {x y : Operand} {g : Nat} {cs old : Array Value} (hgd : o.guard = none) (ho : o.op = .store 40 x y)
    (hx : a.eval x = .pointer (some ⟨g, 0, none⟩)) (hy : a.eval y = .agg cs) (hg : w.heap[g]? = some (.cells old 40 (0, 0))) (hold : old.size = 16) (hs : cs.size = 16) (h1 : cs.all (·.oneCell') = true)
    (hk : K (a.put o.dst undef) (w.setRow g cs)) : if Region.wanted o ys = true then Oper.wp Try.prog o a w K Q else K (a.put o.dst undef) w := by
  rw [if_pos (by simp [Region.wanted, hgd])]
  exact wp_store_row _ x y ho g cs hx hy _ old hg (info33 hs) (by omega) h1 hk

section
variable {w : World} {g mb : Nat} {lm : List Pf}
theorem there_any (h : MapS w g mb lm) (p : Pl) : Calls Try.prog 32 #[qptr g, valPl p] w fun e w' => e = .returned (.bool (hasP lm p)) ∧ RowKit.Below w.heap.size w w' := by
  obtain ⟨xf, hl⟩ := h.look p
  have c0 := h.c0
  have hlt := h.lt
  generalize hasP lm p = q at hl ⊢
  clear h
  unfold qptr
  unfold valPl plc at hl ⊢
  go_enter Try.func32, Try.ntmps32
  go_wp2_with fail
  generalize hw0 : World.alloc w _ = w0
  obtain ⟨hs0, hG, hcc⟩ := box1 w w0 _ _ hw0
  have hb0 : RowKit.Below w.heap.size w w0 := hG.below
  have HX : Hid (∀ V, RowKit.Below w0.heap.size w0 V → V.cell? ⟨w.heap.size, 0, none⟩ = some (.int .u8 (p.x.f : Int)) ∧ V.cell? ⟨w.heap.size, 0 + 1, none⟩ = some (.int .u64 (p.x.s : Int)) ∧ V.cell? ⟨w.heap.size, 0 + 1 + 1, none⟩ = some (.int .u32 (p.a : Int)) ∧ V.cell? ⟨g, 0, none⟩ = some (.map (some mb)) ∧
      (Instr.lookup 60 (.map (some mb)) (.agg #[.int .u8 (p.x.f : Int), .int .u64 (p.x.s : Int), .int .u32 (p.a : Int)]) true).run Try.prog V = .ok (.tuple #[.agg xf.cs, .bool q]) V) := fun V hV =>
    ⟨(hV.cell (p := ⟨w.heap.size, 0, none⟩) (by show w.heap.size < _; omega)).trans (hcc 0 _ rfl), (hV.cell (p := ⟨w.heap.size, 1, none⟩) (by show w.heap.size < _; omega)).trans (hcc 1 _ rfl), (hV.cell (p := ⟨w.heap.size, 2, none⟩) (by show w.heap.size < _; omega)).trans (hcc 2 _ rfl),
      (hV.cell (p := ⟨g, 0, none⟩) (by show g < _; omega)).trans ((hb0.cell (p := ⟨g, 0, none⟩) hlt).trans c0), hl V (hb0.trans (hV.mono hb0.size))⟩
  clear hcc hw0 hG hl c0
  refine wp_region_held_drew (S := fun V => RowKit.Below w0.heap.size w0 V) (by kernel_rfl) (RowKit.Below.refl _ _).drew (fun hHeld => ?_)
  generalize hW0 : w0.drew = W0 at hHeld
  refine wpAnyH_takeAt (i := 0) (d := 8) (v := ?_) rfl rfl (by kernel_rfl) (by kernel_rfl) (by kernel_rfl) (fun _ _ _ h => h) (Or.inl ⟨by rfl, ?_⟩) hHeld ?_
  rotate_left
  · (intro _ hSw; go_simp; try with_reducible rfl)
  simp only [List.setIfInBounds_toArray, List.set_cons_zero, List.set_cons_succ]
  refine wpAnyH_takeAt (i := 1) (d := 9) (v := ?_) rfl rfl (by kernel_rfl) (by kernel_rfl) (by kernel_rfl) (fun _ _ _ h => h) (Or.inl ⟨by rfl, ?_⟩) hHeld ?_
  rotate_left
  · (intro _ hSw; go_simp; try with_reducible rfl)
  simp only [List.setIfInBounds_toArray, List.set_cons_zero, List.set_cons_succ]
  refine wpAnyH_takeAt (i := 2) (d := 10) (v := ?_) rfl rfl (by kernel_rfl) (by kernel_rfl) (by kernel_rfl) (fun _ _ _ h => h) (Or.inl ⟨by rfl, ?_⟩) hHeld ?_
  rotate_left
  · (intro _ hSw; go_simp; try with_reducible rfl)
  simp only [List.setIfInBounds_toArray, List.set_cons_zero, List.set_cons_succ]
  refine wpAnyH_takeAt (i := 3) (d := 11) (v := ?_) rfl rfl (by kernel_rfl) (by kernel_rfl) (by kernel_rfl) (fun _ _ _ h => h) (Or.inl ⟨by rfl, ?_⟩) hHeld ?_
  rotate_left
  · (intro _ hSw; obtain ⟨x0, x1, x2, y0, hl⟩ := HX.out _ hSw; go_simp; try with_reducible rfl)
  simp only [List.setIfInBounds_toArray, List.set_cons_zero, List.set_cons_succ]
  refine wpAnyH_takeAt (i := 4) (d := 12) (v := ?_) rfl rfl (by kernel_rfl) (by kernel_rfl) (by kernel_rfl) (fun _ _ _ h => h) (Or.inl ⟨by rfl, ?_⟩) hHeld ?_
  rotate_left
  · (intro _ hSw; obtain ⟨x0, x1, x2, y0, hl⟩ := HX.out _ hSw; go_simp; try with_reducible rfl)
  simp only [List.setIfInBounds_toArray, List.set_cons_zero, List.set_cons_succ]
  refine wpAnyH_takeAt (i := 5) (d := 13) (v := ?_) rfl rfl (by kernel_rfl) (by kernel_rfl) (by kernel_rfl) (fun _ _ _ h => h) (Or.inl ⟨by rfl, ?_⟩) hHeld ?_
  rotate_left
  · (intro _ hSw; obtain ⟨x0, x1, x2, y0, hl⟩ := HX.out _ hSw; go_simp; try with_reducible rfl)
  simp only [List.setIfInBounds_toArray, List.set_cons_zero, List.set_cons_succ]
  refine wpAnyH_takeAt (i := 6) (d := 7) (v := ?_) rfl rfl (by kernel_rfl) (by kernel_rfl) (by kernel_rfl) (fun _ _ _ h => h) (Or.inl ⟨by rfl, ?_⟩) hHeld ?_
  rotate_left
  · (intro _ hSw; go_simp; try with_reducible rfl)
  simp only [List.setIfInBounds_toArray, List.set_cons_zero, List.set_cons_succ]
  refine wpAnyH_takeAt (i := 7) (d := 14) (v := ?_) rfl rfl (by kernel_rfl) (by kernel_rfl) (by kernel_rfl) (fun _ _ _ h => h) (Or.inl ⟨by rfl, ?_⟩) hHeld ?_
  rotate_left
  · (intro _ hSw; go_simp; try with_reducible rfl)
  simp only [List.setIfInBounds_toArray, List.set_cons_zero, List.set_cons_succ]
  refine wpAnyH_takeAt (i := 8) (d := 15) (v := ?_) rfl rfl (by kernel_rfl) (by kernel_rfl) (by kernel_rfl) (fun _ _ _ h => h) (Or.inl ⟨by rfl, ?_⟩) hHeld ?_
  rotate_left
  · (intro _ hSw; go_simp; try with_reducible rfl)
  simp only [List.setIfInBounds_toArray, List.set_cons_zero, List.set_cons_succ]
  refine wpAnyH_ready (rs := [9]) (by kernel_rfl) (by simp) ?_
  refine AllReadyH.cons rfl (fun K hK => ?_) AllReadyH.nil
  go_simp
  have hH1 : RowKit.Below w0.heap.size w0 (W0.alloc (.cells zeroF 40)) := hHeld.alloc hHeld.size _
  refine hK.out _ _ hH1 (fun hHeld => ?_)
  clear hK K
  refine wpAnyH_ready (rs := [10]) (by kernel_rfl) (by simp) ?_
  refine AllReadyH.cons rfl (fun K hK => ?_) AllReadyH.nil
  refine wp_store_step (x := .tmp 5) (y := .tmp 14) (cs := xf.cs) rfl rfl rfl rfl (heap_alloc_new W0 (.cells zeroF 40)) rfl rfl (Pf.one _) ?_
  rw [setRow_new]
  have hH2 : RowKit.Below w0.heap.size w0 (W0.alloc (.cells xf.cs 40)) := (hW0 ▸ (RowKit.Below.refl _ _).drew : RowKit.Below w0.heap.size w0 W0).alloc (by rw [← hW0]; exact Nat.le_refl _) _
  clear hH1
  refine hK.out _ _ hH2 (fun hHeld => ?_)
  clear hK K
  simp only [Act.put]
  refine wpAnyH_takeAt (i := 11) (d := 6) (v := ?_) rfl rfl (by kernel_rfl) (by kernel_rfl) (by kernel_rfl) (fun _ _ _ h => h) (Or.inl ⟨by rfl, ?_⟩) hHeld ?_
  rotate_left
  · (intro _ hSw; go_simp; try with_reducible rfl)
  simp only [List.setIfInBounds_toArray]
  refine wpAnyH_done (by kernel_rfl) ?_ _
  have HB := Lib.hid (hb0.trans (hHeld.mono hb0.size))
  go_wp2
  go_ret
  exact ⟨rfl, HB.out⟩
end

end Go.Proofs.Ytmnjedpnhilndaa
