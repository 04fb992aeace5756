/- Stage 13: New; right. -/
import Derived.Test.YthkongnjokmmfaaDoorGtR
set_option maxRecDepth 20000
namespace Go.Proofs.YthkongnjokmmfaaDoor
open Go.RowKit Go.Sort

theorem may64 (x : Id) : (decide ((x.f : Int) < 64) && mayB x) = mayB x := by
  unfold mayB
  by_cases h : x.f < 64
  · rw [decide_eq_true (show (x.f : Int) < 64 by omega), Bool.true_and]
  · rw [decide_eq_false h, Bool.false_and, Bool.false_and, Bool.and_false]

theorem ownsRow_nil (w : World) (base k : Nat) (e : TypeId) : w.ownsRow base e k (.slice none 0 0) 0 [] := ⟨by simp, .inl ⟨rfl, rfl⟩⟩

/-- A new gatherer. -/
theorem newG_any (c m r : Int) (hr : r ≤ 9223372036854775807) (w : World) : Calls Tryd.prog 6 #[.int .i64 c, .int .i64 m, .int .i64 r] w fun e w' =>
    e = .returned (.pointer (some ⟨w.heap.size, 0, none⟩)) ∧ GtAt w' w.heap.size w.heap.size (.slice none 0 0) [] (newG c m r) (fun k => k = w.heap.size) ∧ RowKit.Below w.heap.size w w' ∧ w'.heap.size = w.heap.size + 1 := by
  have e1 : (((newG c m r).chunk : Nat) : Int) = max 1 (min c 65536) := by show (((max 1 (min c 65536)).toNat : Nat) : Int) = _; omega
  have e2 : (((newG c m r).most : Nat) : Int) = max 0 (min m 1048576) := by show (((max 0 (min m 1048576)).toNat : Nat) : Int) = _; omega
  have e3 : (((newG c m r).room : Nat) : Int) = max r (max 0 (min m 1048576)) := by show (((max r (max 0 (min m 1048576))).toNat : Nat) : Int) = _; omega
  have HG : Hid (∀ w', w' = w.alloc (.cells #[.slice none 0 0, .int .i64 (max 1 (min c 65536)), .int .i64 (max 0 (min m 1048576)), .int .i64 (max r (max 0 (min m 1048576))), .int .u8 0, .int .u64 0, .int .i64 0, .int .i64 0, .int .i64 0, .int .i64 0, .int .i64 0, .int .i64 0] 64) →
      GtAt w' w.heap.size w.heap.size (.slice none 0 0) [] (newG c m r) (fun k => k = w.heap.size) ∧ RowKit.Below w.heap.size w w' ∧ w'.heap.size = w.heap.size + 1) := by
    rintro w' rfl
    refine ⟨?_, (RowKit.Below.refl _ _).alloc (Nat.le_refl _) _, by simp⟩
    exact
    { box := by
        have := heap_alloc_new w (.cells #[.slice none 0 0, .int .i64 (max 1 (min c 65536)), .int .i64 (max 0 (min m 1048576)), .int .i64 (max r (max 0 (min m 1048576))), .int .u8 0, .int .u64 0, .int .i64 0, .int .i64 0, .int .i64 0, .int .i64 0, .int .i64 0, .int .i64 0] 64 (0, 0))
        unfold gCells
        rw [e1, e2, e3]
        exact this
      row := ownsRow_nil _ _ _ _
      gl := rfl
      parts := fun z hz => by cases hz
      apart := List.Pairwise.nil
      dg := rfl
      dt := fun b hb => by simp [Value.ownBlock] at hb
      da := fun z hz => by cases hz
      din := fun b hb => by simp; omega
      ne := by simp [Value.ownBlock]
      ok := (newG_ok c m r).sok
      rm := by omega }
  clear e1 e2 e3
  go_enter Tryd.func6, Tryd.ntmps6
  go_wp2
  go_ret
  exact ⟨rfl, HG.out _ rfl⟩

section
variable {w : World} {base gp : Nat} {T : Value} {L : List Pz} {g : Gm} {D : Nat → Prop}
set_option maxHeartbeats 3200000 in
theorem gright_any (h : GtAt w base gp T L g D) (F : Fr) (cs : Array Value) (hF : FrL w F cs) (hw : F.Wf) : Calls Tryd.prog 39 #[.pointer (some ⟨gp, 0, none⟩), .agg cs] w fun e w' => e = .returned (.bool (mayB F.id && rightZ F g.chunk g.most)) ∧ RowKit.Below w.heap.size w w' := by
  have mixed := mixedOrders
  have hM := fun W' => may_any F.id 64 W' (by omega)
  rw [may64] at hM
  have c1 := h.c1
  have c2 := h.c2
  have hlt := h.lt
  have hR := fun (W : World) (hW : RowKit.Below w.heap.size w W) => right_any F cs (g.chunk : Int) (g.most : Int) W (hF.on hW) hw
  obtain ⟨p, rfl, -⟩ := hF
  unfold frCells at *
  unfold valId at hM
  generalize rightZ F (g.chunk : Int) (g.most : Int) = rb at hR ⊢
  generalize mayB F.id = mb at hM ⊢
  clear h
  go_enter Tryd.func39, Tryd.ntmps39
  go_wp2_with fail
  generalize hw0 : World.alloc w _ = w0
  obtain ⟨hs0, hG, hcc⟩ := box1 w w0 _ _ hw0
  have x0 := later_cell (w0 := w0) (b := w.heap.size) (by omega) (hcc 0 _ rfl)
  have x1 := later_cell (w0 := w0) (b := w.heap.size) (by omega) (hcc 1 _ rfl)
  have x2 := later_cell (w0 := w0) (b := w.heap.size) (by omega) (hcc 2 _ rfl)
  have x3 := later_cell (w0 := w0) (b := w.heap.size) (by omega) (hcc 3 _ rfl)
  have x4 := later_cell (w0 := w0) (b := w.heap.size) (by omega) (hcc 4 _ rfl)
  have x5 := later_cell (w0 := w0) (b := w.heap.size) (by omega) (hcc 5 _ rfl)
  have x6 := later_cell (w0 := w0) (b := w.heap.size) (by omega) (hcc 6 _ rfl)
  have x7 := later_cell (w0 := w0) (b := w.heap.size) (by omega) (hcc 7 _ rfl)
  have x8 := later_cell (w0 := w0) (b := w.heap.size) (by omega) (hcc 8 _ rfl)
  have x9 := later_cell (w0 := w0) (b := w.heap.size) (by omega) (hcc 9 _ rfl)
  have x10 := later_cell (w0 := w0) (b := w.heap.size) (by omega) (hcc 10 _ rfl)
  have x11 := later_cell (w0 := w0) (b := w.heap.size) (by omega) (hcc 11 _ rfl)
  have x12 := later_cell (w0 := w0) (b := w.heap.size) (by omega) (hcc 12 _ rfl)
  have x13 := later_cell (w0 := w0) (b := w.heap.size) (by omega) (hcc 13 _ rfl)
  have x14 := later_cell (w0 := w0) (b := w.heap.size) (by omega) (hcc 14 _ rfl)
  have x15 := later_cell (w0 := w0) (b := w.heap.size) (by omega) (hcc 15 _ rfl)
  have y1 := later_cell (w0 := w0) (b := gp) (by omega) ((hG.below.cell (p := ⟨gp, _, none⟩) hlt).trans c1)
  have y2 := later_cell (w0 := w0) (b := gp) (by omega) ((hG.below.cell (p := ⟨gp, _, none⟩) hlt).trans c2)
  have hb0 := hG.below
  have hR' := fun p : Later w0 => hR p.w (hb0.trans (p.hb.mono hb0.size))
  have HR := Lib.hid hR'
  clear hcc hw0 hs0 hG c1 c2 hlt hR hR'
  cases mb with
  | false =>
    refine wp_region_later mixed (by kernel_rfl) ?_
    repeat (go_big_quiet_step ((go_at_call 50; exact later_grew (hM _))))
    refine wpQuiet_nil ?_
    intro _ hw'
    obtain ⟨p, rfl⟩ := hw'
    have hbp : RowKit.Below w.heap.size w p.w := hb0.trans (p.hb.mono hb0.size)
    go_wp2
    go_ret
    exact ⟨rfl, hbp⟩
  | true =>
    refine wp_region_later mixed (by kernel_rfl) ?_
    repeat (go_big_quiet_step (first | (go_at_call 50; exact later_grew (hM _)) | (go_at_call 51; exact later_of (HR.out _))))
    refine wpQuiet_nil ?_
    intro _ hw'
    obtain ⟨p, rfl⟩ := hw'
    have hbp : RowKit.Below w.heap.size w p.w := hb0.trans (p.hb.mono hb0.size)
    go_wp2
    go_ret
    exact ⟨rfl, hbp⟩
end

end Go.Proofs.YthkongnjokmmfaaDoor
