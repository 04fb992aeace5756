/- Stage 11: a set in memory; walks of a nil set; Size, Count, Full, hasPlace, Has. -/
import Derived.Test.YtjkolneonhfjnaaDoorBsA
import Derived.Test.YtjkolneonhfjnaaDoorBsM
import Derived.Laws.Bits64b
set_option maxRecDepth 20000
namespace Go.Proofs.YtjkolneonhfjnaaDoor
open Go.RowKit Go.Sort

/-! ### A nil set -/
theorem size_nil (w : World) : Calls Tryd.prog 14 #[.pointer none] w fun e w' => e = .returned (.int .i64 0) ∧ w' = w := by
  go_enter Tryd.func14, Tryd.ntmps14
  go_wp2
  go_ret
  exact ⟨rfl, rfl⟩
theorem count_nil (w : World) : Calls Tryd.prog 15 #[.pointer none] w fun e w' => e = .returned (.int .i64 0) ∧ w' = w := by
  go_enter Tryd.func15, Tryd.ntmps15
  go_wp2
  go_ret
  exact ⟨rfl, rfl⟩
theorem full_nil (w : World) : Calls Tryd.prog 16 #[.pointer none] w fun e w' => e = .returned (.bool true) ∧ w' = w := by
  go_enter Tryd.func16, Tryd.ntmps16
  go_wp2_with (first
    | (go_at_call 15; refine (count_nil _).mono ?_; rintro e w' ⟨rfl, rfl⟩)
    | (go_at_call 14; refine (size_nil _).mono ?_; rintro e w' ⟨rfl, rfl⟩))
  go_ret
  exact ⟨rfl, rfl⟩
theorem place_nil (i : Int) (w : World) : Calls Tryd.prog 20 #[.pointer none, .int .i64 i] w fun e w' => e = .returned (.bool false) ∧ w' = w := by
  by_cases h : 0 ≤ i
  · have h1 : decide (i < 0) = false := by simpa using h
    go_enter Tryd.func20, Tryd.ntmps20
    go_wp2_with (go_at_call 14; refine (size_nil _).mono ?_; rintro e w' ⟨rfl, rfl⟩)
    go_ret
    exact ⟨rfl, rfl⟩
  · go_enter Tryd.func20, Tryd.ntmps20
    go_wp2_with fail
    go_ret
    exact ⟨rfl, rfl⟩
theorem has_nil (i : Int) (w : World) : Calls Tryd.prog 12 #[.pointer none, .int .i64 i] w fun e w' => e = .returned (.bool false) ∧ w' = w := by
  go_enter Tryd.func12, Tryd.ntmps12
  go_wp2_with (go_at_call 20; refine (place_nil _ _).mono ?_; rintro e w' ⟨rfl, rfl⟩)
  go_ret
  exact ⟨rfl, rfl⟩
theorem next_nil (i : Int) (w : World) : Calls Tryd.prog 21 #[.pointer none, .int .i64 i] w fun e w' => e = .returned (.int .i64 i) ∧ w' = w := by
  go_enter Tryd.func21, Tryd.ntmps21
  go_wp2_with (go_at_call 20; refine (place_nil _ _).mono ?_; rintro e w' ⟨rfl, rfl⟩)
  go_loopw [1] (fun s1 w1 => s1 = .int .i64 i ∧ w1 = w) (fun _ _ => 0)
  case atStart => exact ⟨rfl, rfl⟩
  case round =>
    obtain ⟨rfl, rfl⟩ := hrel
    go_wp2_with (go_at_call 20; refine (place_nil _ _).mono ?_; rintro e w' ⟨rfl, rfl⟩)
    go_ret
    exact ⟨rfl, rfl⟩

/-! ### A set -/
/-- A set in memory: its box p, its words (block q). -/
structure SetW (w : World) (p q : Nat) (m : List Bool) (ws : List Nat) : Prop where
  row : w.heap[p]? = some (.cells #[.slice (some ⟨q, 0, none⟩) ws.length ws.length, .int .i64 (m.length : Int), .int .i64 (cntS m : Int)] 42 (0, 0))
  own : w.ownsRow 0 43 1 (.slice (some ⟨q, 0, none⟩) ws.length ws.length) ws.length (uvs ws)
  bits : BitsW m ws
  fit : m.length ≤ 1048576
  ne : p ≠ q
  lt2 : q < w.heap.size
def SetAt (w : World) (p q : Nat) (m : List Bool) : Prop := ∃ ws, SetW w p q m ws
/-- The blocks of a set. -/
def DS (p q : Nat) : Nat → Prop := fun k => k = p ∨ k = q

section
variable {w w' : World} {p q : Nat} {m : List Bool} {ws : List Nat}
theorem SetW.lt (h : SetW w p q m ws) : p < w.heap.size := (Array.getElem?_eq_some_iff.1 h.row).1
theorem SetW.c0 (h : SetW w p q m ws) : w.cell? ⟨p, 0, none⟩ = some (.slice (some ⟨q, 0, none⟩) ws.length ws.length) := cell_of_row w p 0 _ _ _ h.row
theorem SetW.c1 (h : SetW w p q m ws) : w.cell? ⟨p, 1, none⟩ = some (.int .i64 (m.length : Int)) := cell_of_row w p 1 _ _ _ h.row
theorem SetW.c2 (h : SetW w p q m ws) : w.cell? ⟨p, 2, none⟩ = some (.int .i64 (cntS m : Int)) := cell_of_row w p 2 _ _ _ h.row
theorem SetW.fr (h : SetW w p q m ws) (j : Nat) : w.frozen? ⟨p, j, none⟩ = false := frozen_of_row w p j _ _ h.row
theorem SetW.word (h : SetW w p q m ws) {k : Nat} (hk : k < ws.length) : w.cell? ⟨q, k, none⟩ = some (.int .u64 (ws.getD k 0 : Int)) := by
  have := h.own.cells (g := q) rfl k (.int .u64 (ws.getD k 0 : Int)) (by simp [uvs, uv, List.getD, hk])
  rwa [add_plain, Nat.zero_add] at this
theorem SetW.kept {D : Nat → Prop} (h : SetW w p q m ws) (ho : OnlyE w w' D) (hp : ¬ D p) (hq : ¬ D q) : SetW w' p q m ws :=
  { row := (ho.same p h.lt hp).trans h.row
    own := own_only h.own ho fun b hb => by injection hb with hb; subst hb; exact hq
    bits := h.bits, fit := h.fit, ne := h.ne, lt2 := Nat.lt_of_lt_of_le h.lt2 ho.size }
theorem SetAt.kept {D : Nat → Prop} (h : SetAt w p q m) (ho : OnlyE w w' D) (hp : ¬ D p) (hq : ¬ D q) : SetAt w' p q m := by
  obtain ⟨ws, h⟩ := h
  exact ⟨ws, h.kept ho hp hq⟩
theorem SetAt.on (h : SetAt w p q m) (hb : RowKit.Below w.heap.size w w') : SetAt w' p q m := h.kept (D := fun _ => False) (OnlyE.of_below hb) id id
theorem SetAt.lt (h : SetAt w p q m) : p < w.heap.size ∧ q < w.heap.size ∧ p ≠ q ∧ m.length ≤ 1048576 := by
  obtain ⟨ws, h⟩ := h
  exact ⟨h.lt, h.lt2, h.ne, h.fit⟩

theorem size_any (h : SetAt w p q m) : Calls Tryd.prog 14 #[.pointer (some ⟨p, 0, none⟩)] w fun e w' => e = .returned (.int .i64 (m.length : Int)) ∧ w' = w := by
  obtain ⟨ws, h⟩ := h
  have c1 := h.c1
  clear h
  go_enter Tryd.func14, Tryd.ntmps14
  go_wp2
  go_ret
  exact ⟨rfl, rfl⟩
theorem count_any (h : SetAt w p q m) : Calls Tryd.prog 15 #[.pointer (some ⟨p, 0, none⟩)] w fun e w' => e = .returned (.int .i64 (cntS m : Int)) ∧ w' = w := by
  obtain ⟨ws, h⟩ := h
  have c2 := h.c2
  clear h
  go_enter Tryd.func15, Tryd.ntmps15
  go_wp2
  go_ret
  exact ⟨rfl, rfl⟩
theorem full_any (h : SetAt w p q m) : Calls Tryd.prog 16 #[.pointer (some ⟨p, 0, none⟩)] w fun e w' => e = .returned (.bool ((cntS m : Int) == (m.length : Int))) ∧ w' = w := by
  have h1 := count_any h
  have h2 := size_any h
  clear h
  go_enter Tryd.func16, Tryd.ntmps16
  go_wp2_with (first
    | (go_at_call 15; refine h1.mono ?_; rintro e w' ⟨rfl, rfl⟩)
    | (go_at_call 14; refine h2.mono ?_; rintro e w' ⟨rfl, rfl⟩))
  go_ret
  exact ⟨rfl, rfl⟩
theorem place_yes (h : SetAt w p q m) (i : Nat) (hi : i < m.length) : Calls Tryd.prog 20 #[.pointer (some ⟨p, 0, none⟩), .int .i64 (i : Int)] w fun e w' => e = .returned (.bool true) ∧ w' = w := by
  have h2 := size_any h
  clear h
  go_enter Tryd.func20, Tryd.ntmps20
  go_wp2_with (go_at_call 14; refine h2.mono ?_; rintro e w' ⟨rfl, rfl⟩)
  go_ret
  exact ⟨rfl, rfl⟩
theorem place_no (h : SetAt w p q m) (i : Int) (hi : i < 0 ∨ (m.length : Int) ≤ i) : Calls Tryd.prog 20 #[.pointer (some ⟨p, 0, none⟩), .int .i64 i] w fun e w' => e = .returned (.bool false) ∧ w' = w := by
  have h2 := size_any h
  clear h
  rcases Int.lt_or_le i 0 with h0 | h0
  · clear hi
    go_enter Tryd.func20, Tryd.ntmps20
    go_wp2_with fail
    go_ret
    exact ⟨rfl, rfl⟩
  · have h1 : decide (i < (m.length : Int)) = false := by simp; omega
    clear hi
    go_enter Tryd.func20, Tryd.ntmps20
    go_wp2_with (go_at_call 14; refine h2.mono ?_; rintro e w' ⟨rfl, rfl⟩)
    go_ret
    exact ⟨rfl, rfl⟩
end

end Go.Proofs.YtjkolneonhfjnaaDoor
