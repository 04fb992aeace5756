/- Walks: a nil window; New; Waits, Room, First, Last. -/
import Derived.Test.YtbkkpimhoeagdaaSlE
namespace Go.Proofs.Ytbkkpimhoeagdaa
open Go.RowKit Go.Sort

/-! ### A nil window -/
theorem waits_nil (w : World) : Calls Try.prog 42 #[.pointer none] w fun e w' => e = .returned (.int .i64 0) ∧ w' = w := by
  go_enter Try.func42, Try.ntmps42
  go_wp2
  go_ret
  exact ⟨rfl, rfl⟩
theorem room_nil (w : World) : Calls Try.prog 41 #[.pointer none] w fun e w' => e = .returned (.int .i64 0) ∧ w' = w := by
  go_enter Try.func41, Try.ntmps41
  go_wp2
  go_ret
  exact ⟨rfl, rfl⟩
theorem first_nil (w : World) : Calls Try.prog 44 #[.pointer none] w fun e w' => e = .returned (.int .u64 0) ∧ w' = w := by
  go_enter Try.func44, Try.ntmps44
  go_wp2
  go_ret
  exact ⟨rfl, rfl⟩
theorem last_nil (w : World) : Calls Try.prog 50 #[.pointer none] w fun e w' => e = .returned (.int .u64 0) ∧ w' = w := by
  go_enter Try.func50, Try.ntmps50
  go_wp2
  go_ret
  exact ⟨rfl, rfl⟩
theorem acked_nil (u : Int) (w : World) : Calls Try.prog 34 #[.pointer none, .int .u64 u] w fun e w' => e = .returned (.int .i64 0) ∧ w' = w := by
  go_enter Try.func34, Try.ntmps34
  go_wp2
  go_ret
  exact ⟨rfl, rfl⟩
theorem waiting_nil (u m : Int) (w : World) : Calls Try.prog 51 #[.pointer none, .int .u64 u, .int .i64 m] w fun e w' => e = .returned (.slice none 0 0) ∧ w' = w := by
  go_enter Try.func51, Try.ntmps51
  go_wp2
  go_ret
  exact ⟨rfl, rfl⟩
theorem put_nil (A : Option Addr) (n c : Nat) (w : World) (hn : n ≤ 1000) : Calls Try.prog 31 #[.pointer none, .slice A n c] w fun e w' => e = .returned (.int .i64 0) ∧ w' = w := by
  have hm : min (n : Int) 0 = 0 := by omega
  go_enter Try.func31, Try.ntmps31
  go_wp2_with (go_at_call 41; refine (room_nil _).mono ?_; rintro e w' ⟨rfl, rfl⟩)
  go_loop [18] (fun i => i = .int .i64 0) (fun _ => 0)
  case atStart => rfl
  case round =>
    subst hrel
    go_wp2
    go_ret
    exact ⟨rfl, rfl⟩

/-! ### A window -/
def widthN (r : Int) : Nat := (max 1 (min r 64)).toNat

theorem new_any (r : Int) (w : World) (base : Nat) (hb : base ≤ w.heap.size) (h1 : -9223372036854775808 ≤ r) (h2 : r ≤ 9223372036854775807) : Calls Try.prog 24 #[.int .i64 r] w fun e w' =>
    e = .returned (.pointer (some ⟨w.heap.size, 0, none⟩)) ∧ WinAt w' base w.heap.size (.slice none 0 0) (widthN r) 0 [] (fun k => k = w.heap.size) ∧ RowKit.Below w.heap.size w w' := by
  have HM : Hid (max 1 (min r 64) = (widthN r : Int)) := by show _ = _; unfold widthN; omega
  have hr1 : 1 ≤ widthN r := by unfold widthN; omega
  have hr2 : widthN r ≤ 64 := by unfold widthN; omega
  generalize hN : widthN r = N at HM hr1 hr2 ⊢
  clear hN
  go_enter Try.func24, Try.ntmps24
  go_wp2
  go_ret
  rw [HM.out]
  refine ⟨rfl, ?_, (RowKit.Below.refl _ _).alloc (Nat.le_refl _) _⟩
  exact
  { box := heap_alloc_new w _
    row := World.ownsRow_nil _ _ _ _
    frs := by simp, oks := by simp, seqs := by simp
    dw := fun b hb' => hb'.elim id fun h => by simp [Value.ownBlock] at h
    din := fun b hb' => by subst hb'; exact ⟨hb, by simp⟩
    fit := Nat.zero_le _, fit2 := Nat.zero_le _, wid1 := hr1, wid2 := hr2, low := Nat.zero_le _ }

section
variable {w : World} {base p : Nat} {T : Value} {width last : Nat} {l : List Pf} {D : Nat → Prop}

theorem waits_any (h : WinAt w base p T width last l D) : Calls Try.prog 42 #[.pointer (some ⟨p, 0, none⟩)] w fun e w' => e = .returned (.int .i64 (l.length : Int)) ∧ w' = w := by
  obtain ⟨A, c, rfl, _⟩ := h.slice
  have c0 := h.c0
  clear h
  go_enter Try.func42, Try.ntmps42
  go_wp2
  go_ret
  exact ⟨rfl, rfl⟩
theorem last_any (h : WinAt w base p T width last l D) : Calls Try.prog 50 #[.pointer (some ⟨p, 0, none⟩)] w fun e w' => e = .returned (.int .u64 (last : Int)) ∧ w' = w := by
  have c2 := h.c2
  clear h
  go_enter Try.func50, Try.ntmps50
  go_wp2
  go_ret
  exact ⟨rfl, rfl⟩
theorem room_any (h : WinAt w base p T width last l D) : Calls Try.prog 41 #[.pointer (some ⟨p, 0, none⟩)] w fun e w' => e = .returned (.int .i64 ((width - l.length : Nat) : Int)) ∧ RowKit.Below w.heap.size w w' := by
  obtain ⟨A, c, rfl, _⟩ := h.slice
  have c0 := h.c0
  have c1 := h.c1
  have hf := h.fit
  have h2 := h.wid2
  have HE : Hid (((width - l.length : Nat) : Int) = (width : Int) - (l.length : Int)) := by show _ = _; omega
  rw [HE.out]
  generalize l.length = n at c0 hf
  clear h HE
  go_enter Try.func41, Try.ntmps41
  go_wp2_with fail
  go_quiet (fail)
  go_wp2
  go_ret
  refine ⟨rfl, ?_⟩
  exact ⟨rfl, rfl, rfl, Nat.le_refl _, fun _ _ => rfl⟩
theorem first_any (h : WinAt w base p T width last l D) : Calls Try.prog 44 #[.pointer (some ⟨p, 0, none⟩)] w fun e w' => e = .returned (.int .u64 (firstN last l.length : Int)) ∧ RowKit.Below w.heap.size w w' := by
  obtain ⟨A, c, rfl, _⟩ := h.slice
  have c0 := h.c0
  have c2 := h.c2
  have hf := h.fit2
  have hl := h.low
  have HE : Hid ((firstN last l.length : Int) = (last : Int) - (l.length : Int) + 1) := by show _ = _; unfold firstN; omega
  rw [HE.out]
  generalize l.length = n at c0 hf
  clear h HE
  have k1 : (0 : Int) ≤ (last : Int) - (n : Int) := by omega
  have k2 : (last : Int) - (n : Int) ≤ 1000000 := by omega
  go_enter Try.func44, Try.ntmps44
  go_wp2_with fail
  go_quiet (fail)
  go_wp2
  go_ret
  refine ⟨rfl, ?_⟩
  exact ⟨rfl, rfl, rfl, Nat.le_refl _, fun _ _ => rfl⟩
end

end Go.Proofs.Ytbkkpimhoeagdaa
