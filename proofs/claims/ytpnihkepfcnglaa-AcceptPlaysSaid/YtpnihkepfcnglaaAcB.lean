/- Walks of a gate: New, made, Count, Upto, Owes, Told. -/
import Derived.Test.YtpnihkepfcnglaaAcA
namespace Go.Proofs.Ytpnihkepfcnglaa
open Go.RowKit Go.Sort

/-! ### A nil gate -/
theorem count_nil (k : Int) (w : World) : Calls Try.prog 12 #[.pointer none, .int .u8 k] w fun e w' => e = .returned (.int .u64 0) ∧ w' = w := by
  go_enter Try.func12, Try.ntmps12
  go_wp2
  go_ret
  exact ⟨rfl, rfl⟩
theorem upto_nil (w : World) : Calls Try.prog 9 #[.pointer none] w fun e w' => e = .returned (.int .u64 0) ∧ w' = w := by
  go_enter Try.func9, Try.ntmps9
  go_wp2_with (go_at_call 12; refine (count_nil _ _).mono ?_; rintro e w' ⟨rfl, rfl⟩)
  go_ret
  exact ⟨rfl, rfl⟩
theorem owes_nil (w : World) : Calls Try.prog 8 #[.pointer none] w fun e w' => e = .returned (.bool false) ∧ w' = w := by
  go_enter Try.func8, Try.ntmps8
  go_wp2
  go_ret
  exact ⟨rfl, rfl⟩
theorem told_nil (w : World) : Calls Try.prog 14 #[.pointer none] w fun e w' => e = .returned (.tuple #[]) ∧ w' = w := by
  go_enter Try.func14, Try.ntmps14
  go_wp2
  go_end0
  exact ⟨rfl, rfl⟩
theorem take_nil (v : Value) (w : World) : Calls Try.prog 11 #[.pointer none, v] w fun e w' => e = .returned (.int .u8 0) ∧ w' = w := by
  go_enter Try.func11, Try.ntmps11
  go_wp2
  go_ret
  exact ⟨rfl, rfl⟩

/-! ### A gate -/
theorem new_any (w : World) : Calls Try.prog 7 #[] w fun e w' => e = .returned (.pointer (some ⟨w.heap.size, 0, none⟩)) ∧ GateAt w' w.heap.size ⟨0, 0, 0, false⟩ ∧ RowKit.Below w.heap.size w w' := by
  go_enter Try.func7, Try.ntmps7
  go_wp2
  go_ret
  exact ⟨rfl, heap_alloc_new w _, (RowKit.Below.refl _ _).alloc (Nat.le_refl _) _⟩

theorem made_any (n u : Nat) (w : World) (hn : n < 18446744073709551616) (hu : u ≤ 1000000) : Calls Try.prog 15 #[.int .u64 (n : Int), .int .u64 (u : Int)] w fun e w' => e = .returned (.int .u8 (kindN u n : Int)) ∧ w' = w := by
  rcases kindN_cases u n with ⟨e, h⟩ | ⟨e, h⟩ | ⟨e, h⟩
  · rw [e]
    subst h
    have h1 : decide (u + 1 ≤ u) = false := by simp
    have h2 : ((u + 1 : Nat) : Int) - (u : Int) = 1 := by omega
    clear e
    generalize u + 1 = n at h1 h2 hn
    have h3 : 0 ≤ (n : Int) - (u : Int) := by omega
    go_enter Try.func15, Try.ntmps15
    go_wp2
    go_ret
    exact ⟨rfl, rfl⟩
  · rw [e]
    have h1 : decide (n ≤ u) = true := by simpa using h
    clear e
    go_enter Try.func15, Try.ntmps15
    go_wp2
    go_ret
    exact ⟨rfl, rfl⟩
  · rw [e]
    have h1 : decide (n ≤ u) = false := by simp; omega
    have h3 : 1 < (n : Int) - (u : Int) := by omega
    have h4 : (n : Int) - (u : Int) < 18446744073709551616 := by omega
    clear e
    go_enter Try.func15, Try.ntmps15
    go_wp2
    go_ret
    exact ⟨rfl, rfl⟩

section
variable {w : World} {p : Nat} {g : Gt}
theorem count_any (h : GateAt w p g) (k : Nat) (hk8 : k < 256) : Calls Try.prog 12 #[.pointer (some ⟨p, 0, none⟩), .int .u8 (k : Int)] w fun e w' => e = .returned (.int .u64 (g.cnt k : Int)) ∧ w' = w := by
  have c0 := h.c0
  have c1 := h.c1
  have c2 := h.c2
  have c3 := h.c3
  clear h
  by_cases hk : k < 4
  · rcases (by omega : k = 0 ∨ k = 1 ∨ k = 2 ∨ k = 3) with rfl | rfl | rfl | rfl
    all_goals
      unfold Gt.cnt
      go_enter Try.func12, Try.ntmps12
      go_wp2
      go_ret
      exact ⟨rfl, rfl⟩
  · have e : g.cnt k = 0 := by unfold Gt.cnt; rw [if_neg (by omega), if_neg (by omega), if_neg (by omega)]
    rw [e]
    clear e
    have h4 : (4 : Int) ≤ (k : Int) := by omega
    go_enter Try.func12, Try.ntmps12
    go_wp2
    go_ret
    exact ⟨rfl, rfl⟩
theorem upto_any (h : GateAt w p g) : Calls Try.prog 9 #[.pointer (some ⟨p, 0, none⟩)] w fun e w' => e = .returned (.int .u64 (g.u : Int)) ∧ w' = w := by
  have hc := count_any h 1 (by decide)
  have e : g.cnt 1 = g.u := rfl
  rw [e] at hc
  clear e
  go_enter Try.func9, Try.ntmps9
  go_wp2_with (go_at_call 12; refine Calls.mono hc ?_; rintro e w' ⟨rfl, rfl⟩)
  go_ret
  exact ⟨rfl, rfl⟩
theorem owes_any (h : GateAt w p g) : Calls Try.prog 8 #[.pointer (some ⟨p, 0, none⟩)] w fun e w' => e = .returned (.bool g.b) ∧ w' = w := by
  have c4 := h.c4
  clear h
  go_enter Try.func8, Try.ntmps8
  go_wp2
  go_ret
  exact ⟨rfl, rfl⟩
theorem told_any (h : GateAt w p g) : Calls Try.prog 14 #[.pointer (some ⟨p, 0, none⟩)] w fun e w' => e = .returned (.tuple #[]) ∧ GateAt w' p ⟨g.u, g.o, g.a, false⟩ ∧ OnlyE w w' (fun k => k = p) := by
  have c4 := h.c4
  have f4 := h.fr 4
  have H := Lib.hid h
  clear h
  go_enter Try.func14, Try.ntmps14
  go_wp2
  go_end0
  exact ⟨rfl, H.out.set4 false, onlyE_set (D := fun k => k = p) rfl 4 _⟩
end

end Go.Proofs.Ytpnihkepfcnglaa
