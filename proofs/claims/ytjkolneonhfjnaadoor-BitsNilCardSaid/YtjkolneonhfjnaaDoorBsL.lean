/- Stage 11: a nil set: Put, Missing. -/
import Derived.Test.YtjkolneonhfjnaaDoorBsD
set_option maxRecDepth 20000
namespace Go.Proofs.YtjkolneonhfjnaaDoor
open Go.RowKit Go.Sort

theorem missing_nil (b c : Int) (w : World) : Calls Tryd.prog 18 #[.pointer none, .int .i64 b, .int .i64 c] w fun e w' => e = .returned (.slice none 0 0) ∧ w' = w := by
  obtain ⟨z, hz⟩ : ∃ z, max 0 b = z := ⟨_, rfl⟩
  go_enter Tryd.func18, Tryd.ntmps18
  go_wp2_with (go_at_call 21; refine (next_nil _ _).mono ?_; rintro e w' ⟨rfl, rfl⟩)
  go_loopw [7, 8] (fun s7 s8 w1 => s7 = .slice none 0 0 ∧ s8 = .int .i64 z ∧ w1 = w') (fun _ _ _ => 0)
  case atStart => exact ⟨rfl, rfl, rfl⟩
  case round =>
    obtain ⟨rfl, rfl, rfl⟩ := hrel
    go_wp2_with (go_at_call 20; refine (place_nil _ _).mono ?_; rintro e w' ⟨rfl, rfl⟩)
    go_ret
    exact ⟨rfl, rfl⟩

theorem put_nil (A : Option Addr) (n c : Nat) (l : List Int) (w : World) (hl : l.length = n) (hn : n ≤ 1000) (hA : Lies w w.heap.size A (zvs l)) :
    Calls Tryd.prog 11 #[.pointer none, .slice A n c] w fun e w' => e = .returned (.int .i64 0) ∧ w' = w := by
  have HA := Lib.hid hA
  have HL := Lib.hid hl
  clear hA hl
  go_enter Tryd.func11, Tryd.ntmps11
  go_wp2_with fail
  go_loopw [5, 10] (fun s5 s10 wr => ∃ k : Nat, k ≤ n ∧ s10 = .int .i64 (k : Int) ∧ s5 = .int .i64 0 ∧ wr = w) (fun _ s10 _ => n - (Lib.intOf s10).toNat)
  case atStart => exact ⟨0, Nat.zero_le _, rfl, rfl, rfl⟩
  case round =>
    obtain ⟨k, hk, rfl, rfl, rfl⟩ := hrel
    by_cases hkn : k < n
    · have hkl : k < l.length := by have := HL.out; omega
      obtain ⟨b, off, eA, hlt, hc⟩ := HA.out.at_ (zvs_at hkl)
      subst eA
      generalize hx : l[k] = x at hc
      clear hx hlt
      go_wp2_with (go_at_call 20; refine (place_nil _ _).mono ?_; rintro e w' ⟨rfl, rfl⟩)
      exact ⟨⟨k + 1, by omega, rfl, rfl, trivial⟩, by simp [Lib.intOf]; omega⟩
    · obtain rfl : n = k := by omega
      go_wp2_with fail
      go_ret
      exact ⟨rfl, rfl⟩

end Go.Proofs.YtjkolneonhfjnaaDoor
