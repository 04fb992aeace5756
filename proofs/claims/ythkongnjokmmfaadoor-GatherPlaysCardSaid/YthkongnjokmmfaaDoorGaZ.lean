/- Stage 13: a nil gatherer (the door seat alone). -/
import Derived.Test.YthkongnjokmmfaaDoorGtI
set_option maxRecDepth 20000
namespace Go.Proofs.YthkongnjokmmfaaDoor
open Go.RowKit Go.Sort

theorem want_nil (x : Id) (w : World) : Calls Tryd.prog 11 #[.pointer none, valId x] w fun e w' => e = .returned (.tuple #[]) ∧ RowKit.Below w.heap.size w w' := by
  unfold valId
  go_enter Tryd.func11, Tryd.ntmps11
  go_wp2
  go_end0
  exact ⟨rfl, (RowKit.Below.refl _ _).alloc (Nat.le_refl _) _⟩
theorem gput_nil (F : Fr) (cs : Array Value) (w : World) (hF : FrL w F cs) : Calls Tryd.prog 10 #[.pointer none, .agg cs] w fun e w' => e = .returned (.tuple #[.slice none 0 0, .int .u8 1]) ∧ RowKit.Below w.heap.size w w' := by
  obtain ⟨p, rfl, -⟩ := hF
  unfold frCells
  go_enter Tryd.func10, Tryd.ntmps10
  go_wp2
  go_ret2
  exact ⟨rfl, (RowKit.Below.refl _ _).alloc (Nat.le_refl _) _⟩
theorem first_nil (x : Id) (w : World) : Calls Tryd.prog 16 #[.pointer none, valId x] w fun e w' => e = .returned (.int .i64 0) ∧ RowKit.Below w.heap.size w w' := by
  have HF := Lib.hid (fun W => find_nil x W)
  unfold valId at *
  go_enter Tryd.func16, Tryd.ntmps16
  go_wp2_with fail
  generalize hw0 : World.alloc w _ = w0
  have hb0 : RowKit.Below w.heap.size w w0 := by rw [← hw0]; exact (RowKit.Below.refl _ _).alloc (Nat.le_refl _) _
  refine (HF.out w0).mono ?_
  rintro e w1 ⟨rfl, hb1⟩
  have HB := Lib.hid (hb0.trans (hb1.mono hb0.size))
  clear hw0 hb0 hb1 HF
  go_wp2
  go_ret
  exact ⟨rfl, HB.out⟩
theorem drop_nil (v : Value) (A : Option Addr) (n c : Nat) (hv : v = .slice A n c) (w : World) : Calls Tryd.prog 13 #[.pointer none, v] w fun e w' => e = .returned (.int .i64 0) ∧ RowKit.Below w.heap.size w w' := by
  subst hv
  go_enter Tryd.func13, Tryd.ntmps13
  go_wp2
  go_ret
  exact ⟨rfl, (RowKit.Below.refl _ _).alloc (Nat.le_refl _) _⟩
theorem ids_nil (w : World) : Calls Tryd.prog 20 #[.pointer none] w fun e w' => e = .returned (.slice none 0 0) ∧ w = w' := by
  go_enter Tryd.func20, Tryd.ntmps20
  go_wp2_with (go_at_call 33; refine (all_nil _).mono ?_; rintro e w' ⟨rfl, rfl⟩)
  go_loopw [3, 5, 9] (fun s3 _ s9 w1 => s3 = .slice none 0 0 ∧ s9 = .int .i64 0 ∧ w1 = w) (fun _ _ _ _ => 0)
  case atStart => exact ⟨rfl, rfl, rfl⟩
  case round =>
    obtain ⟨rfl, rfl, rfl⟩ := hrel
    go_wp2
    go_ret
    exact ⟨rfl, rfl⟩
theorem gcount_nil (k : Nat) (w : World) : Calls Tryd.prog 18 #[.pointer none, .int .u8 (k : Int)] w fun e w' => e = .returned (.int .i64 0) ∧ w = w' := by
  go_enter Tryd.func18, Tryd.ntmps18
  go_wp2
  go_ret
  exact ⟨rfl, rfl⟩

end Go.Proofs.YthkongnjokmmfaaDoor
