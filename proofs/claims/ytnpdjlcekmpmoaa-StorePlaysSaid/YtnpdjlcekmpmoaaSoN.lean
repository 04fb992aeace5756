/- Stage 14: a nil store. -/
import Derived.Test.YtnpdjlcekmpmoaaSoM
set_option maxRecDepth 20000
namespace Go.Proofs.Ytnpdjlcekmpmoaa
open Go.RowKit Go.Sort Go.Maps

theorem alloc_below (w : World) (o : Obj) : RowKit.Below w.heap.size w (w.alloc o) := (RowKit.Below.refl _ _).alloc (Nat.le_refl _) o

theorem used_nil (w : World) : Calls Try.prog 12 #[.pointer none] w fun e w' => e = .returned (.int .i64 0) ∧ w = w' := by
  go_enter Try.func12, Try.ntmps12
  go_wp2
  go_ret
  exact ⟨rfl, rfl⟩
theorem len_nil (w : World) : Calls Try.prog 14 #[.pointer none] w fun e w' => e = .returned (.int .i64 0) ∧ w = w' := by
  go_enter Try.func14, Try.ntmps14
  go_wp2
  go_ret
  exact ⟨rfl, rfl⟩
theorem floor_nil (w : World) : Calls Try.prog 16 #[.pointer none] w fun e w' => e = .returned (.slice none 0 0) ∧ w = w' := by
  go_enter Try.func16, Try.ntmps16
  go_wp2
  go_ret
  exact ⟨rfl, rfl⟩
theorem held_nil (w : World) : Calls Try.prog 17 #[.pointer none] w fun e w' => e = .returned (.slice none 0 0) ∧ w = w' := by
  go_enter Try.func17, Try.ntmps17
  go_wp2_with (go_at_call 16; refine (floor_nil _).mono ?_; rintro e w' ⟨rfl, rfl⟩)
  go_loopw [9] (fun s9 wr => s9 = .int .i64 0 ∧ wr = w) (fun _ _ => 0)
  case atStart => exact ⟨rfl, rfl⟩
  case round =>
    obtain ⟨rfl, rfl⟩ := hrel
    go_wp2
    go_ret
    exact ⟨rfl, rfl⟩
theorem there_nil (x : Id) (w : World) : Calls Try.prog 31 #[.pointer none, .agg #[.int .u8 (x.f : Int), .int .u64 (x.s : Int)]] w fun e w' => e = .returned (.bool false) ∧ RowKit.Below w.heap.size w w' := by
  go_enter Try.func31, Try.ntmps31
  go_wp2
  go_ret
  exact ⟨rfl, alloc_below _ _⟩
theorem get_nil (x : Id) (w : World) : Calls Try.prog 24 #[.pointer none, .agg #[.int .u8 (x.f : Int), .int .u64 (x.s : Int)]] w fun e w' => e = .returned (.tuple #[.slice none 0 0, .bool false]) ∧ RowKit.Below w.heap.size w w' := by
  go_enter Try.func24, Try.ntmps24
  go_wp2
  go_ret2
  exact ⟨rfl, alloc_below _ _⟩
theorem put_nil (x : Id) (A : Option Addr) (n c : Nat) (w : World) : Calls Try.prog 19 #[.pointer none, .agg #[.int .u8 (x.f : Int), .int .u64 (x.s : Int)], .slice A n c] w fun e w' => e = .returned (.bool false) ∧ RowKit.Below w.heap.size w w' := by
  have mixed := mixedOrders
  go_enter Try.func19, Try.ntmps19
  go_wp2_with fail
  generalize hw0 : World.alloc w _ = w0
  have hb0 : RowKit.Below w.heap.size w w0 := hw0 ▸ alloc_below w _
  refine wp_region_later mixed (by kernel_rfl) ?_
  repeat (go_big_quiet_step (fail))
  refine wpQuiet_nil ?_
  intro _ hw'
  obtain ⟨p, rfl⟩ := hw'
  have hbp : RowKit.Below w.heap.size w p.w := hb0.trans (p.hb.mono hb0.size)
  go_wp2
  go_ret
  exact ⟨rfl, hbp⟩
theorem drop_nil (A : Option Addr) (n c : Nat) (w : World) : Calls Try.prog 20 #[.pointer none, .slice A n c] w fun e w' => e = .returned (.int .i64 0) ∧ RowKit.Below w.heap.size w w' := by
  go_enter Try.func20, Try.ntmps20
  go_wp2
  go_ret
  exact ⟨rfl, alloc_below _ _⟩
theorem has_nil (A : Option Addr) (n c : Nat) (l : List Id) (w : World) (hl : l.length = n) (hn : n ≤ 1000) (h : Lies w w.heap.size A (flat encId l)) :
    Calls Try.prog 22 #[.pointer none, .slice A n c] w fun e w' => e = .returned (.bool (l.all fun _ => false)) ∧ RowKit.Below w.heap.size w w' :=
  has_gen none (fun _ => false) A n c l w (fun W _ x => there_nil x W) hl hn h

end Go.Proofs.Ytnpdjlcekmpmoaa
