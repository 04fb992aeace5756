/- The document's link as a value: within two numbers; New. -/
import Derived.Test.YtbkkpimhoeagdaaLpC
namespace Go.Proofs.Ytbkkpimhoeagdaa
open Go.RowKit Go.Sort
set_option maxRecDepth 20000

theorem refIn_any (n a b : Int) (w : World) (hab : a ≤ b) : Calls Try.prog 27 #[.int .i64 n, .int .i64 a, .int .i64 b] w fun e w' => e = .returned (.int .i64 (max a (min n b))) ∧ w' = w := by
  by_cases h1 : n < a
  · rw [show max a (min n b) = a by omega]
    go_enter Try.func27, Try.ntmps27
    go_wp2
    go_ret
    exact ⟨rfl, rfl⟩
  · by_cases h2 : b < n
    · rw [show max a (min n b) = b by omega]
      go_enter Try.func27, Try.ntmps27
      go_wp2
      go_ret
      exact ⟨rfl, rfl⟩
    · rw [show max a (min n b) = n by omega]
      go_enter Try.func27, Try.ntmps27
      go_wp2
      go_ret
      exact ⟨rfl, rfl⟩

set_option maxHeartbeats 800000 in
theorem refLNew_any (me peer : Nat) (r again : Int) (w : World) : Calls Try.prog 11 #[.int .u8 (me : Int), .int .u8 (peer : Int), .int .i64 r, .int .i64 again] w fun e w' =>
    e = .returned (.agg (dlCells (newLs me peer r again) 0 none 0 0 none 0 0)) ∧ RowKit.Below w.heap.size w w' := by
  have HA : Hid (max 1 (min again 1099511627776) = (againN again : Int)) := by show _ = _; unfold againN; omega
  have HR := Lib.hid (refNew_any r)
  have HI := Lib.hid (refIn_any again 1 1099511627776)
  go_enter Try.func11, Try.ntmps11
  go_wp2_with fail
  refine (HR.out _).mono ?_
  rintro e w1 ⟨rfl, hb1⟩
  have hs1 := hb1.size
  have hz : w.heap.size + 1 ≤ w1.heap.size := by simpa using hs1
  have hr0 := (hb1.block w.heap.size (by simp)).trans (heap_alloc_new w _)
  have HB1 := Lib.hid hb1
  have HR0 := Lib.hid hr0
  clear hb1 hr0 hs1
  go_wp2_with fail
  refine (HI.out w1 (by decide)).mono ?_
  rintro e w2 ⟨rfl, rfl⟩
  rw [HA.out]
  have e : (#[.int .u8 (me : Int), .int .u8 (peer : Int), .int .i64 (widthN r : Int), .slice none 0 0, .int .u64 0, .slice none 0 0, .int .u64 0, .bool false, .int .i64 (againN again : Int), .int .u64 0, .int .i64 0, .int .i64 0] : Array Value) = dlCells (newLs me peer r again) 0 none 0 0 none 0 0 := rfl
  have HE := Lib.hid e
  clear e
  go_upto_region 9 with (first | (refine store_L (cs := dlCells (newLs me peer r again) 0 none 0 0 none 0 0) (.tmp 8) (.tmp 15) rfl rfl HR0.out rfl rfl (dl_one _ _ _ _ _ _ _ _) ?_) | fail)
  have hrow := setRow_heap w2 w.heap.size _ (dlCells (newLs me peer r again) 0 none 0 0 none 0 0) _ _ HR0.out
  refine bodyPost_ret (results_cell_row rfl _ _ _ _ _ _ _ rfl hrow Try.underlying34 rfl (infoL rfl)) rfl ⟨rfl, ?_⟩
  exact Below.setRow (((RowKit.Below.refl _ _).alloc (Nat.le_refl _) _).trans (HB1.out.mono (by simp))) (Nat.le_refl _) _

end Go.Proofs.Ytbkkpimhoeagdaa
