/- The walk of IdentIs. -/
import Derived.Test.YtoihikeeaobemaaIdK
import Derived.Test.YtoihikeeaobemaaIdY
import Derived.Test.YtoihikeeaobemaaIdZ
import Derived.Test.YtoihikeeaobemaaIdHr
namespace Go.Proofs.Ytoihikeeaobemaa
open Go.RowKit Go.Sort

set_option maxHeartbeats 1600000 in
theorem identIs_walk (a b : Id) (m : Int) (x : Rn) (A : Option Addr) (n c : Nat) (l : List Rn) (w : World) (hm : -9223372036854775808 ≤ m ∧ m ≤ 9223372036854775807) (hl : l.length = n) (hn : n ≤ 100) (h : Lies w w.heap.size A (flat encRn l)) :
    Calls Try.prog 3 #[valId a, valId b, .int .i64 m, valRn x, .slice A n c] w fun e w' => e = .returned (.bool true) ∧ RowKit.Below w.heap.size w w' := by
  have mixed := mixedOrders
  have hd : decide (100 < (n : Int)) = false := by simp; omega
  have HL := Lib.hid hl
  have HM := Lib.hid hm
  clear hl hm
  unfold valId valRn
  go_enter Try.func3, Try.ntmps3
  go_wp2_with fail
  generalize hw0 : ((World.alloc w _).alloc _).alloc _ = w0
  obtain ⟨hs0, hG, hc1, hc2, hc3⟩ := box3 w w0 _ _ _ _ _ _ hw0
  have a0 := later_cell (w0 := w0) (b := w.heap.size) (by omega) (hc1 0 _ rfl)
  have a1 := later_cell (w0 := w0) (b := w.heap.size) (by omega) (hc1 1 _ rfl)
  have b0 := later_cell (w0 := w0) (b := w.heap.size + 1) (by omega) (hc2 0 _ rfl)
  have b1 := later_cell (w0 := w0) (b := w.heap.size + 1) (by omega) (hc2 1 _ rfl)
  have d0 := later_cell (w0 := w0) (b := w.heap.size + 1 + 1) (by omega) (hc3 0 _ rfl)
  have d1 := later_cell (w0 := w0) (b := w.heap.size + 1 + 1) (by omega) (hc3 1 _ rfl)
  have d2 := later_cell (w0 := w0) (b := w.heap.size + 1 + 1) (by omega) (hc3 2 _ rfl)
  have hb0 := hG.below
  have hL0 : ∀ p : Later w0, Lies p.w p.w.heap.size A (flat encRn l) := fun p => (h.on hb0).on p.hb
  have hn1 : n ≤ 1000 := by omega
  have k9 := fun p : Later w0 => later_grew (may_any a m p.w HM.out)
  have k10 := fun p : Later w0 => later_grew (refMay_any a m p.w HM.out)
  have k11 := fun p : Later w0 => later_grew (less_any a b p.w)
  have k12 := fun p : Later w0 => later_grew (refLess_any a b p.w)
  have k13 := fun p : Later w0 => later_grew (run_any x p.w)
  have k14 := fun p : Later w0 => later_grew (refRun_any x p.w)
  have k15 := fun p : Later w0 => later_of (rows_any A n c l p.w HL.out hn1 (hL0 p))
  have k16 := fun p : Later w0 => later_of (refRows_any A n c l p.w HL.out hn1 (hL0 p))
  have k17 := fun p : Later w0 => later_of (has_any a A n c l p.w HL.out hn1 (hL0 p))
  have k18 := fun p : Later w0 => later_of (refHas_any a A n c l p.w HL.out hn1 (hL0 p))
  have k19 := fun p : Later w0 => later_of (count_any A n c l p.w HL.out hn1 (hL0 p))
  have k20 := fun p : Later w0 => later_of (refCount_any A n c l p.w HL.out hn1 (hL0 p))
  have k8 := fun p : Later w0 => later_of (awake_any p.w)
  generalize (decide ((a.f : Int) < m) && mayB a) = r1 at k9 k10
  generalize ltB a b = r2 at k11 k12
  generalize runB x = r3 at k13 k14
  generalize rowsB l = r4 at k15 k16
  generalize hasB a l = r5 at k17 k18
  generalize cntN l = r6 at k19 k20
  unfold valId at k9 k10 k11 k12 k17 k18
  unfold valRn at k13 k14
  clear hc1 hc2 hc3 hw0 hs0 hG h hL0
  refine wp_region_later mixed (by kernel_rfl) ?_
  repeat (go_big_quiet_step (first
    | (go_at_call 9; exact k9 _)
    | (go_at_call 10; exact k10 _)
    | (go_at_call 11; exact k11 _)
    | (go_at_call 12; exact k12 _)
    | (go_at_call 13; exact k13 _)
    | (go_at_call 14; exact k14 _)
    | (go_at_call 15; exact k15 _)
    | (go_at_call 16; exact k16 _)
    | (go_at_call 17; exact k17 _)
    | (go_at_call 18; exact k18 _)
    | (go_at_call 19; exact k19 _)
    | (go_at_call 20; exact k20 _)
    | (go_at_call 8; exact k8 _)))
  refine wpQuiet_nil ?_
  intro _ hw'
  obtain ⟨p, rfl⟩ := hw'
  have hbp : RowKit.Below w.heap.size w p.w := hb0.trans (p.hb.mono hb0.size)
  go_wp2
  go_ret
  exact ⟨rfl, hbp⟩

theorem identIs_long (a b : Id) (m : Int) (x : Rn) (A : Option Addr) (n c : Nat) (w : World) (hn : 100 < n) :
    Calls Try.prog 3 #[valId a, valId b, .int .i64 m, valRn x, .slice A n c] w fun e w' => e = .returned (.bool true) ∧ RowKit.Below w.heap.size w w' := by
  unfold valId valRn
  go_enter Try.func3, Try.ntmps3
  go_wp2_with (go_at_call 8; refine (awake_any _).mono ?_; rintro e w' ⟨rfl, hb⟩)
  go_ret
  exact ⟨rfl, ((((Grew.refl w).alloc _).alloc _).alloc _).below.trans (hb.mono (by simp; omega))⟩

end Go.Proofs.Ytoihikeeaobemaa
