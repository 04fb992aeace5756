/- The walk of the document's own Rows. -/
import Derived.Test.YtoihikeeaobemaaIdX
namespace Go.Proofs.Ytoihikeeaobemaa
open Go.RowKit Go.Sort

set_option maxHeartbeats 1600000 in
theorem refRows_any (A : Option Addr) (n c : Nat) (l : List Rn) (w : World) (hl : l.length = n) (hn : n ≤ 1000) (h : Lies w w.heap.size A (flat encRn l)) :
    Calls Try.prog 16 #[.slice A n c] w fun e w' => e = .returned (.bool (rowsB l)) ∧ RowKit.Below w.heap.size w w' := by
  have mixed := mixedOrders
  have HL := Lib.hid hl
  clear hl
  go_enter Try.func16, Try.ntmps16
  go_wp2
  go_loopw [3, 6] (fun _ i wr => ∃ k : Nat, k ≤ n ∧ i = .int .i64 k ∧ RowKit.Below w.heap.size w wr ∧ Hid (RowsTo l k)) (fun _ i _ => n - (intOf i).toNat)
  case atStart => exact ⟨0, Nat.zero_le _, rfl, RowKit.Below.refl _ _, RowsTo.zero l⟩
  case round =>
    obtain ⟨k, hk, rfl, hb, hK⟩ := hrel
    by_cases hlt : k < n
    · have hkl : k < l.length := by rw [HL.out]; exact hlt
      obtain ⟨bb, off, rfl, hbl, c0, c1, c2⟩ := (h.below hb).rn hkl
      have hbw : bb < wr.heap.size := Nat.lt_of_lt_of_le hbl hb.size
      by_cases hkp : 0 < k
      · obtain ⟨q, rfl⟩ : ∃ q, k = q + 1 := ⟨k - 1, by omega⟩
        have hql : q < l.length := by omega
        obtain ⟨b2, off2, he2, _, d0, d1, d2⟩ := (h.below hb).rn hql
        obtain ⟨rfl, rfl⟩ : bb = b2 ∧ off = off2 := by injection he2 with he2; injection he2 with e1 e2; exact ⟨e1, e2⟩
        have hqr : runB l[q] = true := (hK.out q (by omega) hql).1
        have K1 : Hid (runB l[q + 1] = false → rowsB l = false) := fun h1 => rowsB_false (rows_not_run hkl h1)
        have K2 : Hid (¬ sepP l[q] l[q + 1] → rowsB l = false) := fun h2 => rowsB_false (rows_not_sep hkl (by omega) h2)
        have K3 : Hid (runB l[q + 1] = true → sepP l[q] l[q + 1] → RowsTo l (q + 1 + 1)) := fun h1 h2 => hK.out.next hkl h1 (fun _ => h2)
        have hrr := (runB_iff l[q]).1 hqr
        have hla := lastN_is hqr
        generalize l[q + 1] = x at c0 c1 c2 K1 K2 K3
        generalize l[q] = r at d0 d1 d2 K2 K3 hrr hla
        have ela : IntKind.u64.wrap ((lastN r : Int) + 1) = ((r.a + r.c : Nat) : Int) := by rw [IntKind.wrap_u64, hla]; omega
        have HRR := Lib.hid hrr
        have ewq : IntKind.i64.wrap (q : Int) = (q : Int) := by rw [IntKind.wrap_i64]; omega
        have hz1 : (0 : Int) < (q : Int) + 1 := by omega
        have hz2 : (q : Int) < (n : Int) := by omega
        have hz3 : (q : Int) + 1 < (n : Int) := by omega
        have hz4 : (0 : Int) ≤ (q : Int) + 1 := by omega
        have ez : ((q : Int) + 1).toNat = q + 1 := by omega
        clear he2 hqr hrr hla
        go_wp2_with fail
        refine (refRun_lit x _).mono ?_
        rintro e w1 ⟨rfl, hg1⟩
        have hbw1 := hg1.below
        have x0 := later_cell (w0 := w1) (b := bb) (Nat.lt_of_lt_of_le hbw hg1.size) ((hbw1.cell (p := ⟨bb, _, none⟩) hbw).trans c0)
        have x1 := later_cell (w0 := w1) (b := bb) (Nat.lt_of_lt_of_le hbw hg1.size) ((hbw1.cell (p := ⟨bb, _, none⟩) hbw).trans c1)
        have y0 := later_cell (w0 := w1) (b := bb) (Nat.lt_of_lt_of_le hbw hg1.size) ((hbw1.cell (p := ⟨bb, _, none⟩) hbw).trans d0)
        have y1 := later_cell (w0 := w1) (b := bb) (Nat.lt_of_lt_of_le hbw hg1.size) ((hbw1.cell (p := ⟨bb, _, none⟩) hbw).trans d1)
        have y2 := later_cell (w0 := w1) (b := bb) (Nat.lt_of_lt_of_le hbw hg1.size) ((hbw1.cell (p := ⟨bb, _, none⟩) hbw).trans d2)
        have hb0 : RowKit.Below w.heap.size w w1 := hb.trans (hbw1.mono hb.size)
        clear c0 c1 c2 d0 d1 d2 hg1 hbw1
        cases hrun : runB x with
        | false =>
          have HR : Hid (rowsB l = false) := K1.out hrun
          go_wp2
          go_ret
          rw [HR.out]
          exact ⟨rfl, hb0⟩
        | true =>
          by_cases hA : x.f < r.f
          · have HR : Hid (rowsB l = false) := K2.out (by unfold sepP; omega)
            have z1 : decide (x.f < r.f) = true := decide_eq_true hA
            go_wp2_with fail
            refine wp_region_later mixed (by kernel_rfl) ?_
            repeat (go_big_quiet_step (first | (go_at_call 30; exact later_grew (refLast_lit r _))))
            refine wpQuiet_nil ?_
            intro _ hw'
            obtain ⟨p, rfl⟩ := hw'
            have hbp : RowKit.Below w.heap.size w p.w := hb0.trans (p.hb.mono hb0.size)
            go_wp2
            go_ret
            rw [HR.out]
            exact ⟨rfl, hbp⟩
          · have z1 : decide (x.f < r.f) = false := decide_eq_false hA
            by_cases hB : x.f = r.f
            · have z2 : ((x.f : Int) == (r.f : Int)) = true := beq_iff_eq.2 (by omega)
              by_cases hC : x.a ≤ r.a + r.c
              · have HR : Hid (rowsB l = false) := K2.out (by unfold sepP; omega)
                have z3 : decide (x.a ≤ r.a + r.c) = true := decide_eq_true hC
                generalize (r.a + r.c : Nat) = rc at ela z3 hC
                go_wp2_with fail
                refine wp_region_later mixed (by kernel_rfl) ?_
                repeat (go_big_quiet_step (first | (go_at_call 30; exact later_grew (refLast_lit r _))))
                refine wpQuiet_nil ?_
                intro _ hw'
                obtain ⟨p, rfl⟩ := hw'
                have hbp : RowKit.Below w.heap.size w p.w := hb0.trans (p.hb.mono hb0.size)
                go_wp2
                go_ret
                rw [HR.out]
                exact ⟨rfl, hbp⟩
              · have HN : Hid (RowsTo l (q + 1 + 1)) := K3.out hrun (by unfold sepP; omega)
                have z3 : decide (x.a ≤ r.a + r.c) = false := decide_eq_false hC
                generalize (r.a + r.c : Nat) = rc at ela z3 hC
                go_wp2_with fail
                refine wp_region_later mixed (by kernel_rfl) ?_
                repeat (go_big_quiet_step (first | (go_at_call 30; exact later_grew (refLast_lit r _))))
                refine wpQuiet_nil ?_
                intro _ hw'
                obtain ⟨p, rfl⟩ := hw'
                have hbp : RowKit.Below w.heap.size w p.w := hb0.trans (p.hb.mono hb0.size)
                go_wp2
                go_roundw
                case rel => exact ⟨q + 1 + 1, by omega, by go_num, hbp, HN⟩
                case measure => simp [intOf]; omega
            · have HN : Hid (RowsTo l (q + 1 + 1)) := K3.out hrun (by unfold sepP; omega)
              have z2 : ((x.f : Int) == (r.f : Int)) = false := beq_eq_false_iff_ne.2 (by omega)
              go_wp2_with fail
              refine wp_region_later mixed (by kernel_rfl) ?_
              repeat (go_big_quiet_step (first | (go_at_call 30; exact later_grew (refLast_lit r _))))
              refine wpQuiet_nil ?_
              intro _ hw'
              obtain ⟨p, rfl⟩ := hw'
              have hbp : RowKit.Below w.heap.size w p.w := hb0.trans (p.hb.mono hb0.size)
              go_wp2
              go_roundw
              case rel => exact ⟨q + 1 + 1, by omega, by go_num, hbp, HN⟩
              case measure => simp [intOf]; omega
      · have hk0 : k = 0 := by omega
        subst hk0
        have K1 : Hid (runB l[0] = false → rowsB l = false) := fun h1 => rowsB_false (rows_not_run hkl h1)
        have K3 : Hid (runB l[0] = true → RowsTo l (0 + 1)) := fun h1 => hK.out.next hkl h1 (fun h => absurd h (by omega))
        simp only [Nat.zero_mul, Nat.add_zero] at c0 c1 c2
        generalize l[0] = x at c0 c1 c2 K1 K3
        go_wp2_with fail
        refine (refRun_lit x _).mono ?_
        rintro e w1 ⟨rfl, hg1⟩
        have hb0 : RowKit.Below w.heap.size w w1 := hb.trans (hg1.below.mono hb.size)
        cases hrun : runB x with
        | false =>
          have HR : Hid (rowsB l = false) := K1.out hrun
          go_wp2
          go_ret
          rw [HR.out]
          exact ⟨rfl, hb0⟩
        | true =>
          have HN : Hid (RowsTo l (0 + 1)) := K3.out hrun
          go_wp2_with fail
          refine wp_region_later mixed (by kernel_rfl) ?_
          repeat (go_big_quiet_step (first | (go_at_call 30; exact later_grew (refLast_lit x _))))
          refine wpQuiet_nil ?_
          intro _ hw'
          obtain ⟨p, rfl⟩ := hw'
          have hbp : RowKit.Below w.heap.size w p.w := hb0.trans (p.hb.mono hb0.size)
          go_wp2
          go_roundw
          case rel => exact ⟨0 + 1, by omega, by go_num, hbp, HN⟩
          case measure => simp [intOf]; omega
    · have HR : Hid (rowsB l = true) := rowsB_true (by have : k = l.length := by rw [HL.out]; omega
                                                       rw [this] at hK; exact hK.out)
      go_wp2
      go_ret
      rw [HR.out]
      exact ⟨rfl, hb⟩

end Go.Proofs.Ytoihikeeaobemaa
