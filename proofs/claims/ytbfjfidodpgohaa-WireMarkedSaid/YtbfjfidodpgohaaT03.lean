/- Rows, Count, Same (picked). -/
import Derived.Test.YtbfjfidodpgohaaT02
import Derived.Test.YtbfjfidodpgohaaT01

namespace Go.Proofs.Ytbfjfidodpgohaa
open Go.RowKit Go.Sort

def sepP (r x : Rn) : Prop := r.f < x.f ∨ (r.f = x.f ∧ r.a + r.c < x.a)

def RowsTo (l : List Rn) (k : Nat) : Prop := ∀ i, i < k → ∀ h : i < l.length, runB l[i] = true ∧ (0 < i → sepP (l[i - 1]'(by omega)) l[i])

def RowsP (l : List Rn) : Prop := RowsTo l l.length

open Classical in
noncomputable def rowsB (l : List Rn) : Bool := decide (RowsP l)

theorem rowsB_iff (l : List Rn) : rowsB l = true ↔ RowsP l := by unfold rowsB; simp

theorem rowsB_true {l : List Rn} (h : RowsP l) : rowsB l = true := (rowsB_iff l).2 h

theorem rowsB_false {l : List Rn} (h : ¬ RowsP l) : rowsB l = false := by rw [Bool.eq_false_iff, Ne, rowsB_iff]; exact h

theorem RowsTo.zero (l : List Rn) : RowsTo l 0 := fun _ h => absurd h (by omega)

theorem RowsTo.next {l : List Rn} {k : Nat} (h : RowsTo l k) (hk : k < l.length) (h1 : runB l[k] = true) (h2 : ∀ hp : 0 < k, sepP (l[k - 1]'(by omega)) l[k]) : RowsTo l (k + 1) := fun i hi hl => by
  by_cases e : i = k
  · subst e; exact ⟨h1, h2⟩
  · exact h i (by omega) hl

theorem rows_not_run {l : List Rn} {k : Nat} (hk : k < l.length) (h1 : runB l[k] = false) : ¬ RowsP l := fun h => by
  have := (h k hk hk).1
  rw [h1] at this
  cases this

theorem rows_not_sep {l : List Rn} {k : Nat} (hk : k < l.length) (hp : 0 < k) (h1 : ¬ sepP (l[k - 1]'(by omega)) l[k]) : ¬ RowsP l := fun h => h1 ((h k hk hk).2 hp)

theorem apart_sep {r x : Rn} (h : runB r = true) : apartB r x = true ↔ sepP r x := by
  obtain ⟨h1, h2⟩ := nextI_is h
  unfold apartB sepP
  rw [ltB_iff, h1, h2]
  rfl

theorem apart_lit (r x : Rn) (W : World) : Calls Try.prog 107 #[.agg #[.int .u8 (r.f : Int), .int .u64 (r.a : Int), .int .u64 (r.c : Int)], .agg #[.int .u8 (x.f : Int), .int .u64 (x.a : Int), .int .u64 (x.c : Int)]] W fun e w' => e = .returned (.bool (apartB r x)) ∧ Grew W w' := apart_any r x W

set_option maxRecDepth 100000 in
set_option maxHeartbeats 1600000 in
theorem idRows_any (A : Option Addr) (n c : Nat) (l : List Rn) (w : World) (hl : l.length = n) (hn : n ≤ 1000) (h : Lies w w.heap.size A (flat encRn l)) :
    Calls Try.prog 102 #[.slice A n c] w fun e w' => e = .returned (.bool (rowsB l)) ∧ RowKit.Below w.heap.size w w' := by
  have mixed := mixedOrders
  have HL := Lib.hid hl
  clear hl
  go_enter Try.func102, Try.ntmps102
  go_wp2
  go_loopw [3, 4, 7] (fun _ _ i wr => ∃ k : Nat, k ≤ n ∧ i = .int .i64 k ∧ RowKit.Below w.heap.size w wr ∧ Hid (RowsTo l k)) (fun _ _ i _ => n - (intOf i).toNat)
  case atStart => exact ⟨0, Nat.zero_le _, rfl, RowKit.Below.refl _ _, RowsTo.zero l⟩
  case round =>
    obtain ⟨k, hk, rfl, hb, hK⟩ := hrel
    by_cases hlt : k < n
    · have hkl : k < l.length := by rw [HL.out]; exact hlt
      obtain ⟨bb, off, rfl, hbl, c0, c1, c2⟩ := (h.below hb).rn hkl
      have hbw : bb < wr.heap.size := Nat.lt_of_lt_of_le hbl hb.size
      by_cases hkp : 0 < k
      · obtain ⟨q, rfl⟩ : ∃ q, k = q + 1 := ⟨k - 1, by omega⟩
        have hql : q < l.length := by omega
        obtain ⟨b2, off2, he2, _, d0, d1, d2⟩ := (h.below hb).rn hql
        obtain ⟨rfl, rfl⟩ : bb = b2 ∧ off = off2 := by injection he2 with he2; injection he2 with e1 e2; exact ⟨e1, e2⟩
        have hqr : runB l[q] = true := (hK.out q (by omega) hql).1
        have hsep := apart_sep (x := l[q + 1]) hqr
        have K1 : Hid (runB l[q + 1] = false → rowsB l = false) := fun h1 => rowsB_false (rows_not_run hkl h1)
        have K2 : Hid (runB l[q + 1] = true → apartB l[q] l[q + 1] = false → rowsB l = false) := fun _ h2 => rowsB_false (rows_not_sep hkl (by omega) (fun h => by have := hsep.2 h; rw [h2] at this; cases this))
        have K3 : Hid (runB l[q + 1] = true → apartB l[q] l[q + 1] = true → RowsTo l (q + 1 + 1)) := fun h1 h2 => hK.out.next hkl h1 (fun _ => hsep.1 h2)
        clear hqr hsep
        generalize l[q + 1] = x at c0 c1 c2 K1 K2 K3
        generalize l[q] = r at d0 d1 d2 K2 K3
        have ewq : IntKind.i64.wrap (q : Int) = (q : Int) := by rw [IntKind.wrap_i64]; omega
        have hz1 : (0 : Int) < (q : Int) + 1 := by omega
        have hz2 : (q : Int) < (n : Int) := by omega
        have hz3 : (q : Int) + 1 < (n : Int) := by omega
        have hz4 : (0 : Int) ≤ (q : Int) + 1 := by omega
        have ez : ((q : Int) + 1).toNat = q + 1 := by omega
        clear he2
        go_wp2_with fail
        generalize hw0 : World.alloc wr _ = w0
        obtain ⟨hs0, hG, hcc⟩ := box1 wr w0 _ _ hw0
        have x0 := later_cell (w0 := w0) (b := wr.heap.size) (by omega) (hcc 0 _ rfl)
        have x1 := later_cell (w0 := w0) (b := wr.heap.size) (by omega) (hcc 1 _ rfl)
        have x2 := later_cell (w0 := w0) (b := wr.heap.size) (by omega) (hcc 2 _ rfl)
        have y0 := later_cell (w0 := w0) (b := bb) (by omega) ((hG.below.cell (p := ⟨bb, _, none⟩) hbw).trans d0)
        have y1 := later_cell (w0 := w0) (b := bb) (by omega) ((hG.below.cell (p := ⟨bb, _, none⟩) hbw).trans d1)
        have y2 := later_cell (w0 := w0) (b := bb) (by omega) ((hG.below.cell (p := ⟨bb, _, none⟩) hbw).trans d2)
        have hb0 : RowKit.Below w.heap.size w w0 := hb.trans (hG.below.mono hb.size)
        clear hcc hw0 hs0 hG c0 c1 c2 d0 d1 d2
        cases hrun : runB x with
        | false =>
          have HR : Hid (rowsB l = false) := K1.out hrun
          refine wp_region_later mixed (by kernel_rfl) ?_
          repeat (go_big_quiet_step (first | (go_at_call 106; exact later_grew (run_lit _ _)) | (go_at_call 107; exact later_grew (apart_lit _ _ _))))
          refine wpQuiet_nil ?_
          intro _ hw'
          obtain ⟨p, rfl⟩ := hw'
          have hbp : RowKit.Below w.heap.size w p.w := hb0.trans (p.hb.mono hb0.size)
          go_wp2
          go_ret
          rw [HR.out]
          exact ⟨rfl, hbp⟩
        | true =>
          cases hap : apartB r x with
          | false =>
            have HR : Hid (rowsB l = false) := K2.out hrun hap
            refine wp_region_later mixed (by kernel_rfl) ?_
            repeat (go_big_quiet_step (first | (go_at_call 106; exact later_grew (run_lit _ _)) | (go_at_call 107; exact later_grew (apart_lit _ _ _))))
            refine wpQuiet_nil ?_
            intro _ hw'
            obtain ⟨p, rfl⟩ := hw'
            have hbp : RowKit.Below w.heap.size w p.w := hb0.trans (p.hb.mono hb0.size)
            go_wp2
            go_ret
            rw [HR.out]
            exact ⟨rfl, hbp⟩
          | true =>
            have HN : Hid (RowsTo l (q + 1 + 1)) := K3.out hrun hap
            refine wp_region_later mixed (by kernel_rfl) ?_
            repeat (go_big_quiet_step (first | (go_at_call 106; exact later_grew (run_lit _ _)) | (go_at_call 107; exact later_grew (apart_lit _ _ _))))
            refine wpQuiet_nil ?_
            intro _ hw'
            obtain ⟨p, rfl⟩ := hw'
            have hbp : RowKit.Below w.heap.size w p.w := hb0.trans (p.hb.mono hb0.size)
            go_wp2
            go_roundw
            case rel => exact ⟨q + 1 + 1, by omega, by go_num, hbp, HN⟩
            case measure => simp [intOf]; omega
      · have hk0 : k = 0 := by omega
        subst hk0
        have K1 : Hid (runB l[0] = false → rowsB l = false) := fun h1 => rowsB_false (rows_not_run hkl h1)
        have K3 : Hid (runB l[0] = true → RowsTo l (0 + 1)) := fun h1 => hK.out.next hkl h1 (fun h => absurd h (by omega))
        simp only [Nat.zero_mul, Nat.add_zero] at c0 c1 c2
        generalize l[0] = x at c0 c1 c2 K1 K3
        go_wp2_with fail
        generalize hw0 : World.alloc wr _ = w0
        obtain ⟨hs0, hG, hcc⟩ := box1 wr w0 _ _ hw0
        have x0 := later_cell (w0 := w0) (b := wr.heap.size) (by omega) (hcc 0 _ rfl)
        have x1 := later_cell (w0 := w0) (b := wr.heap.size) (by omega) (hcc 1 _ rfl)
        have x2 := later_cell (w0 := w0) (b := wr.heap.size) (by omega) (hcc 2 _ rfl)
        have hb0 : RowKit.Below w.heap.size w w0 := hb.trans (hG.below.mono hb.size)
        clear hcc hw0 hs0 hG c0 c1 c2
        cases hrun : runB x with
        | false =>
          have HR : Hid (rowsB l = false) := K1.out hrun
          refine wp_region_later mixed (by kernel_rfl) ?_
          repeat (go_big_quiet_step (first | (go_at_call 106; exact later_grew (run_lit _ _)) | (go_at_call 107; exact later_grew (apart_lit _ _ _))))
          refine wpQuiet_nil ?_
          intro _ hw'
          obtain ⟨p, rfl⟩ := hw'
          have hbp : RowKit.Below w.heap.size w p.w := hb0.trans (p.hb.mono hb0.size)
          go_wp2
          go_ret
          rw [HR.out]
          exact ⟨rfl, hbp⟩
        | true =>
          have HN : Hid (RowsTo l (0 + 1)) := K3.out hrun
          refine wp_region_later mixed (by kernel_rfl) ?_
          repeat (go_big_quiet_step (first | (go_at_call 106; exact later_grew (run_lit _ _)) | (go_at_call 107; exact later_grew (apart_lit _ _ _))))
          refine wpQuiet_nil ?_
          intro _ hw'
          obtain ⟨p, rfl⟩ := hw'
          have hbp : RowKit.Below w.heap.size w p.w := hb0.trans (p.hb.mono hb0.size)
          go_wp2
          go_roundw
          case rel => exact ⟨0 + 1, by omega, by go_num, hbp, HN⟩
          case measure => simp [intOf]; omega
    · have HR : Hid (rowsB l = true) := rowsB_true (by have : k = l.length := by rw [HL.out]; omega
                                                       rw [this] at hK; exact hK.out)
      go_wp2
      go_ret
      rw [HR.out]
      exact ⟨rfl, hb⟩

set_option maxRecDepth 100000 in
set_option maxHeartbeats 1600000 in
theorem refRows_any (A : Option Addr) (n c : Nat) (l : List Rn) (w : World) (hl : l.length = n) (hn : n ≤ 1000) (h : Lies w w.heap.size A (flat encRn l)) :
    Calls Try.prog 53 #[.slice A n c] w fun e w' => e = .returned (.bool (rowsB l)) ∧ RowKit.Below w.heap.size w w' := by
  have mixed := mixedOrders
  have HL := Lib.hid hl
  clear hl
  go_enter Try.func53, Try.ntmps53
  go_wp2
  go_loopw [3, 6] (fun _ i wr => ∃ k : Nat, k ≤ n ∧ i = .int .i64 k ∧ RowKit.Below w.heap.size w wr ∧ Hid (RowsTo l k)) (fun _ i _ => n - (intOf i).toNat)
  case atStart => exact ⟨0, Nat.zero_le _, rfl, RowKit.Below.refl _ _, RowsTo.zero l⟩
  case round =>
    obtain ⟨k, hk, rfl, hb, hK⟩ := hrel
    by_cases hlt : k < n
    · have hkl : k < l.length := by rw [HL.out]; exact hlt
      obtain ⟨bb, off, rfl, hbl, c0, c1, c2⟩ := (h.below hb).rn hkl
      have hbw : bb < wr.heap.size := Nat.lt_of_lt_of_le hbl hb.size
      by_cases hkp : 0 < k
      · obtain ⟨q, rfl⟩ : ∃ q, k = q + 1 := ⟨k - 1, by omega⟩
        have hql : q < l.length := by omega
        obtain ⟨b2, off2, he2, _, d0, d1, d2⟩ := (h.below hb).rn hql
        obtain ⟨rfl, rfl⟩ : bb = b2 ∧ off = off2 := by injection he2 with he2; injection he2 with e1 e2; exact ⟨e1, e2⟩
        have hqr : runB l[q] = true := (hK.out q (by omega) hql).1
        have K1 : Hid (runB l[q + 1] = false → rowsB l = false) := fun h1 => rowsB_false (rows_not_run hkl h1)
        have K2 : Hid (¬ sepP l[q] l[q + 1] → rowsB l = false) := fun h2 => rowsB_false (rows_not_sep hkl (by omega) h2)
        have K3 : Hid (runB l[q + 1] = true → sepP l[q] l[q + 1] → RowsTo l (q + 1 + 1)) := fun h1 h2 => hK.out.next hkl h1 (fun _ => h2)
        have hrr := (runB_iff l[q]).1 hqr
        have hla := lastN_is hqr
        generalize l[q + 1] = x at c0 c1 c2 K1 K2 K3
        generalize l[q] = r at d0 d1 d2 K2 K3 hrr hla
        have ela : IntKind.u64.wrap ((lastN r : Int) + 1) = ((r.a + r.c : Nat) : Int) := by rw [IntKind.wrap_u64, hla]; omega
        have HRR := Lib.hid hrr
        have ewq : IntKind.i64.wrap (q : Int) = (q : Int) := by rw [IntKind.wrap_i64]; omega
        have hz1 : (0 : Int) < (q : Int) + 1 := by omega
        have hz2 : (q : Int) < (n : Int) := by omega
        have hz3 : (q : Int) + 1 < (n : Int) := by omega
        have hz4 : (0 : Int) ≤ (q : Int) + 1 := by omega
        have ez : ((q : Int) + 1).toNat = q + 1 := by omega
        clear he2 hqr hrr hla
        go_wp2_with fail
        refine (refRun_lit x _).mono ?_
        rintro e w1 ⟨rfl, hg1⟩
        have hbw1 := hg1.below
        have x0 := later_cell (w0 := w1) (b := bb) (Nat.lt_of_lt_of_le hbw hg1.size) ((hbw1.cell (p := ⟨bb, _, none⟩) hbw).trans c0)
        have x1 := later_cell (w0 := w1) (b := bb) (Nat.lt_of_lt_of_le hbw hg1.size) ((hbw1.cell (p := ⟨bb, _, none⟩) hbw).trans c1)
        have y0 := later_cell (w0 := w1) (b := bb) (Nat.lt_of_lt_of_le hbw hg1.size) ((hbw1.cell (p := ⟨bb, _, none⟩) hbw).trans d0)
        have y1 := later_cell (w0 := w1) (b := bb) (Nat.lt_of_lt_of_le hbw hg1.size) ((hbw1.cell (p := ⟨bb, _, none⟩) hbw).trans d1)
        have y2 := later_cell (w0 := w1) (b := bb) (Nat.lt_of_lt_of_le hbw hg1.size) ((hbw1.cell (p := ⟨bb, _, none⟩) hbw).trans d2)
        have hb0 : RowKit.Below w.heap.size w w1 := hb.trans (hbw1.mono hb.size)
        clear c0 c1 c2 d0 d1 d2 hg1 hbw1
        cases hrun : runB x with
        | false =>
          have HR : Hid (rowsB l = false) := K1.out hrun
          go_wp2
          go_ret
          rw [HR.out]
          exact ⟨rfl, hb0⟩
        | true =>
          by_cases hA : x.f < r.f
          · have HR : Hid (rowsB l = false) := K2.out (by unfold sepP; omega)
            have z1 : decide (x.f < r.f) = true := decide_eq_true hA
            go_wp2_with fail
            refine wp_region_later mixed (by kernel_rfl) ?_
            repeat (go_big_quiet_step (first | (go_at_call 60; exact later_grew (refLast_lit r _))))
            refine wpQuiet_nil ?_
            intro _ hw'
            obtain ⟨p, rfl⟩ := hw'
            have hbp : RowKit.Below w.heap.size w p.w := hb0.trans (p.hb.mono hb0.size)
            go_wp2
            go_ret
            rw [HR.out]
            exact ⟨rfl, hbp⟩
          · have z1 : decide (x.f < r.f) = false := decide_eq_false hA
            by_cases hB : x.f = r.f
            · have z2 : ((x.f : Int) == (r.f : Int)) = true := beq_iff_eq.2 (by omega)
              by_cases hC : x.a ≤ r.a + r.c
              · have HR : Hid (rowsB l = false) := K2.out (by unfold sepP; omega)
                have z3 : decide (x.a ≤ r.a + r.c) = true := decide_eq_true hC
                generalize (r.a + r.c : Nat) = rc at ela z3 hC
                go_wp2_with fail
                refine wp_region_later mixed (by kernel_rfl) ?_
                repeat (go_big_quiet_step (first | (go_at_call 60; exact later_grew (refLast_lit r _))))
                refine wpQuiet_nil ?_
                intro _ hw'
                obtain ⟨p, rfl⟩ := hw'
                have hbp : RowKit.Below w.heap.size w p.w := hb0.trans (p.hb.mono hb0.size)
                go_wp2
                go_ret
                rw [HR.out]
                exact ⟨rfl, hbp⟩
              · have HN : Hid (RowsTo l (q + 1 + 1)) := K3.out hrun (by unfold sepP; omega)
                have z3 : decide (x.a ≤ r.a + r.c) = false := decide_eq_false hC
                generalize (r.a + r.c : Nat) = rc at ela z3 hC
                go_wp2_with fail
                refine wp_region_later mixed (by kernel_rfl) ?_
                repeat (go_big_quiet_step (first | (go_at_call 60; exact later_grew (refLast_lit r _))))
                refine wpQuiet_nil ?_
                intro _ hw'
                obtain ⟨p, rfl⟩ := hw'
                have hbp : RowKit.Below w.heap.size w p.w := hb0.trans (p.hb.mono hb0.size)
                go_wp2
                go_roundw
                case rel => exact ⟨q + 1 + 1, by omega, by go_num, hbp, HN⟩
                case measure => simp [intOf]; omega
            · have HN : Hid (RowsTo l (q + 1 + 1)) := K3.out hrun (by unfold sepP; omega)
              have z2 : ((x.f : Int) == (r.f : Int)) = false := beq_eq_false_iff_ne.2 (by omega)
              go_wp2_with fail
              refine wp_region_later mixed (by kernel_rfl) ?_
              repeat (go_big_quiet_step (first | (go_at_call 60; exact later_grew (refLast_lit r _))))
              refine wpQuiet_nil ?_
              intro _ hw'
              obtain ⟨p, rfl⟩ := hw'
              have hbp : RowKit.Below w.heap.size w p.w := hb0.trans (p.hb.mono hb0.size)
              go_wp2
              go_roundw
              case rel => exact ⟨q + 1 + 1, by omega, by go_num, hbp, HN⟩
              case measure => simp [intOf]; omega
      · have hk0 : k = 0 := by omega
        subst hk0
        have K1 : Hid (runB l[0] = false → rowsB l = false) := fun h1 => rowsB_false (rows_not_run hkl h1)
        have K3 : Hid (runB l[0] = true → RowsTo l (0 + 1)) := fun h1 => hK.out.next hkl h1 (fun h => absurd h (by omega))
        simp only [Nat.zero_mul, Nat.add_zero] at c0 c1 c2
        generalize l[0] = x at c0 c1 c2 K1 K3
        go_wp2_with fail
        refine (refRun_lit x _).mono ?_
        rintro e w1 ⟨rfl, hg1⟩
        have hb0 : RowKit.Below w.heap.size w w1 := hb.trans (hg1.below.mono hb.size)
        cases hrun : runB x with
        | false =>
          have HR : Hid (rowsB l = false) := K1.out hrun
          go_wp2
          go_ret
          rw [HR.out]
          exact ⟨rfl, hb0⟩
        | true =>
          have HN : Hid (RowsTo l (0 + 1)) := K3.out hrun
          go_wp2_with fail
          refine wp_region_later mixed (by kernel_rfl) ?_
          repeat (go_big_quiet_step (first | (go_at_call 60; exact later_grew (refLast_lit x _))))
          refine wpQuiet_nil ?_
          intro _ hw'
          obtain ⟨p, rfl⟩ := hw'
          have hbp : RowKit.Below w.heap.size w p.w := hb0.trans (p.hb.mono hb0.size)
          go_wp2
          go_roundw
          case rel => exact ⟨0 + 1, by omega, by go_num, hbp, HN⟩
          case measure => simp [intOf]; omega
    · have HR : Hid (rowsB l = true) := rowsB_true (by have : k = l.length := by rw [HL.out]; omega
                                                       rw [this] at hK; exact hK.out)
      go_wp2
      go_ret
      rw [HR.out]
      exact ⟨rfl, hb⟩

/-- How many ids runs have together, MaxSeq at most. -/
def satC : Nat → List Rn → Nat
  | n, [] => n
  | n, r :: t => if 4611686018427387904 - n < r.c then 4611686018427387904 else satC (n + r.c) t

def cntN (l : List Rn) : Nat := satC 0 (l.filter runB)

set_option maxRecDepth 100000 in
set_option maxHeartbeats 800000 in
theorem count_any (A : Option Addr) (n c : Nat) (l : List Rn) (w : World) (hl : l.length = n) (hn : n ≤ 1000) (h : Lies w w.heap.size A (flat encRn l)) :
    Calls Try.prog 103 #[.slice A n c] w fun e w' => e = .returned (.int .u64 (cntN l)) ∧ RowKit.Below w.heap.size w w' := by
  have hwo := withoutRns_any A n c l w hl hn h
  have hfl : (l.filter runB).length ≤ 1000 := by have := List.length_filter_le runB l; omega
  unfold cntN
  generalize l.filter runB = L at hwo hfl ⊢
  clear h hl
  go_enter Try.func103, Try.ntmps103
  go_wp2_with fail
  refine hwo.mono ?_
  rintro e w1 ⟨A1, n1, c1, rfl, hn1, _, _, hown, hb1⟩
  have hL := Lies.of_ownK hown
  have hn1m : n1 ≤ 1000 := by rw [← hn1.out]; exact hfl
  clear hwo hown hfl
  go_wp2
  go_loopw [3, 5, 9] (fun s3 _ i wr => ∃ (k m : Nat), k ≤ n1 ∧ i = .int .i64 k ∧ s3 = .int .u64 m ∧ m ≤ 4611686018427387904 ∧ RowKit.Below w1.heap.size w1 wr ∧ Hid (satC m (L.drop k) = satC 0 L)) (fun _ _ i _ => n1 - (intOf i).toNat)
  case atStart => exact ⟨0, 0, Nat.zero_le _, rfl, rfl, by omega, RowKit.Below.refl _ _, rfl⟩
  case round =>
    obtain ⟨k, m, hk, rfl, rfl, hm, hb, hS⟩ := hrel
    by_cases hlt : k < n1
    · have hkl : k < L.length := by rw [hn1.out]; exact hlt
      obtain ⟨bb, off, rfl, hbl, c0, c1', c2⟩ := (hL.below hb).rn hkl
      rw [List.drop_eq_getElem_cons hkl] at hS
      have hcc := L[k].hc
      generalize L[k] = x at c0 c1' c2 hS hcc
      have e1 : IntKind.u64.wrap (4611686018427387904 - (m : Int)) = ((4611686018427387904 - m : Nat) : Int) := by rw [IntKind.wrap_u64]; omega
      by_cases hg : 4611686018427387904 - m < x.c
      · have HS : Hid (satC 0 L = 4611686018427387904) := by
          have := hS.out
          rw [satC, if_pos hg] at this
          exact this.symm
        have hbw : RowKit.Below w.heap.size w wr := hb1.trans (hb.mono hb1.size)
        have hz : ((4611686018427387904 - m : Nat) : Int) < (x.c : Int) := by omega
        generalize 4611686018427387904 - m = mm at e1 hz hg
        go_wp2
        go_ret
        rw [HS.out]
        exact ⟨rfl, hbw.alloc hbw.size _⟩
      · have HS : Hid (satC (m + x.c) (L.drop (k + 1)) = satC 0 L) := by
          have := hS.out
          rw [satC, if_neg hg] at this
          exact this
        have e2 : IntKind.u64.wrap ((m : Int) + (x.c : Int)) = ((m + x.c : Nat) : Int) := by rw [IntKind.wrap_u64]; omega
        have hmm : m + x.c ≤ 4611686018427387904 := by omega
        have hz : ¬ ((4611686018427387904 - m : Nat) : Int) < (x.c : Int) := by omega
        generalize 4611686018427387904 - m = mm at e1 hz hg
        generalize m + x.c = mx at e2 HS hmm
        go_wp2
        go_roundw
        case rel => exact ⟨k + 1, mx, by omega, by go_num, rfl, hmm, hb.alloc hb.size _, HS⟩
        case measure => simp [intOf]; omega
    · have HS : Hid (satC 0 L = m) := by
        have := hS.out
        rw [List.drop_eq_nil_of_le (by rw [hn1.out]; omega)] at this
        exact this.symm
      have hbw : RowKit.Below w.heap.size w wr := hb1.trans (hb.mono hb1.size)
      go_wp2
      go_ret
      rw [HS.out]
      exact ⟨rfl, hbw⟩

set_option maxRecDepth 100000 in
set_option maxHeartbeats 800000 in
theorem refCount_any (A : Option Addr) (n c : Nat) (l : List Rn) (w : World) (hl : l.length = n) (hn : n ≤ 1000) (h : Lies w w.heap.size A (flat encRn l)) :
    Calls Try.prog 54 #[.slice A n c] w fun e w' => e = .returned (.int .u64 (cntN l)) ∧ RowKit.Below w.heap.size w w' := by
  unfold cntN
  generalize hC : satC 0 (l.filter runB) = C
  have HL := Lib.hid hl
  have HC := Lib.hid hC
  clear hl hC
  go_enter Try.func54, Try.ntmps54
  go_wp2
  go_loopw [3, 4, 7] (fun s3 _ i wr => ∃ (k m : Nat), k ≤ n ∧ i = .int .i64 k ∧ s3 = .int .u64 m ∧ m ≤ 4611686018427387904 ∧ RowKit.Below w.heap.size w wr ∧ Hid (satC m ((l.drop k).filter runB) = C)) (fun _ _ i _ => n - (intOf i).toNat)
  case atStart => exact ⟨0, 0, Nat.zero_le _, rfl, rfl, by omega, RowKit.Below.refl _ _, HC⟩
  case round =>
    obtain ⟨k, m, hk, rfl, rfl, hm, hb, hS⟩ := hrel
    by_cases hlt : k < n
    · have hkl : k < l.length := by rw [HL.out]; exact hlt
      obtain ⟨bb, off, rfl, hbl, c0, c1, c2⟩ := (h.below hb).rn hkl
      have hbw : bb < wr.heap.size := Nat.lt_of_lt_of_le hbl hb.size
      rw [List.drop_eq_getElem_cons hkl, List.filter_cons] at hS
      have hcc := l[k].hc
      generalize l[k] = x at c0 c1 c2 hS hcc
      go_wp2_with fail
      refine (refRun_lit x _).mono ?_
      rintro e w1 ⟨rfl, hg1⟩
      have x2 := (hg1.below.cell (p := ⟨bb, _, none⟩) hbw).trans c2
      have x3 : w1.cell? ⟨bb, off + k * 3 + 2, none⟩ = some (.int .u64 (x.c : Int)) := x2
      have hb0 : RowKit.Below w.heap.size w w1 := hb.trans (hg1.below.mono hb.size)
      clear c0 c1 c2 hg1
      cases hrun : runB x with
      | false =>
        rw [hrun] at hS
        go_wp2
        go_roundw
        case rel => exact ⟨k + 1, m, by omega, by go_num, rfl, hm, hb0, by simpa using hS⟩
        case measure => simp [intOf]; omega
      | true =>
        rw [hrun, if_pos rfl] at hS
        have e1 : IntKind.u64.wrap (4611686018427387904 - (m : Int)) = ((4611686018427387904 - m : Nat) : Int) := by rw [IntKind.wrap_u64]; omega
        by_cases hg : 4611686018427387904 - m < x.c
        · have HS : Hid (C = 4611686018427387904) := by
            have := hS.out
            rw [satC, if_pos hg] at this
            exact this.symm
          have hz : ((4611686018427387904 - m : Nat) : Int) < (x.c : Int) := by omega
          generalize 4611686018427387904 - m = mm at e1 hz hg
          go_wp2
          go_ret
          rw [HS.out]
          exact ⟨rfl, hb0⟩
        · have HS : Hid (satC (m + x.c) ((l.drop (k + 1)).filter runB) = C) := by
            have := hS.out
            rw [satC, if_neg hg] at this
            exact this
          have e2 : IntKind.u64.wrap ((m : Int) + (x.c : Int)) = ((m + x.c : Nat) : Int) := by rw [IntKind.wrap_u64]; omega
          have hmm : m + x.c ≤ 4611686018427387904 := by omega
          have hz : ¬ ((4611686018427387904 - m : Nat) : Int) < (x.c : Int) := by omega
          generalize 4611686018427387904 - m = mm at e1 hz hg
          generalize m + x.c = mx at e2 HS hmm
          go_wp2
          go_roundw
          case rel => exact ⟨k + 1, mx, by omega, by go_num, rfl, hmm, hb0, HS⟩
          case measure => simp [intOf]; omega
    · have HS : Hid (C = m) := by
        have := hS.out
        rw [List.drop_eq_nil_of_le (by rw [HL.out]; omega)] at this
        exact this.symm
      go_wp2
      go_ret
      rw [HS.out]
      exact ⟨rfl, hb⟩

theorem eqlId (x y : Id) (w : World) : (binOp .eql 28 (.agg #[.int .u8 (x.f : Int), .int .u64 (x.s : Int)]) (.agg #[.int .u8 (y.f : Int), .int .u64 (y.s : Int)])).run Try.prog w = .ok (.bool (decide (x = y))) w := by
  have u5 := Try.underlying5
  have a5 := Try.isAgg5
  have z5 := Try.sizeOf5
  have u22 := Try.underlying26
  have a22 := Try.isAgg26
  have z22 := Try.sizeOf26
  have hS : Try.prog.underlying 28 = some (.struct (Try.prog.fieldsOf 28)) := by kernel_rfl
  have hp : Try.prog.stoodInHeld 28 = false := by kernel_rfl
  have he : decide (x = y) = (decide (x.f = y.f) && decide (x.s = y.s)) := by
    rw [Bool.eq_iff_iff]
    simp only [Bool.and_eq_true, decide_eq_true_eq]
    exact ⟨fun h => by subst h; exact ⟨rfl, rfl⟩, fun h => Id.same h.1 h.2⟩
  rw [he, run_eql_struct, show (10000 : Nat) = 9999 + 1 from rfl, run_equalIn_agg w 9999 28 _ _ hS hp]
  simp only [Program.fieldsOf, Try.underlying28]
  go_simp
  by_cases h1 : x.f = y.f <;> by_cases h2 : x.s = y.s <;> simp [h1, h2] <;> omega

theorem eqlRn (x y : Rn) (w : World) : (binOp .eql 102 (.agg #[.int .u8 (x.f : Int), .int .u64 (x.a : Int), .int .u64 (x.c : Int)]) (.agg #[.int .u8 (y.f : Int), .int .u64 (y.a : Int), .int .u64 (y.c : Int)])).run Try.prog w = .ok (.bool (decide (x = y))) w := by
  have u5 := Try.underlying5
  have a5 := Try.isAgg5
  have z5 := Try.sizeOf5
  have u22 := Try.underlying26
  have a22 := Try.isAgg26
  have z22 := Try.sizeOf26
  have hS : Try.prog.underlying 102 = some (.struct (Try.prog.fieldsOf 102)) := by kernel_rfl
  have hp : Try.prog.stoodInHeld 102 = false := by kernel_rfl
  have he : decide (x = y) = (decide (x.f = y.f) && decide (x.a = y.a) && decide (x.c = y.c)) := by
    rw [Bool.eq_iff_iff]
    simp only [Bool.and_eq_true, decide_eq_true_eq]
    exact ⟨fun h => by subst h; exact ⟨⟨rfl, rfl⟩, rfl⟩, fun h => Rn.same h.1.1 h.1.2 h.2⟩
  rw [he, run_eql_struct, show (10000 : Nat) = 9999 + 1 from rfl, run_equalIn_agg w 9999 102 _ _ hS hp]
  simp only [Program.fieldsOf, Try.underlying102]
  go_simp
  by_cases h1 : x.f = y.f <;> by_cases h2 : x.a = y.a <;> by_cases h3 : x.c = y.c <;> simp [h1, h2, h3] <;> omega

theorem neqId (x y : Id) (w : World) : (binOp .neq 28 (.agg #[.int .u8 (x.f : Int), .int .u64 (x.s : Int)]) (.agg #[.int .u8 (y.f : Int), .int .u64 (y.s : Int)])).run Try.prog w = .ok (.bool (!decide (x = y))) w := by
  have u5 := Try.underlying5
  have a5 := Try.isAgg5
  have z5 := Try.sizeOf5
  have u22 := Try.underlying26
  have a22 := Try.isAgg26
  have z22 := Try.sizeOf26
  have hS : Try.prog.underlying 28 = some (.struct (Try.prog.fieldsOf 28)) := by kernel_rfl
  have hp : Try.prog.stoodInHeld 28 = false := by kernel_rfl
  have he : decide (x = y) = (decide (x.f = y.f) && decide (x.s = y.s)) := by
    rw [Bool.eq_iff_iff]
    simp only [Bool.and_eq_true, decide_eq_true_eq]
    exact ⟨fun h => by subst h; exact ⟨rfl, rfl⟩, fun h => Id.same h.1 h.2⟩
  rw [he, run_neq_struct, show (10000 : Nat) = 9999 + 1 from rfl, run_equalIn_agg w 9999 28 _ _ hS hp]
  simp only [Program.fieldsOf, Try.underlying28]
  go_simp
  by_cases h1 : x.f = y.f <;> by_cases h2 : x.s = y.s <;> simp [h1, h2] <;> omega

theorem neqRn (x y : Rn) (w : World) : (binOp .neq 102 (.agg #[.int .u8 (x.f : Int), .int .u64 (x.a : Int), .int .u64 (x.c : Int)]) (.agg #[.int .u8 (y.f : Int), .int .u64 (y.a : Int), .int .u64 (y.c : Int)])).run Try.prog w = .ok (.bool (!decide (x = y))) w := by
  have u5 := Try.underlying5
  have a5 := Try.isAgg5
  have z5 := Try.sizeOf5
  have u22 := Try.underlying26
  have a22 := Try.isAgg26
  have z22 := Try.sizeOf26
  have hS : Try.prog.underlying 102 = some (.struct (Try.prog.fieldsOf 102)) := by kernel_rfl
  have hp : Try.prog.stoodInHeld 102 = false := by kernel_rfl
  have he : decide (x = y) = (decide (x.f = y.f) && decide (x.a = y.a) && decide (x.c = y.c)) := by
    rw [Bool.eq_iff_iff]
    simp only [Bool.and_eq_true, decide_eq_true_eq]
    exact ⟨fun h => by subst h; exact ⟨⟨rfl, rfl⟩, rfl⟩, fun h => Rn.same h.1.1 h.1.2 h.2⟩
  rw [he, run_neq_struct, show (10000 : Nat) = 9999 + 1 from rfl, run_equalIn_agg w 9999 102 _ _ hS hp]
  simp only [Program.fieldsOf, Try.underlying102]
  go_simp
  by_cases h1 : x.f = y.f <;> by_cases h2 : x.a = y.a <;> by_cases h3 : x.c = y.c <;> simp [h1, h2, h3] <;> omega

theorem guardId : Try.prog.eqGuardType Try.prog.depth 28 = false := by kernel_rfl

theorem guardRn : Try.prog.eqGuardType Try.prog.depth 102 = false := by kernel_rfl

theorem belowN {B n : Nat} {a w : World} (h : RowKit.Below B a w) : RowKit.Below B a (w.drewN n) := ⟨h.os, h.tape, h.output, h.size, h.block⟩

set_option maxRecDepth 100000 in
set_option maxHeartbeats 800000 in
theorem sameRns_any (A1 A2 : Option Addr) (n1 c1 n2 c2 : Nat) (xs ys : List Rn) (w : World) (hl1 : xs.length = n1) (hl2 : ys.length = n2) (hn : n1 ≤ 1000000) (h1 : Lies w w.heap.size A1 (flat encRn xs)) (h2 : Lies w w.heap.size A2 (flat encRn ys)) :
    Calls Try.prog 27 #[.slice A1 n1 c1, .slice A2 n2 c2] w fun e w' => e = .returned (.bool (decide (xs = ys))) ∧ RowKit.Below w.heap.size w w' := by
  have mixed := mixedOrders
  have hGd := guardRn
  generalize hD : decide (xs = ys) = D
  have HD := Lib.hid hD
  have HL1 := Lib.hid hl1
  have HL2 := Lib.hid hl2
  clear hD hl1 hl2
  by_cases hnn : n1 = n2
  · subst hnn
    go_enter Try.func27, Try.ntmps27
    go_wp2
    go_loopw [5, 13] (fun _ i wr => ∃ k : Nat, k ≤ n1 ∧ i = .int .i64 k ∧ RowKit.Below w.heap.size w wr ∧ Hid (xs.take k = ys.take k)) (fun _ i _ => n1 - (intOf i).toNat)
    case atStart => exact ⟨0, Nat.zero_le _, rfl, RowKit.Below.refl _ _, by show xs.take 0 = ys.take 0; simp⟩
    case round =>
      obtain ⟨k, hk, rfl, hb, hT⟩ := hrel
      by_cases hlt : k < n1
      · have hk1 : k < xs.length := by rw [HL1.out]; exact hlt
        have hk2 : k < ys.length := by rw [HL2.out]; exact hlt
        obtain ⟨b1, o1, rfl, hl1, x0, x1, x2⟩ := (h1.below hb).rn hk1
        obtain ⟨b2, o2, rfl, hl2, y0, y1, y2⟩ := (h2.below hb).rn hk2
        have hw1 : b1 < wr.heap.size := Nat.lt_of_lt_of_le hl1 hb.size
        have hw2 : b2 < wr.heap.size := Nat.lt_of_lt_of_le hl2 hb.size
        have hE := neqRn xs[k] ys[k]
        have K1 : Hid (decide (xs[k] = ys[k]) = false → D = false) := fun he => by
          rw [← HD.out]
          refine decide_eq_false fun h => ?_
          subst h
          exact absurd rfl (of_decide_eq_false he)
        have K2 : Hid (decide (xs[k] = ys[k]) = true → xs.take (k + 1) = ys.take (k + 1)) := fun he => by
          rw [List.take_succ_eq_append_getElem hk1, List.take_succ_eq_append_getElem hk2, hT.out, of_decide_eq_true he]
        generalize xs[k] = x at x0 x1 x2 K1 K2 hE
        generalize ys[k] = y at y0 y1 y2 K1 K2 hE
        have p0 := later_cell (w0 := wr) (b := b1) hw1 x0
        have p1 := later_cell (w0 := wr) (b := b1) hw1 x1
        have p2 := later_cell (w0 := wr) (b := b1) hw1 x2
        have q0 := later_cell (w0 := wr) (b := b2) hw2 y0
        have q1 := later_cell (w0 := wr) (b := b2) hw2 y1
        have q2 := later_cell (w0 := wr) (b := b2) hw2 y2
        clear x0 x1 x2 y0 y1 y2
        generalize decide (x = y) = de at hE K1 K2
        cases de with
        | false =>
          have HR : Hid (D = false) := K1.out rfl
          go_wp2_with fail
          refine wp_region_later mixed (by kernel_rfl) ?_
          repeat (go_big_quiet_step (fail))
          refine wpQuiet_nil ?_
          intro _ hw'
          obtain ⟨p, rfl⟩ := hw'
          have hbp : RowKit.Below w.heap.size w p.w := hb.trans (p.hb.mono hb.size)
          go_wp2
          go_ret
          rw [HR.out]
          exact ⟨rfl, hbp⟩
        | true =>
          have HN : Hid (xs.take (k + 1) = ys.take (k + 1)) := K2.out rfl
          go_wp2_with fail
          refine wp_region_later mixed (by kernel_rfl) ?_
          repeat (go_big_quiet_step (fail))
          refine wpQuiet_nil ?_
          intro _ hw'
          obtain ⟨p, rfl⟩ := hw'
          have hbp : RowKit.Below w.heap.size w p.w := hb.trans (p.hb.mono hb.size)
          go_wp2
          go_roundw
          case rel => exact ⟨k + 1, by omega, by go_num, hbp, HN⟩
          case measure => simp [intOf]; omega
      · have HR : Hid (D = true) := by
          show D = true
          rw [← HD.out]
          refine decide_eq_true ?_
          have := hT.out
          rwa [List.take_of_length_le (by rw [HL1.out]; omega), List.take_of_length_le (by rw [HL2.out]; omega)] at this
        go_wp2
        go_ret
        rw [HR.out]
        exact ⟨rfl, hb⟩
  · have HR : Hid (D = false) := by
      show D = false
      rw [← HD.out]
      refine decide_eq_false fun h => hnn ?_
      rw [← HL1.out, ← HL2.out, h]
    have hz : ((n1 : Int) == (n2 : Int)) = false := beq_eq_false_iff_ne.2 (by omega)
    go_enter Try.func27, Try.ntmps27
    go_wp2
    go_ret
    rw [HR.out]
    exact ⟨rfl, RowKit.Below.refl _ _⟩

end Go.Proofs.Ytbfjfidodpgohaa

/- The walks of a reader's small methods: New, silent, Err, Left, End. -/
namespace Go.Proofs.Ytbfjfidodpgohaa
open Go.RowKit

/-- Block g is a reader, made by the call, before which l stands (the slice A, n, c), and whose error is er; all of it lies from base on and below hi. -/
def RdAt (w : World) (base hi g : Nat) (l : List UInt8) (er : Nat) (A : Option Addr) (n c : Nat) : Prop :=
  w.heap[g]? = some (.cells #[.slice A n c, .int .i64 er] 87 (0, 0)) ∧ base ≤ g ∧ Hid (l.length = n) ∧ n ≤ c ∧ c ≤ maxLen ∧ Lies w hi A (bvs l) ∧
    (∀ a, A = some a → a.block ≠ g ∧ base ≤ a.block) ∧ g < hi ∧ hi ≤ w.heap.size
def Rd (w : World) (base hi g : Nat) (l : List UInt8) (er : Nat) : Prop := ∃ A n c, RdAt w base hi g l er A n c

section
variable {w w' : World} {base hi g er n c : Nat} {l : List UInt8} {A : Option Addr}
theorem RdAt.c0 (h : RdAt w base hi g l er A n c) : w.cell? ⟨g, 0, none⟩ = some (.slice A n c) := cell_of_row w g 0 _ _ _ h.1
theorem RdAt.c1 (h : RdAt w base hi g l er A n c) : w.cell? ⟨g, 1, none⟩ = some (.int .i64 er) := cell_of_row w g 1 _ _ _ h.1
theorem RdAt.fr (h : RdAt w base hi g l er A n c) (i : Nat) : w.frozen? ⟨g, i, none⟩ = false := by
  simp [World.frozen?, h.1]
theorem RdAt.lt (h : RdAt w base hi g l er A n c) : g < hi := h.2.2.2.2.2.2.2.1
theorem RdAt.hiLe (h : RdAt w base hi g l er A n c) : hi ≤ w.heap.size := h.2.2.2.2.2.2.2.2
theorem RdAt.lies (h : RdAt w base hi g l er A n c) : Lies w hi A (bvs l) := h.2.2.2.2.2.1

/-- A later world in which nothing below hi has turned. -/
theorem RdAt.below (h : RdAt w base hi g l er A n c) (hb : Below hi w w') : RdAt w' base hi g l er A n c := by
  have hlt := h.lt
  have hhi := h.hiLe
  obtain ⟨h1, h2, h3, h4, h5, h6, h7, h8, h9⟩ := h
  exact ⟨(hb.block g hlt).trans h1, h2, h3, h4, h5, h6.below hb, h7, h8, Nat.le_trans h9 hb.size⟩
theorem Rd.below (h : Rd w base hi g l er) (hb : Below hi w w') : Rd w' base hi g l er := by
  obtain ⟨A, n, c, h⟩ := h
  exact ⟨A, n, c, h.below hb⟩
theorem Rd.lt (h : Rd w base hi g l er) : base ≤ g ∧ g < hi ∧ hi ≤ w.heap.size := by
  obtain ⟨A, n, c, h⟩ := h
  exact ⟨h.2.1, h.lt, h.hiLe⟩
end

def Made (w : World) (l : List UInt8) (e : Ending) (w' : World) : Prop :=
  ∃ g, e = .returned (.pointer (some ⟨g, 0, none⟩)) ∧ Rd w' w.heap.size w'.heap.size g l 0 ∧ Below w.heap.size w w'

theorem made_of {w w1 : World} {l : List UInt8} {A : Option Addr} {n c : Nat} (hn : Hid ((bvs l).length = n)) (h1 : n ≤ c) (h2 : c ≤ maxLen) (ho : w1.ownsRow w.heap.size 5 1 (.slice A n c) n (bvs l)) (hb : Below w.heap.size w w1) :
    Made w l (.returned (.pointer (some ⟨w1.heap.size, 0, none⟩))) (w1.alloc (.cells #[.slice A n c, .int .i64 0] 87)) := by
  refine ⟨w1.heap.size, rfl, ⟨A, n, c, heap_alloc_new w1 _, hb.size, ?_, h1, h2, ?_, ?_, by simp, Nat.le_refl _⟩, hb.alloc hb.size _⟩
  · have := hn.out; rw [bvs_length] at this; exact this
  · exact ((Lies.of_own ho).below ((Below.refl _ _).alloc (Nat.le_refl _) _)).more (by simp)
  · rintro a rfl
    obtain ⟨h3, h4⟩ := ho.lt a.block rfl
    exact ⟨by omega, h3⟩

set_option maxHeartbeats 400000 in
theorem new_any (A : Option Addr) (n c : Nat) (l : List UInt8) (w : World) (hl : l.length = n) (hn : n ≤ 1000000) (h : Lies w w.heap.size A (bvs l)) :
    Calls Try.prog 19 #[.slice A n c] w (Made w l) := by
  have HL := Lib.hid hl
  clear hl
  go_enter Try.func19, Try.ntmps19
  go_wp2_with (go_at_call 47; refine (fresh_any A _ n c l _ HL.out (by omega) h).mono ?_; rintro e w1 ⟨A1, n1, c1, rfl, hn1, hc1, hc2, ho1, hb1⟩)
  go_ret
  exact made_of hn1 hc1 hc2 ho1 hb1

theorem silent_nil (w : World) : Calls Try.prog 56 #[.pointer none] w fun e w' => e = .returned (.bool true) ∧ w = w' := by
  go_enter Try.func56, Try.ntmps56
  go_wp2
  go_ret
  exact ⟨rfl, rfl⟩

theorem silent_ok {w : World} {base hi g n c : Nat} {l : List UInt8} {A : Option Addr} (h : RdAt w base hi g l 0 A n c) : Calls Try.prog 56 #[.pointer (some ⟨g, 0, none⟩)] w fun e w' => e = .returned (.bool false) ∧ w = w' := by
  have h1 := h.c1
  go_enter Try.func56, Try.ntmps56
  go_wp2
  go_ret
  exact ⟨rfl, rfl⟩

theorem silent_bad {w : World} {base hi g n c er : Nat} {l : List UInt8} {A : Option Addr} (h : RdAt w base hi g l er A n c) (her : 0 < er) : Calls Try.prog 56 #[.pointer (some ⟨g, 0, none⟩)] w fun e w' => e = .returned (.bool true) ∧ w = w' := by
  have h1 := h.c1
  have h2 : ((er : Int) != 0) = true := by simp; omega
  go_enter Try.func56, Try.ntmps56
  go_wp2
  go_ret
  exact ⟨rfl, rfl⟩

theorem err_nil (w : World) : Calls Try.prog 45 #[.pointer none] w fun e w' => e = .returned (.int .i64 0) ∧ w = w' := by
  go_enter Try.func45, Try.ntmps45
  go_wp2
  go_ret
  exact ⟨rfl, rfl⟩

theorem err_any {w : World} {base hi g n c er : Nat} {l : List UInt8} {A : Option Addr} (h : RdAt w base hi g l er A n c) : Calls Try.prog 45 #[.pointer (some ⟨g, 0, none⟩)] w fun e w' => e = .returned (.int .i64 er) ∧ w = w' := by
  have h1 := h.c1
  go_enter Try.func45, Try.ntmps45
  go_wp2
  go_ret
  exact ⟨rfl, rfl⟩

theorem left_nil (w : World) : Calls Try.prog 46 #[.pointer none] w fun e w' => e = .returned (.int .i64 0) ∧ w = w' := by
  go_enter Try.func46, Try.ntmps46
  go_wp2
  go_ret
  exact ⟨rfl, rfl⟩

theorem left_any {w : World} {base hi g n c er : Nat} {l : List UInt8} {A : Option Addr} (h : RdAt w base hi g l er A n c) : Calls Try.prog 46 #[.pointer (some ⟨g, 0, none⟩)] w fun e w' => e = .returned (.int .i64 n) ∧ w = w' := by
  have h1 := h.c0
  go_enter Try.func46, Try.ntmps46
  go_wp2
  go_ret
  exact ⟨rfl, rfl⟩

theorem end_nil (w : World) : Calls Try.prog 21 #[.pointer none] w fun e w' => e = .returned (.int .i64 0) ∧ w = w' := by
  go_enter Try.func21, Try.ntmps21
  go_wp2
  go_ret
  exact ⟨rfl, rfl⟩

/-- End's answer. -/
def endOf (er n : Nat) : Nat := if er ≠ 0 then er else if 0 < n then 4 else 0

theorem end_any {w : World} {base hi g n c er : Nat} {l : List UInt8} {A : Option Addr} (h : RdAt w base hi g l er A n c) : Calls Try.prog 21 #[.pointer (some ⟨g, 0, none⟩)] w fun e w' => e = .returned (.int .i64 (endOf er n)) ∧ w = w' := by
  have h0 := h.c0
  have h1 := h.c1
  by_cases her : er = 0
  · subst her
    by_cases hn : 0 < n
    · go_enter Try.func21, Try.ntmps21
      go_wp2
      go_ret
      exact ⟨by simp [endOf, hn], rfl⟩
    · go_enter Try.func21, Try.ntmps21
      go_wp2
      go_ret
      exact ⟨by simp [endOf, hn], rfl⟩
  · have h2 : ((er : Int) != 0) = true := by simp; omega
    go_enter Try.func21, Try.ntmps21
    go_wp2
    go_ret
    exact ⟨by simp [endOf, her], rfl⟩

end Go.Proofs.Ytbfjfidodpgohaa

/- The walk of readNumber: the number at the front of bytes. -/
namespace Go.Proofs.Ytbfjfidodpgohaa
open Go.RowKit

/-- The number at the front of l, how many bytes it takes, and the error. -/
def rd (l : List UInt8) (most : Nat) : Nat × Nat × Nat :=
  match l with
  | [] => (0, 0, 2)
  | c :: t =>
    if 8 < c.toNat then (0, 0, 3)
    else if t.length < c.toNat then (0, 0, 2)
    else if 0 < c.toNat ∧ (t[c.toNat - 1]?.getD 0) = 0 then (0, 0, 3)
    else if most < val (t.take c.toNat) then (0, 0, 6)
    else (val (t.take c.toNat), 1 + c.toNat, 0)

/-- What readNumber answers, as values. -/
def rdVal (x : Nat × Nat × Nat) : Value := .tuple #[.int .u64 (x.1 : Int), .int .i64 (x.2.1 : Int), .int .i64 (x.2.2 : Int)]

set_option maxHeartbeats 400000 in
theorem readNumber_empty (A : Option Addr) (c most : Nat) (w : World) :
    Calls Try.prog 57 #[.slice A 0 c, .int .u64 most] w fun e w' => e = .returned (rdVal (rd [] most)) ∧ w = w' := by
  go_enter Try.func57, Try.ntmps57
  go_wp2
  go_ret3
  exact ⟨rfl, rfl⟩

set_option maxHeartbeats 400000 in
theorem readNumber_eight (b off n cap most : Nat) (c : UInt8) (t : List UInt8) (w : World) (hn : 0 < n) (hc : w.cell? ⟨b, off, none⟩ = some (bv c)) (h8 : 8 < c.toNat) :
    Calls Try.prog 57 #[.slice (some ⟨b, off, none⟩) n cap, .int .u64 most] w fun e w' => e = .returned (rdVal (rd (c :: t) most)) ∧ w = w' := by
  unfold bv at hc
  have hr : rd (c :: t) most = (0, 0, 3) := by simp [rd, h8]
  rw [hr]
  clear hr
  have h0 : ((n : Int) == 0) = false := by simp; omega
  go_enter Try.func57, Try.ntmps57
  go_wp2
  go_ret3
  exact ⟨rfl, rfl⟩

set_option maxHeartbeats 400000 in
theorem readNumber_short (b off n cap most : Nat) (c : UInt8) (t : List UInt8) (w : World) (hn : t.length + 1 = n) (hc : w.cell? ⟨b, off, none⟩ = some (bv c)) (h8 : ¬ 8 < c.toNat) (hs : t.length < c.toNat) :
    Calls Try.prog 57 #[.slice (some ⟨b, off, none⟩) n cap, .int .u64 most] w fun e w' => e = .returned (rdVal (rd (c :: t) most)) ∧ w = w' := by
  unfold bv at hc
  have hr : rd (c :: t) most = (0, 0, 2) := by simp [rd, h8, hs]
  rw [hr]
  clear hr
  have h0 : ((n : Int) == 0) = false := by simp; omega
  have h1 : n < 1 + c.toNat := by omega
  have h2 : 0 < n := by omega
  clear hn hs
  go_enter Try.func57, Try.ntmps57
  go_wp2
  go_ret3
  exact ⟨rfl, rfl⟩

set_option maxHeartbeats 400000 in
theorem readNumber_zero (b off n cap most : Nat) (c : UInt8) (t : List UInt8) (w : World) (hn : t.length + 1 = n) (hc : w.cell? ⟨b, off, none⟩ = some (bv c)) (h8 : ¬ 8 < c.toNat) (hs : ¬ t.length < c.toNat)
    (h0 : 0 < c.toNat) (hz : (t[c.toNat - 1]?.getD 0) = 0) (hl : w.cell? ⟨b, off + c.toNat, none⟩ = some (.int .u8 0)) :
    Calls Try.prog 57 #[.slice (some ⟨b, off, none⟩) n cap, .int .u64 most] w fun e w' => e = .returned (rdVal (rd (c :: t) most)) ∧ w = w' := by
  unfold bv at hc
  have hr : rd (c :: t) most = (0, 0, 3) := by simp [rd, h8, hs, hz, h0]
  rw [hr]
  clear hr hz
  have h3 : ((n : Int) == 0) = false := by simp; omega
  have h1 : ¬ n < 1 + c.toNat := by omega
  have h2 : 0 < n := by omega
  have h4 : c.toNat < n := by omega
  clear hn hs
  go_enter Try.func57, Try.ntmps57
  go_wp2
  go_ret3
  exact ⟨rfl, rfl⟩

theorem val_lt : ∀ l : List UInt8, val l < 256 ^ l.length
  | [] => by simp [val]
  | c :: t => by
    have h1 := val_lt t
    have h2 := c.toNat_lt
    rw [val, List.length_cons, Nat.pow_succ]
    omega

theorem val_drop (l : List UInt8) (k : Nat) (h : k < l.length) : val (l.drop k) = l[k].toNat + 256 * val (l.drop (k + 1)) := by
  rw [List.drop_eq_getElem_cons h]; rfl

theorem wrap_u64 (n : Int) : IntKind.u64.wrap n = n % 18446744073709551616 := by simp [IntKind.wrap, IntKind.bits, IntKind.signed]

theorem or_byte (V x : Nat) (h : V < 72057594037927936) (hx : x < 256) : bits .or .u64 (IntKind.u64.wrap ((V : Int) * 256)) (IntKind.u64.wrap (x : Int)) = ((x + 256 * V : Nat) : Int) := by
  have e1 : IntKind.u64.wrap ((V : Int) * 256) = ((V * 256 : Nat) : Int) := by rw [wrap_u64]; omega
  have e2 : IntKind.u64.wrap (x : Int) = (x : Int) := by rw [wrap_u64]; omega
  rw [e1, e2, u64_or_nat _ _ (by omega) (by omega), nat_join 8 _ _ (by omega) (by omega)]
  congr 1
  omega

theorem val_small (l : List UInt8) (h : l.length ≤ 7) : val l < 72057594037927936 := by
  have h1 := val_lt l
  have h2 : 256 ^ l.length ≤ 256 ^ 7 := Nat.pow_le_pow_right (by decide) h
  have h3 : (256 : Nat) ^ 7 = 72057594037927936 := by decide
  omega

theorem digit_step (t : List UInt8) (c k : Nat) (hc : c ≤ 8) (hct : c ≤ t.length) (hk : k ≤ c) (h0 : 0 < k) (hkt : k - 1 < t.length) :
    bits .or .u64 (IntKind.u64.wrap ((val (List.drop k (List.take c t)) : Int) * 256)) (IntKind.u64.wrap (t[k - 1].toNat : Int)) = ((val (List.drop (k - 1) (List.take c t)) : Nat) : Int) := by
  rw [or_byte _ _ (val_small _ (by simp; omega)) (t[k - 1]).toNat_lt, val_drop (List.take c t) (k - 1) (by simp; omega)]
  congr 1
  rw [List.getElem_take, show k - 1 + 1 = k by omega]

theorem rd_ok (c : UInt8) (t : List UInt8) (most : Nat) (h8 : ¬ 8 < c.toNat) (hs : ¬ t.length < c.toNat) (hz : ¬ (0 < c.toNat ∧ (t[c.toNat - 1]?.getD 0) = 0)) (hm : ¬ most < val (t.take c.toNat)) :
    rd (c :: t) most = (val (t.take c.toNat), 1 + c.toNat, 0) := by
  simp only [rd]; rw [if_neg h8, if_neg hs, if_neg hz, if_neg hm]
theorem rd_range (c : UInt8) (t : List UInt8) (most : Nat) (h8 : ¬ 8 < c.toNat) (hs : ¬ t.length < c.toNat) (hz : ¬ (0 < c.toNat ∧ (t[c.toNat - 1]?.getD 0) = 0)) (hm : most < val (t.take c.toNat)) :
    rd (c :: t) most = (0, 0, 6) := by
  simp only [rd]; rw [if_neg h8, if_neg hs, if_neg hz, if_pos hm]

set_option maxHeartbeats 400000 in
theorem readNumber_loop (b off n cap most : Nat) (c : UInt8) (t : List UInt8) (w : World) (hn : t.length + 1 = n) (hc : w.cell? ⟨b, off, none⟩ = some (bv c)) (h8 : ¬ 8 < c.toNat) (hs : ¬ t.length < c.toNat)
    (h0 : 0 < c.toNat) (z : UInt8) (hz : 0 < z.toNat) (hzt : t[c.toNat - 1]? = some z) (hcells : ∀ i, (h : i < t.length) → w.cell? ⟨b, off + (i + 1), none⟩ = some (bv t[i])) :
    Calls Try.prog 57 #[.slice (some ⟨b, off, none⟩) n cap, .int .u64 most] w fun e w' => e = .returned (rdVal (rd (c :: t) most)) ∧ w = w' := by
  unfold bv at hc hcells
  have HC := Lib.hid hcells
  have HN := Lib.hid hn
  have HZ := Lib.hid hzt
  have hl : w.cell? ⟨b, off + c.toNat, none⟩ = some (.int .u8 z.toNat) := by
    have h1 := hcells (c.toNat - 1) (by omega)
    have h2 : t[c.toNat - 1]'(by omega) = z := by rw [List.getElem?_eq_getElem (by omega)] at hzt; injection hzt
    rw [h2] at h1
    rw [← h1]; congr 2; omega
  have h3 : ((n : Int) == 0) = false := by simp; omega
  have h1 : ¬ n < 1 + c.toNat := by omega
  have h2 : 0 < n := by omega
  have h4 : c.toNat < n := by omega
  have h5 : ((z.toNat : Int) == 0) = false := by simp; omega
  have b1 : decide (8 < (c.toNat : Int)) = false := by simp; omega
  have b2 : decide ((n : Int) < 1 + (c.toNat : Int)) = false := by simp; omega
  clear hn hs hcells hzt
  go_enter Try.func57, Try.ntmps57
  go_wp2
  go_loop [4, 7] (fun m i => ∃ k : Nat, k ≤ c.toNat ∧ i = .int .i64 k ∧ m = .int .u64 (val ((t.take c.toNat).drop k))) (fun _ i => (intOf i).toNat)
  case atStart => exact ⟨c.toNat, Nat.le_refl _, by go_num, by rw [List.drop_of_length_le (by simp; omega)]; rfl⟩
  case round =>
    obtain ⟨k, hk, rfl, rfl⟩ := hrel
    by_cases hlt : 0 < k
    · have hx := HC.out (k - 1) (by have := HN.out; omega)
      rw [show k - 1 + 1 = k by omega] at hx
      go_wp2
      go_round
      case rel => exact ⟨k - 1, by omega, by go_num, congrArg _ (digit_step t c.toNat k (by omega) (by have := HN.out; omega) hk hlt (by have := HN.out; omega))⟩
      case measure => simp [intOf]; omega
    · have hk0 : k = 0 := by omega
      subst hk0
      have hs : ¬ t.length < c.toNat := by have := HN.out; omega
      have hnz : ¬ (0 < c.toNat ∧ (t[c.toNat - 1]?.getD 0) = 0) := by
        rw [HZ.out]
        rintro ⟨_, h⟩
        simp at h
        subst h
        simp at hz
      by_cases hm : most < val (t.take c.toNat)
      · have HR := Lib.hid (rd_range c t most h8 hs hnz hm)
        rw [List.drop_zero]
        go_wp2
        go_ret3
        exact ⟨by rw [HR.out]; rfl, rfl⟩
      · have HR := Lib.hid (rd_ok c t most h8 hs hnz hm)
        rw [List.drop_zero]
        go_wp2
        go_ret3
        exact ⟨by rw [HR.out]; rfl, rfl⟩

set_option maxHeartbeats 400000 in
theorem readNumber_none (b off n cap most : Nat) (t : List UInt8) (w : World) (hn : 0 < n) (hc : w.cell? ⟨b, off, none⟩ = some (.int .u8 0)) :
    Calls Try.prog 57 #[.slice (some ⟨b, off, none⟩) n cap, .int .u64 most] w fun e w' => e = .returned (rdVal (rd (0 :: t) most)) ∧ w = w' := by
  have hr : rd (0 :: t) most = (0, 1, 0) := by simp [rd, val]
  rw [hr]
  clear hr
  have h3 : ((n : Int) == 0) = false := by simp; omega
  go_enter Try.func57, Try.ntmps57
  go_wp2
  refine wp_loop_rounds 1 ?_
  rw [rounds_succ]
  go_wp2
  go_ret3
  exact ⟨rfl, rfl⟩

theorem readNumber_any (A : Option Addr) (B n cap most : Nat) (l : List UInt8) (w : World) (hl : l.length = n) (h : Lies w B A (bvs l)) :
    Calls Try.prog 57 #[.slice A n cap, .int .u64 most] w fun e w' => e = .returned (rdVal (rd l most)) ∧ w = w' := by
  rcases l with _ | ⟨c, t⟩
  · simp at hl; subst hl; exact readNumber_empty A cap most w
  · obtain ⟨b, off, rfl, hb, hc⟩ := h (by simp [bvs])
    have hc0 : w.cell? ⟨b, off, none⟩ = some (bv c) := hc 0 _ (by simp [bvs])
    have hct : ∀ i, (h : i < t.length) → w.cell? ⟨b, off + (i + 1), none⟩ = some (bv t[i]) := fun i hi => hc (i + 1) _ (by simp [bvs, hi])
    have hn : t.length + 1 = n := by simpa using hl
    by_cases h8 : 8 < c.toNat
    · exact readNumber_eight b off n cap most c t w (by omega) hc0 h8
    · by_cases hs : t.length < c.toNat
      · exact readNumber_short b off n cap most c t w hn hc0 h8 hs
      · by_cases h0 : 0 < c.toNat
        · have hi : c.toNat - 1 < t.length := by omega
          by_cases hz : t[c.toNat - 1] = 0
          · refine readNumber_zero b off n cap most c t w hn hc0 h8 hs h0 (by simp [hi, hz]) ?_
            have := hct _ hi
            rw [hz, show c.toNat - 1 + 1 = c.toNat by omega] at this
            exact this
          · refine readNumber_loop b off n cap most c t w hn hc0 h8 hs h0 t[c.toNat - 1] ?_ (List.getElem?_eq_getElem hi) hct
            rcases Nat.eq_zero_or_pos (t[c.toNat - 1]).toNat with h | h
            · exact absurd (UInt8.toNat_inj.1 (by simpa using h)) hz
            · exact h
        · have : c = 0 := UInt8.toNat_inj.1 (by simp; omega)
          subst this
          exact readNumber_none b off n cap most t w (by omega) hc0

end Go.Proofs.Ytbfjfidodpgohaa

/- The walk of a reader's Num. -/
namespace Go.Proofs.Ytbfjfidodpgohaa
open Go.RowKit

theorem rd_size {l : List UInt8} {most m s : Nat} (h : rd l most = (m, s, 0)) : 0 < s ∧ s ≤ l.length ∧ s ≤ 9 ∧ m ≤ most ∧ ∃ c t, l = c :: t ∧ s = 1 + c.toNat ∧ m = val (t.take c.toNat) ∧ ¬ (0 < c.toNat ∧ (t[c.toNat - 1]?.getD 0) = 0) := by
  rcases l with _ | ⟨c, t⟩
  · simp [rd] at h
  · simp only [rd] at h
    split at h
    · simp at h
    split at h
    · simp at h
    split at h
    · simp at h
    split at h
    · simp at h
    · simp only [Prod.mk.injEq, and_true] at h
      obtain ⟨rfl, rfl⟩ := h
      rename_i h1 h2 h3 h4
      exact ⟨by omega, by simp; omega, by omega, by omega, c, t, rfl, rfl, rfl, h3⟩

theorem rd_err (l : List UInt8) (most : Nat) : (rd l most).2.2 = 0 ∨ (rd l most = (0, 0, 2) ∨ rd l most = (0, 0, 3) ∨ rd l most = (0, 0, 6)) := by
  rcases l with _ | ⟨c, t⟩
  · simp [rd]
  · simp only [rd]
    split
    · simp
    split
    · simp
    split
    · simp
    split <;> simp

/-- A reader's next number, and what stands before it then. -/
def rnum (l : List UInt8) (er most : Nat) : Nat × List UInt8 × Nat :=
  if er ≠ 0 then (0, l, er) else if (rd l most).2.2 ≠ 0 then (0, l, (rd l most).2.2) else ((rd l most).1, l.drop (rd l most).2.1, 0)

/-- The call answered v, block g is now such a reader, and no other old block has turned. -/
def Took (w : World) (base hi g : Nat) (l : List UInt8) (er : Nat) (v : Value) (e : Ending) (w' : World) : Prop :=
  e = .returned v ∧ Rd w' base hi g l er ∧ w.grownBy w' (some g)

theorem num_nil (most : Int) (w : World) : Calls Try.prog 44 #[.pointer none, .int .u64 most] w fun e w' => e = .returned (.int .u64 0) ∧ w = w' := by
  go_enter Try.func44, Try.ntmps44
  go_wp2_with (go_at_call 56; refine (silent_nil _).mono ?_; rintro e w' ⟨rfl, rfl⟩)
  go_ret
  exact ⟨rfl, rfl⟩

theorem num_bad {w : World} {base hi g er n c : Nat} {l : List UInt8} {A : Option Addr} (most : Nat) (h : RdAt w base hi g l er A n c) (her : 0 < er) :
    Calls Try.prog 44 #[.pointer (some ⟨g, 0, none⟩), .int .u64 most] w fun e w' => e = .returned (.int .u64 0) ∧ w = w' := by
  go_enter Try.func44, Try.ntmps44
  go_wp2_with (go_at_call 56; refine (silent_bad h her).mono ?_; rintro e w' ⟨rfl, rfl⟩)
  go_ret
  exact ⟨rfl, rfl⟩

set_option maxHeartbeats 400000 in
theorem num_err {w : World} {base hi g n c : Nat} {l : List UInt8} {A : Option Addr} (most er : Nat) (h : RdAt w base hi g l 0 A n c) (her : rd l most = (0, 0, er)) (h0 : 0 < er) :
    Calls Try.prog 44 #[.pointer (some ⟨g, 0, none⟩), .int .u64 most] w fun e w' => e = .returned (.int .u64 0) ∧ w' = w.setCell ⟨g, 1, none⟩ (.int .i64 er) := by
  have hc0 := h.c0
  have hc1 := h.c1
  have hf := h.fr 1
  have HE := Lib.hid her
  have hne : ((er : Int) != 0) = true := by simp; omega
  clear her
  go_enter Try.func44, Try.ntmps44
  go_wp2_with (first
    | (go_at_call 56; refine (silent_ok h).mono ?_; rintro e w' ⟨rfl, rfl⟩)
    | (go_at_call 57; refine (readNumber_any A _ n c most l _ h.2.2.1.out h.lies).mono ?_; rintro e w' ⟨rfl, rfl⟩; rw [HE.out, rdVal]))
  go_ret
  exact ⟨rfl, rfl⟩

set_option maxHeartbeats 400000 in
theorem num_ok {w : World} {base hi g n c : Nat} {l : List UInt8} {b off : Nat} (most m s : Nat) (h : RdAt w base hi g l 0 (some ⟨b, off, none⟩) n c) (hr : rd l most = (m, s, 0)) :
    Calls Try.prog 44 #[.pointer (some ⟨g, 0, none⟩), .int .u64 most] w fun e w' => e = .returned (.int .u64 m) ∧ w' = w.setCell ⟨g, 0, none⟩ (.slice (if c = s then (some ⟨b, off, none⟩) else (some ⟨b, off + s, none⟩)) (n - s) (c - s)) := by
  have hc0 := h.c0
  have hc1 := h.c1
  have hf := h.fr 0
  obtain ⟨hs0, hs1, hs9, _⟩ := rd_size hr
  have hsn : s ≤ n := by have := h.2.2.1.out; omega
  have hnc : n ≤ c := h.2.2.2.1
  have HR := Lib.hid hr
  clear hr
  go_enter Try.func44, Try.ntmps44
  go_wp2_with (first
    | (go_at_call 56; refine (silent_ok h).mono ?_; rintro e w' ⟨rfl, rfl⟩)
    | (go_at_call 57; refine (readNumber_any _ _ n c most l _ h.2.2.1.out h.lies).mono ?_; rintro e w' ⟨rfl, rfl⟩; rw [HR.out, rdVal]))
  all_goals (go_ret; exact ⟨rfl, rfl⟩)

theorem Lies.kept {w w' : World} {B : Nat} {A : Option Addr} {xs : List Value} {row : Option Nat} (h : Lies w B A xs) (hg : w.grownBy w' row) (hB : B ≤ w.heap.size) (hne : ∀ a, A = some a → some a.block ≠ row) : Lies w' B A xs := fun hn => by
  obtain ⟨b, off, rfl, hlt, hc⟩ := h hn
  refine ⟨b, off, rfl, hlt, fun i u hu => ?_⟩
  rw [World.cell?_of_block (w := w) (hg.block b (by omega) (hne _ rfl))]
  exact hc i u hu

theorem grown_setCell (w : World) (g i : Nat) (u : Value) : w.grownBy (w.setCell ⟨g, i, none⟩ u) (some g) :=
  ⟨rfl, rfl, rfl, by simp [World.setCell], fun k _ hne => Below.heap_setCell w _ u k (by rintro rfl; exact hne rfl)⟩

theorem heap_setCell_row {w : World} {g : Nat} {cs : Array Value} {t : TypeId} (h : w.heap[g]? = some (.cells cs t (0, 0))) (i : Nat) (u : Value) :
    (w.setCell ⟨g, i, none⟩ u).heap[g]? = some (.cells (cs.setIfInBounds i u) t (0, 0)) := by
  simp [World.setCell, Array.getElem?_modify, h]

theorem RdAt.setErr {w : World} {base hi g n c e0 : Nat} {l : List UInt8} {A : Option Addr} (h : RdAt w base hi g l e0 A n c) (er : Nat) : RdAt (w.setCell ⟨g, 1, none⟩ (.int .i64 er)) base hi g l er A n c := by
  obtain ⟨h1, h2, h3, h4, h5, h6, h7, h8, h9⟩ := h
  refine ⟨heap_setCell_row h1 1 _, h2, h3, h4, h5, ?_, h7, h8, by simpa [World.setCell] using h9⟩
  exact h6.kept (grown_setCell w g 1 _) h9 (fun a ha e => (h7 a ha).1 (by injection e))

theorem lies_cut {w : World} {B b off s c : Nat} {l : List UInt8} (h : Lies w B (some ⟨b, off, none⟩) (bvs l)) (hc : l.length ≤ c) :
    Lies w B (if c = s then (some ⟨b, off, none⟩) else (some ⟨b, off + s, none⟩)) (bvs (l.drop s)) := fun hn => by
  have hlt : s < l.length := by
    rcases Nat.lt_or_ge s l.length with h1 | h1
    · exact h1
    · rw [List.drop_of_length_le h1] at hn; exact absurd rfl hn
  rw [if_neg (by omega)]
  obtain ⟨b', off', he, hb, hcell⟩ := h (by rintro h0; rw [← bvs_length, h0] at hlt; simp at hlt)
  obtain ⟨rfl, rfl⟩ : b = b' ∧ off = off' := by injection he with he; injection he with h1 h2; exact ⟨h1, h2⟩
  refine ⟨b, off + s, rfl, hb, fun i u hu => ?_⟩
  rw [Nat.add_assoc]
  refine hcell (s + i) u ?_
  rw [← hu]
  simp [bvs, List.getElem?_drop]

theorem RdAt.cut {w : World} {base hi g n c er b off : Nat} {l : List UInt8} (h : RdAt w base hi g l er (some ⟨b, off, none⟩) n c) (s : Nat) (hs : s ≤ n) :
    RdAt (w.setCell ⟨g, 0, none⟩ (.slice (if c = s then (some ⟨b, off, none⟩) else (some ⟨b, off + s, none⟩)) (n - s) (c - s))) base hi g (l.drop s) er (if c = s then (some ⟨b, off, none⟩) else (some ⟨b, off + s, none⟩)) (n - s) (c - s) := by
  obtain ⟨h1, h2, h3, h4, h5, h6, h7, hx, hy⟩ := h
  have hl : l.length = n := h3.out
  have hbl : ∀ a : Addr, (if c = s then (some (⟨b, off, none⟩ : Addr)) else (some ⟨b, off + s, none⟩)) = some a → a.block = b := by
    intro a ha
    split at ha <;> (injection ha with ha; rw [← ha])
  have h8 := h7 _ rfl
  refine ⟨heap_setCell_row h1 0 _, h2, ?_, by omega, by omega, ?_, (fun a ha => by rw [hbl a ha]; exact h8), hx, by simpa [World.setCell] using hy⟩
  · show (l.drop s).length = n - s
    rw [List.length_drop, hl]
  · exact (lies_cut h6 (by omega)).kept (grown_setCell w g 0 _) hy (fun a ha e => h8.1 (by rw [hbl a ha] at e; injection e))

theorem num_any {w : World} {base hi g er : Nat} {l : List UInt8} (most : Nat) (h : Rd w base hi g l er) :
    Calls Try.prog 44 #[.pointer (some ⟨g, 0, none⟩), .int .u64 most] w (Took w base hi g (rnum l er most).2.1 (rnum l er most).2.2 (.int .u64 ((rnum l er most).1 : Int))) := by
  obtain ⟨A, n, c, h⟩ := h
  by_cases her : er = 0
  · subst her
    rcases rd_err l most with h0 | h0
    · rcases hrd : rd l most with ⟨m, s, z⟩
      rw [hrd] at h0
      simp only at h0
      subst h0
      obtain ⟨_, hs1, _, _, c0, t, rfl, _⟩ := rd_size hrd
      obtain ⟨b, off, rfl, _⟩ := h.lies (by simp [bvs])
      have e : rnum (c0 :: t) 0 most = (m, (c0 :: t).drop s, 0) := by simp [rnum, hrd]
      rw [e]
      refine (num_ok most m s h hrd).mono ?_
      rintro e w' ⟨rfl, rfl⟩
      exact ⟨rfl, ⟨_, _, _, h.cut s (by have := h.2.2.1.out; omega)⟩, grown_setCell _ _ _ _⟩
    · have key : ∀ er, 0 < er → rd l most = (0, 0, er) → Calls Try.prog 44 #[.pointer (some ⟨g, 0, none⟩), .int .u64 most] w (Took w base hi g (rnum l 0 most).2.1 (rnum l 0 most).2.2 (.int .u64 ((rnum l 0 most).1 : Int))) := by
        intro er h1 h2
        have e : rnum l 0 most = (0, l, er) := by simp [rnum, h2]; omega
        rw [e]
        refine (num_err most er h h2 h1).mono ?_
        rintro e w' ⟨rfl, rfl⟩
        exact ⟨rfl, ⟨_, _, _, h.setErr er⟩, grown_setCell _ _ _ _⟩
      rcases h0 with h0 | h0 | h0
      · exact key 2 (by decide) h0
      · exact key 3 (by decide) h0
      · exact key 6 (by decide) h0
  · have e : rnum l er most = (0, l, er) := by simp [rnum, her]
    rw [e]
    refine (num_bad most h (by omega)).mono ?_
    rintro e w' ⟨rfl, rfl⟩
    exact ⟨rfl, ⟨A, n, c, h⟩, World.grownBy.refl _ _⟩

end Go.Proofs.Ytbfjfidodpgohaa

/- Plain facts: each number has one writing; what is put is read. No conditions beyond those that each theorem names. -/
namespace Go.Proofs.Ytbfjfidodpgohaa

theorem digs_val : ∀ l : List UInt8, (∀ x, l.getLast? = some x → x ≠ 0) → digs (val l) = l
  | [], _ => digs_zero
  | c :: t, h => by
    have hc := c.toNat_lt
    rcases t with _ | ⟨d, t⟩
    · have h1 : c ≠ 0 := h c rfl
      have h2 : 0 < c.toNat := by
        rcases Nat.eq_zero_or_pos c.toNat with h3 | h3
        · exact absurd (UInt8.toNat_inj.1 (by simpa using h3)) h1
        · exact h3
      simp only [val, Nat.mul_zero, Nat.add_zero]
      rw [digs_pos h2, Nat.mod_eq_of_lt hc, Nat.div_eq_of_lt hc, digs_zero]
      simp
    · have ih := digs_val (d :: t) (fun x hx => h x (by simpa using hx))
      have h2 : 0 < val (d :: t) := by
        rcases Nat.eq_zero_or_pos (val (d :: t)) with h3 | h3
        · rw [h3, digs_zero] at ih; cases ih
        · exact h3
      rw [val, digs_pos (by omega), show (c.toNat + 256 * val (d :: t)) % 256 = c.toNat by omega, show (c.toNat + 256 * val (d :: t)) / 256 = val (d :: t) by omega, ih]
      simp

theorem rd_enc {l : List UInt8} {most m s : Nat} (h : rd l most = (m, s, 0)) : l = enc m ++ l.drop s ∧ 0 < s ∧ s ≤ l.length ∧ m ≤ most := by
  obtain ⟨h1, h2, h3, h4, c, t, rfl, rfl, rfl, hz⟩ := rd_size h
  refine ⟨?_, h1, h2, h4⟩
  have hk : c.toNat ≤ t.length := by simp at h2; omega
  have hd : digs (val (t.take c.toNat)) = t.take c.toNat := by
    apply digs_val
    intro x hx hx0
    subst hx0
    rw [List.getLast?_eq_getElem?, List.length_take, Nat.min_eq_left hk] at hx
    rcases Nat.eq_zero_or_pos c.toNat with h0 | h0
    · rw [h0] at hx; simp at hx
    · rw [List.getElem?_take, if_pos (by omega)] at hx
      exact hz ⟨h0, by rw [hx]; rfl⟩
  rw [enc, hd, List.length_take, Nat.min_eq_left hk, Nat.add_comm 1, List.drop_succ_cons]
  simp

theorem getLast_digs (n : Nat) : ∀ x, (digs n).getLast? = some x → x ≠ 0 := by
  induction n using Nat.strongRecOn with
  | ind n ih =>
    intro x hx
    rcases Nat.eq_zero_or_pos n with h | h
    · subst h; rw [digs_zero] at hx; cases hx
    · rw [digs_pos h] at hx
      by_cases h0 : n / 256 = 0
      · rw [h0, digs_zero] at hx
        simp at hx
        subst hx
        intro he
        have := congrArg UInt8.toNat he
        simp at this
        omega
      · have hd := digs_pos (n := n / 256) (by omega)
        refine ih (n / 256) (by omega) x ?_
        rw [hd] at hx ⊢
        simpa using hx

/-- What is put is read. -/
theorem rd_put (n most : Nat) (t : List UInt8) (hn : n < 18446744073709551616) (hm : n ≤ most) : rd (enc n ++ t) most = (n, (enc n).length, 0) := by
  have h8 := digs_le8 hn
  have hk : (UInt8.ofNat (digs n).length).toNat = (digs n).length := by simp [UInt8.toNat_ofNat']; omega
  have htake : (digs n ++ t).take (digs n).length = digs n := by simp
  simp only [enc, List.cons_append, rd, hk]
  rw [if_neg (by omega), if_neg (by simp), if_neg, htake, val_digs, if_neg (by omega)]
  · simp; omega
  · rintro ⟨h0, h1⟩
    rw [List.getElem?_append_left (by omega), ← List.getLast?_eq_getElem?] at h1
    rcases hx : (digs n).getLast? with _ | x
    · rw [List.getLast?_eq_none_iff] at hx; rw [hx] at h0; simp at h0
    · rw [hx] at h1
      exact getLast_digs n x hx h1

theorem rnum_put (n most : Nat) (t : List UInt8) (hn : n < 18446744073709551616) (hm : n ≤ most) : rnum (enc n ++ t) 0 most = (n, t, 0) := by
  simp [rnum, rd_put n most t hn hm]

end Go.Proofs.Ytbfjfidodpgohaa
