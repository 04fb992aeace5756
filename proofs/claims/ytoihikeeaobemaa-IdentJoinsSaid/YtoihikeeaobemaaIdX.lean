/- A region that leaves its order open, whose operations only read, and whose calls leave what was there: walked once; and the document's rows of runs. -/
import Derived.Test.YtoihikeeaobemaaIdP
namespace Go.Proofs.Ytoihikeeaobemaa
open Go.RowKit Go.Sort

/-- A world in which all that lay in w0 lies unturned. -/
structure Later (w0 : World) where
  w : World
  hb : RowKit.Below w0.heap.size w0 w

instance (w0 : World) : Nonempty (Later w0) := ⟨⟨w0, RowKit.Below.refl _ _⟩⟩

theorem wp_region_later {P : Program} {id : Nat} {Q : Exit → Act → World → Prop} {a : Act} {w0 : World} {l : List Oper} (hm : P.follows .mixedOrders = true) (hB : Region.lexB .any l.toArray = true)
    (h : wpQuiet P l.toArray (fun w' => ∃ p : Later w0, w' = p.w) (fun a' => ∀ w', (∃ p : Later w0, w' = p.w) → Q .normal a' w') l a) : (Code.region id l.toArray true).wp P Q a w0 :=
  wp_region_quiet (C := fun w' => ∃ p : Later w0, w' = p.w) hm hB ⟨⟨_, (RowKit.Below.refl _ _).drew⟩, rfl⟩ (by simpa using h)

theorem later_of {P : Program} {f : FuncId} {args : Array Value} {w0 : World} {p : Later w0} {v : Value} (h : Calls P f args p.w fun e w' => e = .returned v ∧ RowKit.Below p.w.heap.size p.w w') : Calls P f args p.w fun e w'' => e = .returned v ∧ ∃ q : Later w0, w'' = q.w :=
  h.mono fun _ w' ⟨he, hb⟩ => ⟨he, ⟨w', p.hb.trans (hb.mono p.hb.size)⟩, rfl⟩

theorem later_grew {P : Program} {f : FuncId} {args : Array Value} {w0 : World} {p : Later w0} {v : Value} (h : Calls P f args p.w fun e w' => e = .returned v ∧ Grew p.w w') : Calls P f args p.w fun e w'' => e = .returned v ∧ ∃ q : Later w0, w'' = q.w :=
  later_of (h.mono fun _ _ ⟨he, hg⟩ => ⟨he, hg.below⟩)

theorem later_cell {w0 : World} {b o : Nat} {v : Value} (hb : b < w0.heap.size) (h : w0.cell? ⟨b, o, none⟩ = some v) (p : Later w0) : p.w.cell? ⟨b, o, none⟩ = some v :=
  (p.hb.cell (p := ⟨b, o, none⟩) hb).trans h

/-! ### Runs that are rows -/
def sepP (r x : Rn) : Prop := r.f < x.f ∨ (r.f = x.f ∧ r.a + r.c < x.a)

def RowsTo (l : List Rn) (k : Nat) : Prop := ∀ i, i < k → ∀ h : i < l.length, runB l[i] = true ∧ (0 < i → sepP (l[i - 1]'(by omega)) l[i])
def RowsP (l : List Rn) : Prop := RowsTo l l.length

open Classical in
noncomputable def rowsB (l : List Rn) : Bool := decide (RowsP l)

theorem rowsB_iff (l : List Rn) : rowsB l = true ↔ RowsP l := by unfold rowsB; simp
theorem rowsB_true {l : List Rn} (h : RowsP l) : rowsB l = true := (rowsB_iff l).2 h
theorem rowsB_false {l : List Rn} (h : ¬ RowsP l) : rowsB l = false := by rw [Bool.eq_false_iff, Ne, rowsB_iff]; exact h

theorem RowsTo.zero (l : List Rn) : RowsTo l 0 := fun _ h => absurd h (by omega)
theorem RowsTo.next {l : List Rn} {k : Nat} (h : RowsTo l k) (hk : k < l.length) (h1 : runB l[k] = true) (h2 : ∀ hp : 0 < k, sepP (l[k - 1]'(by omega)) l[k]) : RowsTo l (k + 1) := fun i hi hl => by
  by_cases e : i = k
  · subst e; exact ⟨h1, h2⟩
  · exact h i (by omega) hl
theorem rows_not_run {l : List Rn} {k : Nat} (hk : k < l.length) (h1 : runB l[k] = false) : ¬ RowsP l := fun h => by
  have := (h k hk hk).1
  rw [h1] at this
  cases this
theorem rows_not_sep {l : List Rn} {k : Nat} (hk : k < l.length) (hp : 0 < k) (h1 : ¬ sepP (l[k - 1]'(by omega)) l[k]) : ¬ RowsP l := fun h => h1 ((h k hk hk).2 hp)

theorem apart_sep {r x : Rn} (h : runB r = true) : apartB r x = true ↔ sepP r x := by
  obtain ⟨h1, h2⟩ := nextI_is h
  unfold apartB sepP
  rw [ltB_iff, h1, h2]
  rfl

theorem run_lit (r : Rn) (W : World) : Calls Try.prog 13 #[.agg #[.int .u8 (r.f : Int), .int .u64 (r.a : Int), .int .u64 (r.c : Int)]] W fun e w' => e = .returned (.bool (runB r)) ∧ Grew W w' := run_any r W
theorem refRun_lit (r : Rn) (W : World) : Calls Try.prog 14 #[.agg #[.int .u8 (r.f : Int), .int .u64 (r.a : Int), .int .u64 (r.c : Int)]] W fun e w' => e = .returned (.bool (runB r)) ∧ Grew W w' := refRun_any r W
theorem refLast_lit (r : Rn) (W : World) : Calls Try.prog 30 #[.agg #[.int .u8 (r.f : Int), .int .u64 (r.a : Int), .int .u64 (r.c : Int)]] W fun e w' => e = .returned (.int .u64 (lastN r)) ∧ Grew W w' := refLast_any r W
theorem apart_lit (r x : Rn) (W : World) : Calls Try.prog 29 #[.agg #[.int .u8 (r.f : Int), .int .u64 (r.a : Int), .int .u64 (r.c : Int)], .agg #[.int .u8 (x.f : Int), .int .u64 (x.a : Int), .int .u64 (x.c : Int)]] W fun e w' => e = .returned (.bool (apartB r x)) ∧ Grew W w' := apart_any r x W

set_option maxHeartbeats 1600000 in
theorem rows_any (A : Option Addr) (n c : Nat) (l : List Rn) (w : World) (hl : l.length = n) (hn : n ≤ 1000) (h : Lies w w.heap.size A (flat encRn l)) :
    Calls Try.prog 15 #[.slice A n c] w fun e w' => e = .returned (.bool (rowsB l)) ∧ RowKit.Below w.heap.size w w' := by
  have mixed := mixedOrders
  have HL := Lib.hid hl
  clear hl
  go_enter Try.func15, Try.ntmps15
  go_wp2
  go_loopw [3, 4, 7] (fun _ _ i wr => ∃ k : Nat, k ≤ n ∧ i = .int .i64 k ∧ RowKit.Below w.heap.size w wr ∧ Hid (RowsTo l k)) (fun _ _ i _ => n - (intOf i).toNat)
  case atStart => exact ⟨0, Nat.zero_le _, rfl, RowKit.Below.refl _ _, RowsTo.zero l⟩
  case round =>
    obtain ⟨k, hk, rfl, hb, hK⟩ := hrel
    by_cases hlt : k < n
    · have hkl : k < l.length := by rw [HL.out]; exact hlt
      obtain ⟨bb, off, rfl, hbl, c0, c1, c2⟩ := (h.below hb).rn hkl
      have hbw : bb < wr.heap.size := Nat.lt_of_lt_of_le hbl hb.size
      by_cases hkp : 0 < k
      · obtain ⟨q, rfl⟩ : ∃ q, k = q + 1 := ⟨k - 1, by omega⟩
        have hql : q < l.length := by omega
        obtain ⟨b2, off2, he2, _, d0, d1, d2⟩ := (h.below hb).rn hql
        obtain ⟨rfl, rfl⟩ : bb = b2 ∧ off = off2 := by injection he2 with he2; injection he2 with e1 e2; exact ⟨e1, e2⟩
        have hqr : runB l[q] = true := (hK.out q (by omega) hql).1
        have hsep := apart_sep (x := l[q + 1]) hqr
        have K1 : Hid (runB l[q + 1] = false → rowsB l = false) := fun h1 => rowsB_false (rows_not_run hkl h1)
        have K2 : Hid (runB l[q + 1] = true → apartB l[q] l[q + 1] = false → rowsB l = false) := fun _ h2 => rowsB_false (rows_not_sep hkl (by omega) (fun h => by have := hsep.2 h; rw [h2] at this; cases this))
        have K3 : Hid (runB l[q + 1] = true → apartB l[q] l[q + 1] = true → RowsTo l (q + 1 + 1)) := fun h1 h2 => hK.out.next hkl h1 (fun _ => hsep.1 h2)
        clear hqr hsep
        generalize l[q + 1] = x at c0 c1 c2 K1 K2 K3
        generalize l[q] = r at d0 d1 d2 K2 K3
        have ewq : IntKind.i64.wrap (q : Int) = (q : Int) := by rw [IntKind.wrap_i64]; omega
        have hz1 : (0 : Int) < (q : Int) + 1 := by omega
        have hz2 : (q : Int) < (n : Int) := by omega
        have hz3 : (q : Int) + 1 < (n : Int) := by omega
        have hz4 : (0 : Int) ≤ (q : Int) + 1 := by omega
        have ez : ((q : Int) + 1).toNat = q + 1 := by omega
        clear he2
        go_wp2_with fail
        generalize hw0 : World.alloc wr _ = w0
        obtain ⟨hs0, hG, hcc⟩ := box1 wr w0 _ _ hw0
        have x0 := later_cell (w0 := w0) (b := wr.heap.size) (by omega) (hcc 0 _ rfl)
        have x1 := later_cell (w0 := w0) (b := wr.heap.size) (by omega) (hcc 1 _ rfl)
        have x2 := later_cell (w0 := w0) (b := wr.heap.size) (by omega) (hcc 2 _ rfl)
        have y0 := later_cell (w0 := w0) (b := bb) (by omega) ((hG.below.cell (p := ⟨bb, _, none⟩) hbw).trans d0)
        have y1 := later_cell (w0 := w0) (b := bb) (by omega) ((hG.below.cell (p := ⟨bb, _, none⟩) hbw).trans d1)
        have y2 := later_cell (w0 := w0) (b := bb) (by omega) ((hG.below.cell (p := ⟨bb, _, none⟩) hbw).trans d2)
        have hb0 : RowKit.Below w.heap.size w w0 := hb.trans (hG.below.mono hb.size)
        clear hcc hw0 hs0 hG c0 c1 c2 d0 d1 d2
        cases hrun : runB x with
        | false =>
          have HR : Hid (rowsB l = false) := K1.out hrun
          refine wp_region_later mixed (by kernel_rfl) ?_
          repeat (go_big_quiet_step (first | (go_at_call 13; exact later_grew (run_lit _ _)) | (go_at_call 29; exact later_grew (apart_lit _ _ _))))
          refine wpQuiet_nil ?_
          intro _ hw'
          obtain ⟨p, rfl⟩ := hw'
          have hbp : RowKit.Below w.heap.size w p.w := hb0.trans (p.hb.mono hb0.size)
          go_wp2
          go_ret
          rw [HR.out]
          exact ⟨rfl, hbp⟩
        | true =>
          cases hap : apartB r x with
          | false =>
            have HR : Hid (rowsB l = false) := K2.out hrun hap
            refine wp_region_later mixed (by kernel_rfl) ?_
            repeat (go_big_quiet_step (first | (go_at_call 13; exact later_grew (run_lit _ _)) | (go_at_call 29; exact later_grew (apart_lit _ _ _))))
            refine wpQuiet_nil ?_
            intro _ hw'
            obtain ⟨p, rfl⟩ := hw'
            have hbp : RowKit.Below w.heap.size w p.w := hb0.trans (p.hb.mono hb0.size)
            go_wp2
            go_ret
            rw [HR.out]
            exact ⟨rfl, hbp⟩
          | true =>
            have HN : Hid (RowsTo l (q + 1 + 1)) := K3.out hrun hap
            refine wp_region_later mixed (by kernel_rfl) ?_
            repeat (go_big_quiet_step (first | (go_at_call 13; exact later_grew (run_lit _ _)) | (go_at_call 29; exact later_grew (apart_lit _ _ _))))
            refine wpQuiet_nil ?_
            intro _ hw'
            obtain ⟨p, rfl⟩ := hw'
            have hbp : RowKit.Below w.heap.size w p.w := hb0.trans (p.hb.mono hb0.size)
            go_wp2
            go_roundw
            case rel => exact ⟨q + 1 + 1, by omega, by go_num, hbp, HN⟩
            case measure => simp [intOf]; omega
      · have hk0 : k = 0 := by omega
        subst hk0
        have K1 : Hid (runB l[0] = false → rowsB l = false) := fun h1 => rowsB_false (rows_not_run hkl h1)
        have K3 : Hid (runB l[0] = true → RowsTo l (0 + 1)) := fun h1 => hK.out.next hkl h1 (fun h => absurd h (by omega))
        simp only [Nat.zero_mul, Nat.add_zero] at c0 c1 c2
        generalize l[0] = x at c0 c1 c2 K1 K3
        go_wp2_with fail
        generalize hw0 : World.alloc wr _ = w0
        obtain ⟨hs0, hG, hcc⟩ := box1 wr w0 _ _ hw0
        have x0 := later_cell (w0 := w0) (b := wr.heap.size) (by omega) (hcc 0 _ rfl)
        have x1 := later_cell (w0 := w0) (b := wr.heap.size) (by omega) (hcc 1 _ rfl)
        have x2 := later_cell (w0 := w0) (b := wr.heap.size) (by omega) (hcc 2 _ rfl)
        have hb0 : RowKit.Below w.heap.size w w0 := hb.trans (hG.below.mono hb.size)
        clear hcc hw0 hs0 hG c0 c1 c2
        cases hrun : runB x with
        | false =>
          have HR : Hid (rowsB l = false) := K1.out hrun
          refine wp_region_later mixed (by kernel_rfl) ?_
          repeat (go_big_quiet_step (first | (go_at_call 13; exact later_grew (run_lit _ _)) | (go_at_call 29; exact later_grew (apart_lit _ _ _))))
          refine wpQuiet_nil ?_
          intro _ hw'
          obtain ⟨p, rfl⟩ := hw'
          have hbp : RowKit.Below w.heap.size w p.w := hb0.trans (p.hb.mono hb0.size)
          go_wp2
          go_ret
          rw [HR.out]
          exact ⟨rfl, hbp⟩
        | true =>
          have HN : Hid (RowsTo l (0 + 1)) := K3.out hrun
          refine wp_region_later mixed (by kernel_rfl) ?_
          repeat (go_big_quiet_step (first | (go_at_call 13; exact later_grew (run_lit _ _)) | (go_at_call 29; exact later_grew (apart_lit _ _ _))))
          refine wpQuiet_nil ?_
          intro _ hw'
          obtain ⟨p, rfl⟩ := hw'
          have hbp : RowKit.Below w.heap.size w p.w := hb0.trans (p.hb.mono hb0.size)
          go_wp2
          go_roundw
          case rel => exact ⟨0 + 1, by omega, by go_num, hbp, HN⟩
          case measure => simp [intOf]; omega
    · have HR : Hid (rowsB l = true) := rowsB_true (by have : k = l.length := by rw [HL.out]; omega
                                                       rw [this] at hK; exact hK.out)
      go_wp2
      go_ret
      rw [HR.out]
      exact ⟨rfl, hb⟩

end Go.Proofs.Ytoihikeeaobemaa
