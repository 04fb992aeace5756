/- Count (ident and the document), equality of ids and runs, the document's SameIDs and Same. -/
import Derived.Test.YtfkpffkickicmaaBtB
namespace Go.Proofs.Ytfkpffkickicmaa
open Go.RowKit Go.Sort

/-- How many ids runs have together, MaxSeq at most. -/
def satC : Nat → List Rn → Nat
  | n, [] => n
  | n, r :: t => if 4611686018427387904 - n < r.c then 4611686018427387904 else satC (n + r.c) t

def cntN (l : List Rn) : Nat := satC 0 (l.filter runB)

set_option maxHeartbeats 800000 in
theorem count_any (A : Option Addr) (n c : Nat) (l : List Rn) (w : World) (hl : l.length = n) (hn : n ≤ 1000) (h : Lies w w.heap.size A (flat encRn l)) :
    Calls Try.prog 27 #[.slice A n c] w fun e w' => e = .returned (.int .u64 (cntN l)) ∧ RowKit.Below w.heap.size w w' := by
  have hwo := withoutRns_any A n c l w hl hn h
  have hfl : (l.filter runB).length ≤ 1000 := by have := List.length_filter_le runB l; omega
  unfold cntN
  generalize l.filter runB = L at hwo hfl ⊢
  clear h hl
  go_enter Try.func27, Try.ntmps27
  go_wp2_with fail
  refine hwo.mono ?_
  rintro e w1 ⟨A1, n1, c1, rfl, hn1, _, _, hown, hb1⟩
  have hL := Lies.of_ownK hown
  have hn1m : n1 ≤ 1000 := by rw [← hn1.out]; exact hfl
  clear hwo hown hfl
  go_wp2
  go_loopw [3, 5, 9] (fun s3 _ i wr => ∃ (k m : Nat), k ≤ n1 ∧ i = .int .i64 k ∧ s3 = .int .u64 m ∧ m ≤ 4611686018427387904 ∧ RowKit.Below w1.heap.size w1 wr ∧ Hid (satC m (L.drop k) = satC 0 L)) (fun _ _ i _ => n1 - (intOf i).toNat)
  case atStart => exact ⟨0, 0, Nat.zero_le _, rfl, rfl, by omega, RowKit.Below.refl _ _, rfl⟩
  case round =>
    obtain ⟨k, m, hk, rfl, rfl, hm, hb, hS⟩ := hrel
    by_cases hlt : k < n1
    · have hkl : k < L.length := by rw [hn1.out]; exact hlt
      obtain ⟨bb, off, rfl, hbl, c0, c1', c2⟩ := (hL.below hb).rn hkl
      rw [List.drop_eq_getElem_cons hkl] at hS
      have hcc := L[k].hc
      generalize L[k] = x at c0 c1' c2 hS hcc
      have e1 : IntKind.u64.wrap (4611686018427387904 - (m : Int)) = ((4611686018427387904 - m : Nat) : Int) := by rw [IntKind.wrap_u64]; omega
      by_cases hg : 4611686018427387904 - m < x.c
      · have HS : Hid (satC 0 L = 4611686018427387904) := by
          have := hS.out
          rw [satC, if_pos hg] at this
          exact this.symm
        have hbw : RowKit.Below w.heap.size w wr := hb1.trans (hb.mono hb1.size)
        have hz : ((4611686018427387904 - m : Nat) : Int) < (x.c : Int) := by omega
        generalize 4611686018427387904 - m = mm at e1 hz hg
        go_wp2
        go_ret
        rw [HS.out]
        exact ⟨rfl, hbw.alloc hbw.size _⟩
      · have HS : Hid (satC (m + x.c) (L.drop (k + 1)) = satC 0 L) := by
          have := hS.out
          rw [satC, if_neg hg] at this
          exact this
        have e2 : IntKind.u64.wrap ((m : Int) + (x.c : Int)) = ((m + x.c : Nat) : Int) := by rw [IntKind.wrap_u64]; omega
        have hmm : m + x.c ≤ 4611686018427387904 := by omega
        have hz : ¬ ((4611686018427387904 - m : Nat) : Int) < (x.c : Int) := by omega
        generalize 4611686018427387904 - m = mm at e1 hz hg
        generalize m + x.c = mx at e2 HS hmm
        go_wp2
        go_roundw
        case rel => exact ⟨k + 1, mx, by omega, by go_num, rfl, hmm, hb.alloc hb.size _, HS⟩
        case measure => simp [intOf]; omega
    · have HS : Hid (satC 0 L = m) := by
        have := hS.out
        rw [List.drop_eq_nil_of_le (by rw [hn1.out]; omega)] at this
        exact this.symm
      have hbw : RowKit.Below w.heap.size w wr := hb1.trans (hb.mono hb1.size)
      go_wp2
      go_ret
      rw [HS.out]
      exact ⟨rfl, hbw⟩

set_option maxHeartbeats 800000 in
theorem refCount_any (A : Option Addr) (n c : Nat) (l : List Rn) (w : World) (hl : l.length = n) (hn : n ≤ 1000) (h : Lies w w.heap.size A (flat encRn l)) :
    Calls Try.prog 21 #[.slice A n c] w fun e w' => e = .returned (.int .u64 (cntN l)) ∧ RowKit.Below w.heap.size w w' := by
  unfold cntN
  generalize hC : satC 0 (l.filter runB) = C
  have HL := Lib.hid hl
  have HC := Lib.hid hC
  clear hl hC
  go_enter Try.func21, Try.ntmps21
  go_wp2
  go_loopw [3, 4, 7] (fun s3 _ i wr => ∃ (k m : Nat), k ≤ n ∧ i = .int .i64 k ∧ s3 = .int .u64 m ∧ m ≤ 4611686018427387904 ∧ RowKit.Below w.heap.size w wr ∧ Hid (satC m ((l.drop k).filter runB) = C)) (fun _ _ i _ => n - (intOf i).toNat)
  case atStart => exact ⟨0, 0, Nat.zero_le _, rfl, rfl, by omega, RowKit.Below.refl _ _, HC⟩
  case round =>
    obtain ⟨k, m, hk, rfl, rfl, hm, hb, hS⟩ := hrel
    by_cases hlt : k < n
    · have hkl : k < l.length := by rw [HL.out]; exact hlt
      obtain ⟨bb, off, rfl, hbl, c0, c1, c2⟩ := (h.below hb).rn hkl
      have hbw : bb < wr.heap.size := Nat.lt_of_lt_of_le hbl hb.size
      rw [List.drop_eq_getElem_cons hkl, List.filter_cons] at hS
      have hcc := l[k].hc
      generalize l[k] = x at c0 c1 c2 hS hcc
      go_wp2_with fail
      refine (refRun_lit x _).mono ?_
      rintro e w1 ⟨rfl, hg1⟩
      have x2 := (hg1.below.cell (p := ⟨bb, _, none⟩) hbw).trans c2
      have x3 : w1.cell? ⟨bb, off + k * 3 + 2, none⟩ = some (.int .u64 (x.c : Int)) := x2
      have hb0 : RowKit.Below w.heap.size w w1 := hb.trans (hg1.below.mono hb.size)
      clear c0 c1 c2 hg1
      cases hrun : runB x with
      | false =>
        rw [hrun] at hS
        go_wp2
        go_roundw
        case rel => exact ⟨k + 1, m, by omega, by go_num, rfl, hm, hb0, by simpa using hS⟩
        case measure => simp [intOf]; omega
      | true =>
        rw [hrun, if_pos rfl] at hS
        have e1 : IntKind.u64.wrap (4611686018427387904 - (m : Int)) = ((4611686018427387904 - m : Nat) : Int) := by rw [IntKind.wrap_u64]; omega
        by_cases hg : 4611686018427387904 - m < x.c
        · have HS : Hid (C = 4611686018427387904) := by
            have := hS.out
            rw [satC, if_pos hg] at this
            exact this.symm
          have hz : ((4611686018427387904 - m : Nat) : Int) < (x.c : Int) := by omega
          generalize 4611686018427387904 - m = mm at e1 hz hg
          go_wp2
          go_ret
          rw [HS.out]
          exact ⟨rfl, hb0⟩
        · have HS : Hid (satC (m + x.c) ((l.drop (k + 1)).filter runB) = C) := by
            have := hS.out
            rw [satC, if_neg hg] at this
            exact this
          have e2 : IntKind.u64.wrap ((m : Int) + (x.c : Int)) = ((m + x.c : Nat) : Int) := by rw [IntKind.wrap_u64]; omega
          have hmm : m + x.c ≤ 4611686018427387904 := by omega
          have hz : ¬ ((4611686018427387904 - m : Nat) : Int) < (x.c : Int) := by omega
          generalize 4611686018427387904 - m = mm at e1 hz hg
          generalize m + x.c = mx at e2 HS hmm
          go_wp2
          go_roundw
          case rel => exact ⟨k + 1, mx, by omega, by go_num, rfl, hmm, hb0, HS⟩
          case measure => simp [intOf]; omega
    · have HS : Hid (C = m) := by
        have := hS.out
        rw [List.drop_eq_nil_of_le (by rw [HL.out]; omega)] at this
        exact this.symm
      go_wp2
      go_ret
      rw [HS.out]
      exact ⟨rfl, hb⟩

theorem eqlId (x y : Id) (w : World) : (binOp .eql 46 (.agg #[.int .u8 (x.f : Int), .int .u64 (x.s : Int)]) (.agg #[.int .u8 (y.f : Int), .int .u64 (y.s : Int)])).run Try.prog w = .ok (.bool (decide (x = y))) w := by
  have u5 := Try.underlying5
  have a5 := Try.isAgg5
  have z5 := Try.sizeOf5
  have u22 := Try.underlying40
  have a22 := Try.isAgg40
  have z22 := Try.sizeOf40
  have hS : Try.prog.underlying 46 = some (.struct (Try.prog.fieldsOf 46)) := by kernel_rfl
  have hp : Try.prog.stoodInHeld 46 = false := by kernel_rfl
  have he : decide (x = y) = (decide (x.f = y.f) && decide (x.s = y.s)) := by
    rw [Bool.eq_iff_iff]
    simp only [Bool.and_eq_true, decide_eq_true_eq]
    exact ⟨fun h => by subst h; exact ⟨rfl, rfl⟩, fun h => Id.same h.1 h.2⟩
  rw [he, run_eql_struct, show (10000 : Nat) = 9999 + 1 from rfl, run_equalIn_agg w 9999 46 _ _ hS hp]
  simp only [Program.fieldsOf, Try.underlying46]
  go_simp
  by_cases h1 : x.f = y.f <;> by_cases h2 : x.s = y.s <;> simp [h1, h2] <;> omega

theorem eqlRn (x y : Rn) (w : World) : (binOp .eql 43 (.agg #[.int .u8 (x.f : Int), .int .u64 (x.a : Int), .int .u64 (x.c : Int)]) (.agg #[.int .u8 (y.f : Int), .int .u64 (y.a : Int), .int .u64 (y.c : Int)])).run Try.prog w = .ok (.bool (decide (x = y))) w := by
  have u5 := Try.underlying5
  have a5 := Try.isAgg5
  have z5 := Try.sizeOf5
  have u22 := Try.underlying40
  have a22 := Try.isAgg40
  have z22 := Try.sizeOf40
  have hS : Try.prog.underlying 43 = some (.struct (Try.prog.fieldsOf 43)) := by kernel_rfl
  have hp : Try.prog.stoodInHeld 43 = false := by kernel_rfl
  have he : decide (x = y) = (decide (x.f = y.f) && decide (x.a = y.a) && decide (x.c = y.c)) := by
    rw [Bool.eq_iff_iff]
    simp only [Bool.and_eq_true, decide_eq_true_eq]
    exact ⟨fun h => by subst h; exact ⟨⟨rfl, rfl⟩, rfl⟩, fun h => Rn.same h.1.1 h.1.2 h.2⟩
  rw [he, run_eql_struct, show (10000 : Nat) = 9999 + 1 from rfl, run_equalIn_agg w 9999 43 _ _ hS hp]
  simp only [Program.fieldsOf, Try.underlying43]
  go_simp
  by_cases h1 : x.f = y.f <;> by_cases h2 : x.a = y.a <;> by_cases h3 : x.c = y.c <;> simp [h1, h2, h3] <;> omega

theorem neqId (x y : Id) (w : World) : (binOp .neq 46 (.agg #[.int .u8 (x.f : Int), .int .u64 (x.s : Int)]) (.agg #[.int .u8 (y.f : Int), .int .u64 (y.s : Int)])).run Try.prog w = .ok (.bool (!decide (x = y))) w := by
  have u5 := Try.underlying5
  have a5 := Try.isAgg5
  have z5 := Try.sizeOf5
  have u22 := Try.underlying40
  have a22 := Try.isAgg40
  have z22 := Try.sizeOf40
  have hS : Try.prog.underlying 46 = some (.struct (Try.prog.fieldsOf 46)) := by kernel_rfl
  have hp : Try.prog.stoodInHeld 46 = false := by kernel_rfl
  have he : decide (x = y) = (decide (x.f = y.f) && decide (x.s = y.s)) := by
    rw [Bool.eq_iff_iff]
    simp only [Bool.and_eq_true, decide_eq_true_eq]
    exact ⟨fun h => by subst h; exact ⟨rfl, rfl⟩, fun h => Id.same h.1 h.2⟩
  rw [he, run_neq_struct, show (10000 : Nat) = 9999 + 1 from rfl, run_equalIn_agg w 9999 46 _ _ hS hp]
  simp only [Program.fieldsOf, Try.underlying46]
  go_simp
  by_cases h1 : x.f = y.f <;> by_cases h2 : x.s = y.s <;> simp [h1, h2] <;> omega

theorem neqRn (x y : Rn) (w : World) : (binOp .neq 43 (.agg #[.int .u8 (x.f : Int), .int .u64 (x.a : Int), .int .u64 (x.c : Int)]) (.agg #[.int .u8 (y.f : Int), .int .u64 (y.a : Int), .int .u64 (y.c : Int)])).run Try.prog w = .ok (.bool (!decide (x = y))) w := by
  have u5 := Try.underlying5
  have a5 := Try.isAgg5
  have z5 := Try.sizeOf5
  have u22 := Try.underlying40
  have a22 := Try.isAgg40
  have z22 := Try.sizeOf40
  have hS : Try.prog.underlying 43 = some (.struct (Try.prog.fieldsOf 43)) := by kernel_rfl
  have hp : Try.prog.stoodInHeld 43 = false := by kernel_rfl
  have he : decide (x = y) = (decide (x.f = y.f) && decide (x.a = y.a) && decide (x.c = y.c)) := by
    rw [Bool.eq_iff_iff]
    simp only [Bool.and_eq_true, decide_eq_true_eq]
    exact ⟨fun h => by subst h; exact ⟨⟨rfl, rfl⟩, rfl⟩, fun h => Rn.same h.1.1 h.1.2 h.2⟩
  rw [he, run_neq_struct, show (10000 : Nat) = 9999 + 1 from rfl, run_equalIn_agg w 9999 43 _ _ hS hp]
  simp only [Program.fieldsOf, Try.underlying43]
  go_simp
  by_cases h1 : x.f = y.f <;> by_cases h2 : x.a = y.a <;> by_cases h3 : x.c = y.c <;> simp [h1, h2, h3] <;> omega

theorem guardId : Try.prog.eqGuardType Try.prog.depth 46 = false := by kernel_rfl

theorem guardRn : Try.prog.eqGuardType Try.prog.depth 43 = false := by kernel_rfl

theorem belowN {B n : Nat} {a w : World} (h : RowKit.Below B a w) : RowKit.Below B a (w.drewN n) := ⟨h.os, h.tape, h.output, h.size, h.block⟩

set_option maxHeartbeats 800000 in
theorem sameIds_any (A1 A2 : Option Addr) (n1 c1 n2 c2 : Nat) (xs ys : List Id) (w : World) (hl1 : xs.length = n1) (hl2 : ys.length = n2) (hn : n1 ≤ 1000000) (h1 : Lies w w.heap.size A1 (flat encId xs)) (h2 : Lies w w.heap.size A2 (flat encId ys)) :
    Calls Try.prog 15 #[.slice A1 n1 c1, .slice A2 n2 c2] w fun e w' => e = .returned (.bool (decide (xs = ys))) ∧ RowKit.Below w.heap.size w w' := by
  have mixed := mixedOrders
  have hGd := guardId
  generalize hD : decide (xs = ys) = D
  have HD := Lib.hid hD
  have HL1 := Lib.hid hl1
  have HL2 := Lib.hid hl2
  clear hD hl1 hl2
  by_cases hnn : n1 = n2
  · subst hnn
    go_enter Try.func15, Try.ntmps15
    go_wp2
    go_loopw [5, 13] (fun _ i wr => ∃ k : Nat, k ≤ n1 ∧ i = .int .i64 k ∧ RowKit.Below w.heap.size w wr ∧ Hid (xs.take k = ys.take k)) (fun _ i _ => n1 - (intOf i).toNat)
    case atStart => exact ⟨0, Nat.zero_le _, rfl, RowKit.Below.refl _ _, by show xs.take 0 = ys.take 0; simp⟩
    case round =>
      obtain ⟨k, hk, rfl, hb, hT⟩ := hrel
      by_cases hlt : k < n1
      · have hk1 : k < xs.length := by rw [HL1.out]; exact hlt
        have hk2 : k < ys.length := by rw [HL2.out]; exact hlt
        obtain ⟨b1, o1, rfl, hl1, x0, x1⟩ := (h1.below hb).id hk1
        obtain ⟨b2, o2, rfl, hl2, y0, y1⟩ := (h2.below hb).id hk2
        have hw1 : b1 < wr.heap.size := Nat.lt_of_lt_of_le hl1 hb.size
        have hw2 : b2 < wr.heap.size := Nat.lt_of_lt_of_le hl2 hb.size
        have hE := neqId xs[k] ys[k]
        have K1 : Hid (decide (xs[k] = ys[k]) = false → D = false) := fun he => by
          rw [← HD.out]
          refine decide_eq_false fun h => ?_
          subst h
          exact absurd rfl (of_decide_eq_false he)
        have K2 : Hid (decide (xs[k] = ys[k]) = true → xs.take (k + 1) = ys.take (k + 1)) := fun he => by
          rw [List.take_succ_eq_append_getElem hk1, List.take_succ_eq_append_getElem hk2, hT.out, of_decide_eq_true he]
        generalize xs[k] = x at x0 x1 K1 K2 hE
        generalize ys[k] = y at y0 y1 K1 K2 hE
        have p0 := later_cell (w0 := wr) (b := b1) hw1 x0
        have p1 := later_cell (w0 := wr) (b := b1) hw1 x1
        have q0 := later_cell (w0 := wr) (b := b2) hw2 y0
        have q1 := later_cell (w0 := wr) (b := b2) hw2 y1
        clear x0 x1 y0 y1
        generalize decide (x = y) = de at hE K1 K2
        cases de with
        | false =>
          have HR : Hid (D = false) := K1.out rfl
          go_wp2_with fail
          refine wp_region_later mixed (by kernel_rfl) ?_
          repeat (go_big_quiet_step (fail))
          refine wpQuiet_nil ?_
          intro _ hw'
          obtain ⟨p, rfl⟩ := hw'
          have hbp : RowKit.Below w.heap.size w p.w := hb.trans (p.hb.mono hb.size)
          go_wp2
          go_ret
          rw [HR.out]
          exact ⟨rfl, hbp⟩
        | true =>
          have HN : Hid (xs.take (k + 1) = ys.take (k + 1)) := K2.out rfl
          go_wp2_with fail
          refine wp_region_later mixed (by kernel_rfl) ?_
          repeat (go_big_quiet_step (fail))
          refine wpQuiet_nil ?_
          intro _ hw'
          obtain ⟨p, rfl⟩ := hw'
          have hbp : RowKit.Below w.heap.size w p.w := hb.trans (p.hb.mono hb.size)
          go_wp2
          go_roundw
          case rel => exact ⟨k + 1, by omega, by go_num, hbp, HN⟩
          case measure => simp [intOf]; omega
      · have HR : Hid (D = true) := by
          show D = true
          rw [← HD.out]
          refine decide_eq_true ?_
          have := hT.out
          rwa [List.take_of_length_le (by rw [HL1.out]; omega), List.take_of_length_le (by rw [HL2.out]; omega)] at this
        go_wp2
        go_ret
        rw [HR.out]
        exact ⟨rfl, hb⟩
  · have HR : Hid (D = false) := by
      show D = false
      rw [← HD.out]
      refine decide_eq_false fun h => hnn ?_
      rw [← HL1.out, ← HL2.out, h]
    have hz : ((n1 : Int) == (n2 : Int)) = false := beq_eq_false_iff_ne.2 (by omega)
    go_enter Try.func15, Try.ntmps15
    go_wp2
    go_ret
    rw [HR.out]
    exact ⟨rfl, RowKit.Below.refl _ _⟩

set_option maxHeartbeats 800000 in
theorem sameRns_any (A1 A2 : Option Addr) (n1 c1 n2 c2 : Nat) (xs ys : List Rn) (w : World) (hl1 : xs.length = n1) (hl2 : ys.length = n2) (hn : n1 ≤ 1000000) (h1 : Lies w w.heap.size A1 (flat encRn xs)) (h2 : Lies w w.heap.size A2 (flat encRn ys)) :
    Calls Try.prog 18 #[.slice A1 n1 c1, .slice A2 n2 c2] w fun e w' => e = .returned (.bool (decide (xs = ys))) ∧ RowKit.Below w.heap.size w w' := by
  have mixed := mixedOrders
  have hGd := guardRn
  generalize hD : decide (xs = ys) = D
  have HD := Lib.hid hD
  have HL1 := Lib.hid hl1
  have HL2 := Lib.hid hl2
  clear hD hl1 hl2
  by_cases hnn : n1 = n2
  · subst hnn
    go_enter Try.func18, Try.ntmps18
    go_wp2
    go_loopw [5, 13] (fun _ i wr => ∃ k : Nat, k ≤ n1 ∧ i = .int .i64 k ∧ RowKit.Below w.heap.size w wr ∧ Hid (xs.take k = ys.take k)) (fun _ i _ => n1 - (intOf i).toNat)
    case atStart => exact ⟨0, Nat.zero_le _, rfl, RowKit.Below.refl _ _, by show xs.take 0 = ys.take 0; simp⟩
    case round =>
      obtain ⟨k, hk, rfl, hb, hT⟩ := hrel
      by_cases hlt : k < n1
      · have hk1 : k < xs.length := by rw [HL1.out]; exact hlt
        have hk2 : k < ys.length := by rw [HL2.out]; exact hlt
        obtain ⟨b1, o1, rfl, hl1, x0, x1, x2⟩ := (h1.below hb).rn hk1
        obtain ⟨b2, o2, rfl, hl2, y0, y1, y2⟩ := (h2.below hb).rn hk2
        have hw1 : b1 < wr.heap.size := Nat.lt_of_lt_of_le hl1 hb.size
        have hw2 : b2 < wr.heap.size := Nat.lt_of_lt_of_le hl2 hb.size
        have hE := neqRn xs[k] ys[k]
        have K1 : Hid (decide (xs[k] = ys[k]) = false → D = false) := fun he => by
          rw [← HD.out]
          refine decide_eq_false fun h => ?_
          subst h
          exact absurd rfl (of_decide_eq_false he)
        have K2 : Hid (decide (xs[k] = ys[k]) = true → xs.take (k + 1) = ys.take (k + 1)) := fun he => by
          rw [List.take_succ_eq_append_getElem hk1, List.take_succ_eq_append_getElem hk2, hT.out, of_decide_eq_true he]
        generalize xs[k] = x at x0 x1 x2 K1 K2 hE
        generalize ys[k] = y at y0 y1 y2 K1 K2 hE
        have p0 := later_cell (w0 := wr) (b := b1) hw1 x0
        have p1 := later_cell (w0 := wr) (b := b1) hw1 x1
        have p2 := later_cell (w0 := wr) (b := b1) hw1 x2
        have q0 := later_cell (w0 := wr) (b := b2) hw2 y0
        have q1 := later_cell (w0 := wr) (b := b2) hw2 y1
        have q2 := later_cell (w0 := wr) (b := b2) hw2 y2
        clear x0 x1 x2 y0 y1 y2
        generalize decide (x = y) = de at hE K1 K2
        cases de with
        | false =>
          have HR : Hid (D = false) := K1.out rfl
          go_wp2_with fail
          refine wp_region_later mixed (by kernel_rfl) ?_
          repeat (go_big_quiet_step (fail))
          refine wpQuiet_nil ?_
          intro _ hw'
          obtain ⟨p, rfl⟩ := hw'
          have hbp : RowKit.Below w.heap.size w p.w := hb.trans (p.hb.mono hb.size)
          go_wp2
          go_ret
          rw [HR.out]
          exact ⟨rfl, hbp⟩
        | true =>
          have HN : Hid (xs.take (k + 1) = ys.take (k + 1)) := K2.out rfl
          go_wp2_with fail
          refine wp_region_later mixed (by kernel_rfl) ?_
          repeat (go_big_quiet_step (fail))
          refine wpQuiet_nil ?_
          intro _ hw'
          obtain ⟨p, rfl⟩ := hw'
          have hbp : RowKit.Below w.heap.size w p.w := hb.trans (p.hb.mono hb.size)
          go_wp2
          go_roundw
          case rel => exact ⟨k + 1, by omega, by go_num, hbp, HN⟩
          case measure => simp [intOf]; omega
      · have HR : Hid (D = true) := by
          show D = true
          rw [← HD.out]
          refine decide_eq_true ?_
          have := hT.out
          rwa [List.take_of_length_le (by rw [HL1.out]; omega), List.take_of_length_le (by rw [HL2.out]; omega)] at this
        go_wp2
        go_ret
        rw [HR.out]
        exact ⟨rfl, hb⟩
  · have HR : Hid (D = false) := by
      show D = false
      rw [← HD.out]
      refine decide_eq_false fun h => hnn ?_
      rw [← HL1.out, ← HL2.out, h]
    have hz : ((n1 : Int) == (n2 : Int)) = false := beq_eq_false_iff_ne.2 (by omega)
    go_enter Try.func18, Try.ntmps18
    go_wp2
    go_ret
    rw [HR.out]
    exact ⟨rfl, RowKit.Below.refl _ _⟩

end Go.Proofs.Ytfkpffkickicmaa
