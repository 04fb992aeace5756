/- Ids and runs: Grew, Later, Run, Last (picked). -/
import Derived.Test.YtbfjfidodpgohaaT01
import Derived.Shelf.SlSortCmp.QuietGrown
import Derived.Deep.RegionWith
import Derived.Deep.QuietTactic
import Derived.BigQuiet
import Derived.Shelf.SlicesE.Clone
import Derived.Shelf.SlicesQ.IndexFunc

namespace Go.Proofs.Ytbfjfidodpgohaa
open Go.RowKit Go.Sort

/-- The world has only grown: draws, and blocks behind the others. -/
def Grew (w w' : World) : Prop := ∃ q os, w' = grow (w.drewN q) os

section
variable {w w1 w2 : World}
theorem Grew.refl (w : World) : Grew w w := ⟨0, #[], by rw [grow_empty]; rfl⟩
theorem Grew.alloc (h : Grew w w1) (o : Obj) : Grew w (w1.alloc o) := by
  obtain ⟨q, os, rfl⟩ := h
  exact ⟨q, os ++ #[o], by rw [alloc_eq_grow, grow_grow]⟩
theorem Grew.drewN (h : Grew w w1) (n : Nat) : Grew w (w1.drewN n) := by
  obtain ⟨q, os, rfl⟩ := h
  exact ⟨q + n, os, by show grow ((w.drewN q).drewN n) os = _; rw [World.drewN_drewN]⟩
theorem Grew.grown (h : Grew w w1) (n : Nat) (os : Array Obj) : Grew w (grow (w1.drewN n) os) := by
  obtain ⟨q, os', rfl⟩ := h
  exact ⟨q + n, os' ++ os, by show grow (grow ((w.drewN q).drewN n) os') os = _; rw [grow_grow, World.drewN_drewN]⟩
theorem Grew.trans (h : Grew w w1) (h' : Grew w1 w2) : Grew w w2 := by
  obtain ⟨n, os, rfl⟩ := h'
  exact h.grown n os
theorem Grew.size (h : Grew w w1) : w.heap.size ≤ w1.heap.size := by
  obtain ⟨q, os, rfl⟩ := h
  simp
theorem Grew.setCell (h : Grew w w1) (b o : Nat) (u : Value) (hb : w.heap.size ≤ b) : Grew w (w1.setCell ⟨b, o, none⟩ u) := by
  obtain ⟨q, os, rfl⟩ := h
  rw [setCell_eq, mapBlock_grow_new _ _ _ _ (by simpa using hb)]
  exact ⟨q, _, rfl⟩
theorem Grew.below (h : Grew w w1) : Below w.heap.size w w1 := by
  obtain ⟨q, os, rfl⟩ := h
  exact ⟨rfl, rfl, rfl, by simp, fun k hk => by rw [heap_grow_old _ _ (by simpa using hk)]; rfl⟩
end

theorem box2 (W w0 : World) (c1 c2 : Array Value) (t1 t2 : TypeId) (h : (W.alloc (.cells c1 t1)).alloc (.cells c2 t2) = w0) : w0.heap.size = W.heap.size + 1 + 1 ∧ Grew W w0 ∧
    (∀ j u, c1[j]? = some u → w0.cell? ⟨W.heap.size, j, none⟩ = some u) ∧ (∀ j u, c2[j]? = some u → w0.cell? ⟨W.heap.size + 1, j, none⟩ = some u) := by
  subst h
  refine ⟨by simp, ((Grew.refl W).alloc _).alloc _, fun j u hu => ?_, fun j u hu => ?_⟩
  · have h1 : ((W.alloc (.cells c1 t1)).alloc (.cells c2 t2)).heap[W.heap.size]? = some (.cells c1 t1 (0, 0)) := by
      rw [Below.heap_alloc _ _ _ (by simp)]
      exact heap_alloc_new W _
    rw [cell_of_row _ _ _ _ _ _ h1]; exact hu
  · have h1 := heap_alloc_new (W.alloc (.cells c1 t1)) (.cells c2 t2 (0, 0))
    have h2 := cell_of_row _ _ j _ _ _ h1
    rw [show (W.alloc (.cells c1 t1)).heap.size = W.heap.size + 1 by simp] at h2
    rw [h2]; exact hu

def mayB (x : Id) : Bool := decide (x.f < 64) && decide (1 ≤ x.s) && decide (x.s ≤ 4611686018427387904)

def runB (r : Rn) : Bool := decide (r.f < 64) && decide (1 ≤ r.a) && decide (r.a ≤ 4611686018427387904) && decide (1 ≤ r.c) && decide (r.c - 1 ≤ 4611686018427387904 - r.a)

def firstI (r : Rn) : Id := ⟨r.f, r.a, r.hf, r.ha⟩

theorem ret_bool {a b : Bool} (h : a = b) : Ending.returned (.bool a) = Ending.returned (.bool b) := by rw [h]

theorem alloc2_new (W : World) (a b : Obj) : ((W.alloc a).alloc b).heap[W.heap.size + 1]? = some b := by
  have := heap_alloc_new (W.alloc a) b
  rwa [show (W.alloc a).heap.size = W.heap.size + 1 by simp] at this

theorem mixedOrders : Try.prog.follows .mixedOrders = true := by kernel_rfl

theorem rn_grown {w : World} {b : Nat} {r : Rn} (hb : b < w.heap.size) (h0 : w.cell? ⟨b, 0, none⟩ = some (.int .u8 (r.f : Int))) (h1 : w.cell? ⟨b, 1, none⟩ = some (.int .u64 (r.a : Int))) (h2 : w.cell? ⟨b, 2, none⟩ = some (.int .u64 (r.c : Int))) :
    (∀ n os, (grow (w.drewN n) os).cell? ⟨b, 0, none⟩ = some (.int .u8 (r.f : Int))) ∧ (∀ n os, (grow (w.drewN n) os).cell? ⟨b, 1, none⟩ = some (.int .u64 (r.a : Int))) ∧ (∀ n os, (grow (w.drewN n) os).cell? ⟨b, 2, none⟩ = some (.int .u64 (r.c : Int))) :=
  ⟨fun n os => cell_grown hb h0 n os, fun n os => cell_grown hb h1 n os, fun n os => cell_grown hb h2 n os⟩

theorem id_grown {w : World} {b : Nat} {x : Id} (hb : b < w.heap.size) (h0 : w.cell? ⟨b, 0, none⟩ = some (.int .u8 (x.f : Int))) (h1 : w.cell? ⟨b, 1, none⟩ = some (.int .u64 (x.s : Int))) :
    (∀ n os, (grow (w.drewN n) os).cell? ⟨b, 0, none⟩ = some (.int .u8 (x.f : Int))) ∧ (∀ n os, (grow (w.drewN n) os).cell? ⟨b, 1, none⟩ = some (.int .u64 (x.s : Int))) :=
  ⟨fun n os => cell_grown hb h0 n os, fun n os => cell_grown hb h1 n os⟩

theorem box1 (W w0 : World) (c1 : Array Value) (t1 : TypeId) (h : W.alloc (.cells c1 t1) = w0) : w0.heap.size = W.heap.size + 1 ∧ Grew W w0 ∧ (∀ j u, c1[j]? = some u → w0.cell? ⟨W.heap.size, j, none⟩ = some u) := by
  subst h
  refine ⟨by simp, (Grew.refl W).alloc _, fun j u hu => ?_⟩
  rw [cell_of_row _ _ _ _ _ _ (heap_alloc_new W _)]; exact hu

set_option maxRecDepth 100000 in
theorem firstID_any (r : Rn) (W : World) : Calls Try.prog 111 #[valRn r] W fun e w' => e = .returned (valId (firstI r)) ∧ Grew W w' := by
  unfold valRn
  go_enter Try.func111, Try.ntmps111
  go_wp2
  refine bodyPost_ret (results_cell_row rfl _ _ _ _ _ _ _ rfl (alloc2_new W _ _) Try.underlying28 rfl (by kernel_rfl)) rfl ?_
  exact ⟨rfl, ((Grew.refl W).alloc _).alloc _⟩

set_option maxRecDepth 100000 in
theorem may_any (x : Id) (n : Int) (W : World) (hn : -9223372036854775808 ≤ n ∧ n ≤ 9223372036854775807) : Calls Try.prog 101 #[valId x, .int .i64 n] W fun e w' => e = .returned (.bool (decide ((x.f : Int) < n) && mayB x)) ∧ Grew W w' := by
  unfold valId mayB
  have h1 := x.hf
  have h2 := x.hs
  generalize x.f = f at h1 ⊢
  generalize x.s = s at h2 ⊢
  go_enter Try.func101, Try.ntmps101
  go_wp2
  all_goals
    go_ret
    refine ⟨ret_bool ?_, (Grew.refl W).alloc _⟩
    rw [Bool.eq_iff_iff]
    simp only [Bool.and_eq_true, decide_eq_true_eq, Bool.false_eq_true]
    first | omega | (rw [false_iff]; omega)

set_option maxRecDepth 100000 in
set_option maxHeartbeats 800000 in
theorem run_any (r : Rn) (W : World) : Calls Try.prog 106 #[valRn r] W fun e w' => e = .returned (.bool (runB r)) ∧ Grew W w' := by
  have hf := fun W' => firstID_any r W'
  have hm := fun W' => may_any (firstI r) 64 W' (by decide)
  have hmay : (decide (((firstI r).f : Int) < 64) && mayB (firstI r)) = (decide (r.f < 64) && decide (1 ≤ r.a) && decide (r.a ≤ 4611686018427387904)) := by
    rw [Bool.eq_iff_iff]
    simp only [mayB, firstI, Bool.and_eq_true, decide_eq_true_eq]
    constructor
    · rintro ⟨_, ⟨h1, h2⟩, h3⟩
      exact ⟨⟨of_decide_eq_true h1, of_decide_eq_true h2⟩, of_decide_eq_true h3⟩
    · rintro ⟨⟨h1, h2⟩, h3⟩
      exact ⟨decide_eq_true (by have : r.f < 64 := h1; show (r.f : Int) < 64; omega), ⟨decide_eq_true h1, decide_eq_true h2⟩, decide_eq_true h3⟩
  rw [hmay] at hm
  have hr : runB r = ((decide (r.f < 64) && decide (1 ≤ r.a) && decide (r.a ≤ 4611686018427387904)) && (decide (1 ≤ r.c) && decide (r.c - 1 ≤ 4611686018427387904 - r.a))) := by unfold runB; rw [Bool.and_assoc]
  rw [hr]
  have hin : (decide (r.f < 64) && decide (1 ≤ r.a) && decide (r.a ≤ 4611686018427387904)) = true → r.a ≤ 4611686018427387904 := by
    intro h
    simp only [Bool.and_eq_true, decide_eq_true_eq] at h
    omega
  generalize valId (firstI r) = vf at hf hm
  have h1 := r.ha
  have h2 := r.hc
  unfold valRn at hf ⊢
  generalize (decide (r.f < 64) && decide (1 ≤ r.a) && decide (r.a ≤ 4611686018427387904)) = b at hm hin ⊢
  clear hmay hr
  go_enter Try.func106, Try.ntmps106
  go_wp2_with fail
  generalize hw0 : World.alloc W _ = w0
  obtain ⟨hs0, hG, hc1⟩ := box1 W w0 _ _ hw0
  obtain ⟨q0, q1, q2⟩ := rn_grown (r := r) (b := W.heap.size) (by omega) (hc1 0 _ rfl) (hc1 1 _ rfl) (hc1 2 _ rfl)
  have HG : Hid (Grew W w0) := hG
  clear hc1 hw0 hs0 hG
  refine (hf _).mono ?_
  rintro e w' ⟨rfl, n1, o1, rfl⟩
  go_wp2_with fail
  refine (Calls.grown_of (hm _)).mono ?_
  rintro e w' ⟨rfl, ⟨n2, o2⟩, rfl⟩
  dsimp only
  cases b with
  | false =>
    go_wp2
    go_ret
    exact ⟨rfl, HG.out.grown _ _⟩
  | true =>
    have hle := hin rfl
    clear hin hf hm
    by_cases hc1 : 1 ≤ r.c
    · have e1 : IntKind.u64.wrap ((r.c : Int) - 1) = ((r.c - 1 : Nat) : Int) := by rw [IntKind.wrap_u64]; omega
      have e2 : IntKind.u64.wrap (4611686018427387904 - (r.a : Int)) = ((4611686018427387904 - r.a : Nat) : Int) := by rw [IntKind.wrap_u64]; omega
      have hz : (1 : Int) ≤ (r.c : Int) := by omega
      have hc0 := hc1
      clear hc1
      go_wp2
      go_ret
      refine ⟨ret_bool ?_, HG.out.grown _ _⟩
      rw [Bool.eq_iff_iff]
      simp only [Bool.and_eq_true, decide_eq_true_eq, true_and]
      omega
    · have hz : ¬ (1 : Int) ≤ (r.c : Int) := by omega
      go_wp2
      go_ret
      refine ⟨ret_bool ?_, HG.out.grown _ _⟩
      rw [Bool.eq_iff_iff]

set_option maxRecDepth 100000 in
theorem mayNot_any (r : Rn) (W : World) : Calls Try.prog 109 #[valRn r] W fun e w' => e = .returned (.bool (!runB r)) ∧ Grew W w' := by
  have hf := fun W' => run_any r W'
  unfold valRn at hf ⊢
  generalize runB r = b at hf ⊢
  go_enter Try.func109, Try.ntmps109
  go_wp2_with (go_at_call 106; refine (hf _).mono ?_; rintro e w' ⟨rfl, hg⟩)
  go_ret
  exact ⟨rfl, ((Grew.refl W).alloc _).trans hg⟩

theorem runB_iff (r : Rn) : runB r = true ↔ r.f < 64 ∧ 1 ≤ r.a ∧ r.a ≤ 4611686018427387904 ∧ 1 ≤ r.c ∧ r.c - 1 ≤ 4611686018427387904 - r.a := by
  simp only [runB, Bool.and_eq_true, decide_eq_true_eq]
  constructor
  · rintro ⟨⟨⟨⟨h1, h2⟩, h3⟩, h4⟩, h5⟩; exact ⟨h1, h2, h3, h4, h5⟩
  · rintro ⟨h1, h2, h3, h4, h5⟩; exact ⟨⟨⟨⟨h1, h2⟩, h3⟩, h4⟩, h5⟩

set_option maxRecDepth 100000 in
set_option maxHeartbeats 400000 in
theorem refRun_any (r : Rn) (W : World) : Calls Try.prog 59 #[valRn r] W fun e w' => e = .returned (.bool (runB r)) ∧ Grew W w' := by
  have hr := runB_iff r
  generalize runB r = b at hr ⊢
  have HR := Lib.hid hr
  clear hr
  have h0 := r.hf
  have h1 := r.ha
  have h2 := r.hc
  unfold valRn
  by_cases g1 : 63 < r.f
  · have HG := Lib.hid g1
    have z1 : decide ((63 : Int) < (r.f : Int)) = true := decide_eq_true (by omega)
    clear g1
    go_enter Try.func59, Try.ntmps59
    go_wp2
    go_ret
    refine ⟨ret_bool ?_, (Grew.refl W).alloc _⟩
    rw [Bool.eq_iff_iff, HR.out]
    have := HG.out
    first
    | (simp only [decide_eq_true_eq]; omega)
    | (simp only [Bool.false_eq_true, false_iff]; omega)
  by_cases g2 : r.a = 0
  · have HG := Lib.hid g2
    have z1 : decide ((63 : Int) < (r.f : Int)) = false := decide_eq_false (by omega)
    have z2 : ((r.a : Int) == 0) = true := beq_iff_eq.2 (by omega)
    clear g1 g2
    go_enter Try.func59, Try.ntmps59
    go_wp2
    go_ret
    refine ⟨ret_bool ?_, (Grew.refl W).alloc _⟩
    rw [Bool.eq_iff_iff, HR.out]
    have := HG.out
    first
    | (simp only [decide_eq_true_eq]; omega)
    | (simp only [Bool.false_eq_true, false_iff]; omega)
  by_cases g3 : r.c = 0
  · have HG := Lib.hid g3
    have z1 : decide ((63 : Int) < (r.f : Int)) = false := decide_eq_false (by omega)
    have z2 : ((r.a : Int) == 0) = false := beq_eq_false_iff_ne.2 (by omega)
    have z3 : ((r.c : Int) == 0) = true := beq_iff_eq.2 (by omega)
    clear g1 g2 g3
    go_enter Try.func59, Try.ntmps59
    go_wp2
    go_ret
    refine ⟨ret_bool ?_, (Grew.refl W).alloc _⟩
    rw [Bool.eq_iff_iff, HR.out]
    have := HG.out
    first
    | (simp only [decide_eq_true_eq]; omega)
    | (simp only [Bool.false_eq_true, false_iff]; omega)
  have z1 : decide ((63 : Int) < (r.f : Int)) = false := decide_eq_false (by omega)
  have z2 : ((r.a : Int) == 0) = false := beq_eq_false_iff_ne.2 (by omega)
  have z3 : ((r.c : Int) == 0) = false := beq_eq_false_iff_ne.2 (by omega)
  by_cases g4 : 4611686018427387904 < r.a
  · have HG := Lib.hid g4
    have z4 : decide ((4611686018427387904 : Int) < (r.a : Int)) = true := decide_eq_true (by omega)
    clear g1 g2 g3 g4
    go_enter Try.func59, Try.ntmps59
    go_wp2
    go_ret
    refine ⟨ret_bool ?_, (Grew.refl W).alloc _⟩
    rw [Bool.eq_iff_iff, HR.out]
    have := HG.out
    first
    | (simp only [decide_eq_true_eq]; omega)
    | (simp only [Bool.false_eq_true, false_iff]; omega)
  · have HG : Hid (r.f ≤ 63 ∧ 1 ≤ r.a ∧ 1 ≤ r.c ∧ r.a ≤ 4611686018427387904) := ⟨by omega, by omega, by omega, by omega⟩
    have z4 : decide ((4611686018427387904 : Int) < (r.a : Int)) = false := decide_eq_false (by omega)
    have e1 : IntKind.u64.wrap ((r.c : Int) - 1) = ((r.c - 1 : Nat) : Int) := by rw [IntKind.wrap_u64]; omega
    have e2 : IntKind.u64.wrap (4611686018427387904 - (r.a : Int)) = ((4611686018427387904 - r.a : Nat) : Int) := by rw [IntKind.wrap_u64]; omega
    clear g1 g2 g3 g4
    go_enter Try.func59, Try.ntmps59
    go_wp2
    go_ret
    refine ⟨ret_bool ?_, (Grew.refl W).alloc _⟩
    rw [Bool.eq_iff_iff, HR.out]
    have := HG.out
    first
    | (simp only [decide_eq_true_eq]; omega)
    | (simp only [Bool.false_eq_true, false_iff]; omega)

def lastN (r : Rn) : Nat := (r.a + (r.c + 18446744073709551615) % 18446744073709551616) % 18446744073709551616

set_option maxRecDepth 100000 in
theorem refLast_any (r : Rn) (W : World) : Calls Try.prog 60 #[valRn r] W fun e w' => e = .returned (.int .u64 (lastN r)) ∧ Grew W w' := by
  unfold valRn lastN
  have e1 : IntKind.u64.wrap ((r.c : Int) - 1) = (((r.c + 18446744073709551615) % 18446744073709551616 : Nat) : Int) := by rw [IntKind.wrap_u64]; omega
  generalize (r.c + 18446744073709551615) % 18446744073709551616 = c' at e1 ⊢
  have e2 : IntKind.u64.wrap ((r.a : Int) + (c' : Int)) = (((r.a + c') % 18446744073709551616 : Nat) : Int) := by rw [IntKind.wrap_u64]; omega
  generalize (r.a + c') % 18446744073709551616 = m at e2 ⊢
  go_enter Try.func60, Try.ntmps60
  go_wp2
  go_ret
  exact ⟨rfl, (Grew.refl W).alloc _⟩

theorem lastN_is {r : Rn} (h : runB r = true) : lastN r = r.a + (r.c - 1) := by
  rw [runB_iff] at h
  unfold lastN
  omega

/-- A world in which all that lay in w0 lies unturned. -/
structure Later (w0 : World) where
  w : World
  hb : RowKit.Below w0.heap.size w0 w

instance (w0 : World) : Nonempty (Later w0) := ⟨⟨w0, RowKit.Below.refl _ _⟩⟩

theorem wp_region_later {P : Program} {id : Nat} {Q : Exit → Act → World → Prop} {a : Act} {w0 : World} {l : List Oper} (hm : P.follows .mixedOrders = true) (hB : Region.lexB .any l.toArray = true)
    (h : wpQuiet P l.toArray (fun w' => ∃ p : Later w0, w' = p.w) (fun a' => ∀ w', (∃ p : Later w0, w' = p.w) → Q .normal a' w') l a) : (Code.region id l.toArray true).wp P Q a w0 :=
  wp_region_quiet (C := fun w' => ∃ p : Later w0, w' = p.w) hm hB ⟨⟨_, (RowKit.Below.refl _ _).drew⟩, rfl⟩ (by simpa using h)

theorem later_of {P : Program} {f : FuncId} {args : Array Value} {w0 : World} {p : Later w0} {v : Value} (h : Calls P f args p.w fun e w' => e = .returned v ∧ RowKit.Below p.w.heap.size p.w w') : Calls P f args p.w fun e w'' => e = .returned v ∧ ∃ q : Later w0, w'' = q.w :=
  h.mono fun _ w' ⟨he, hb⟩ => ⟨he, ⟨w', p.hb.trans (hb.mono p.hb.size)⟩, rfl⟩

theorem later_grew {P : Program} {f : FuncId} {args : Array Value} {w0 : World} {p : Later w0} {v : Value} (h : Calls P f args p.w fun e w' => e = .returned v ∧ Grew p.w w') : Calls P f args p.w fun e w'' => e = .returned v ∧ ∃ q : Later w0, w'' = q.w :=
  later_of (h.mono fun _ _ ⟨he, hg⟩ => ⟨he, hg.below⟩)

theorem later_cell {w0 : World} {b o : Nat} {v : Value} (hb : b < w0.heap.size) (h : w0.cell? ⟨b, o, none⟩ = some v) (p : Later w0) : p.w.cell? ⟨b, o, none⟩ = some v :=
  (p.hb.cell (p := ⟨b, o, none⟩) hb).trans h

theorem run_lit (r : Rn) (W : World) : Calls Try.prog 106 #[.agg #[.int .u8 (r.f : Int), .int .u64 (r.a : Int), .int .u64 (r.c : Int)]] W fun e w' => e = .returned (.bool (runB r)) ∧ Grew W w' := run_any r W

theorem refRun_lit (r : Rn) (W : World) : Calls Try.prog 59 #[.agg #[.int .u8 (r.f : Int), .int .u64 (r.a : Int), .int .u64 (r.c : Int)]] W fun e w' => e = .returned (.bool (runB r)) ∧ Grew W w' := refRun_any r W

theorem refLast_lit (r : Rn) (W : World) : Calls Try.prog 60 #[.agg #[.int .u8 (r.f : Int), .int .u64 (r.a : Int), .int .u64 (r.c : Int)]] W fun e w' => e = .returned (.int .u64 (lastN r)) ∧ Grew W w' := refLast_any r W

theorem later_same {P : Program} {f : FuncId} {args : Array Value} {w0 : World} {p : Later w0} {v : Value} (h : Calls P f args p.w fun e w' => e = .returned v ∧ p.w = w') : Calls P f args p.w fun e w'' => e = .returned v ∧ ∃ q : Later w0, w'' = q.w :=
  h.mono fun _ _ ⟨he, hb⟩ => ⟨he, p, hb.symm⟩

end Go.Proofs.Ytbfjfidodpgohaa

/- Clone, IndexFunc, DeleteFunc at runs (picked). -/
namespace Go.Proofs.Ytbfjfidodpgohaa
open Go.RowKit Go.Sort

theorem run_append_emptyK {P : Program} {w : World} (base k : Nat) (t ty e : TypeId) (i : TypeInfo) (ht : P.underlying t = some (.slice e)) (hi : P.info? e = some i)
    (v : Value) (n : Nat) (xs : List Value) (hown : w.ownsRow base e k v n xs) (c : Nat) :
    (Builtin.append_ #[t, t] ty #[v, .slice none 0 c]).run P w = .ok v w := by
  rcases hown.2 with ⟨rfl, rfl⟩ | ⟨g, cap, cur, rfl, _, _, hnc, _⟩
  · simp [Builtin.append_, run_underlying ht, sizeOf, typeInfo, hi, Builtin.lenOf, Builtin.firstCells]
  · simp [Builtin.append_, run_underlying ht, sizeOf, typeInfo, hi, Builtin.lenOf, Builtin.firstCells, hnc, storeCells]

/-- append(owned, src...): src nil or not, elements of k cells. -/
theorem run_append_lstK {P : Program} {w : World} (base k : Nat) (hk : 0 < k) (t ty e : TypeId) (i : TypeInfo) (z : Value) (bytes : Nat) (ht : P.underlying t = some (.slice e)) (hi : P.info? e = some i) (hz : i.zero = some z)
    (hsize : i.size = k) (hby : i.bytes = bytes) (hzs : z.cells.size = k) (v : Value) (n : Nat) (xs : List Value) (hown : w.ownsRow base e k v n xs)
    (B : Nat) (A : Option Addr) (m c : Nat) (news : List Value) (hl : news.length = m * k) (hlies : Lies w B A news) (h1 : ∀ u ∈ news, u.oneCell' = true)
    (h63 : n + m ≤ maxLen) (hbytes : (n + m) * bytes ≤ 140737488355328) (hbase : base ≤ w.heap.size) :
    ∃ v' w', (Builtin.append_ #[t, t] ty #[v, .slice A m c]).run P w = .ok v' w' ∧ w'.ownsRow base e k v' (n + m) (xs ++ news) ∧ w.grownBy w' v.ownBlock ∧
      (v'.ownBlock = v.ownBlock ∨ v'.ownBlock = some w.heap.size) := by
  rcases A with _ | ad
  · have hnil : news = [] := by
      rcases news with _ | ⟨u, r⟩
      · rfl
      · obtain ⟨_, _, h, _⟩ := hlies (by simp)
        cases h
    subst hnil
    have hm : m = 0 := by
      rcases Nat.eq_zero_or_pos m with h | h
      · exact h
      · have := Nat.mul_pos h hk; simp at hl; omega
    subst hm
    exact ⟨v, w, run_append_emptyK base k t ty e i ht hi v n xs hown c, by simpa using hown, World.grownBy.refl w _, .inl rfl⟩
  · have hcells : ∀ j u, news[j]? = some u → w.cell? (ad.add j) = some u := fun j u hu => by
      obtain ⟨b, off, he, _, hc⟩ := hlies (by rintro rfl; simp at hu)
      injection he with he
      subst he
      rw [add_plain]
      exact hc j u hu
    obtain ⟨v', w', hrun, h2, h3, _, h5⟩ := run_append_own_at (P := P) w base t ty e i z k bytes ht hi hz hsize hby hzs hk v n xs hown ad m c news hl hcells h1 h63 hbytes hbase
    exact ⟨v', w', hrun, h2, h3, h5⟩

theorem wpList_append_lstK {P : Program} {w : World} {ops : Array Oper} {rest : List Oper} {o : Oper} {a : Act} {Q : Exit → Act → World → Prop} (hgd : o.guard = none) (s x : Operand) (t : TypeId)
    (ho : o.op = .call { callee := .builtin .append, args := #[s, x], argTypes := #[t, t] })
    (base k : Nat) (hk : 0 < k) (e : TypeId) (i : TypeInfo) (z : Value) (bytes : Nat) (ht : P.underlying t = some (.slice e)) (hi : P.info? e = some i) (hz : i.zero = some z)
    (hsize : i.size = k) (hby : i.bytes = bytes) (hzs : z.cells.size = k) (v : Value) (n : Nat) (xs : List Value) (hs : a.eval s = v) (hown : w.ownsRow base e k v n xs)
    (B : Nat) (A : Option Addr) (m c : Nat) (news : List Value) (hx : a.eval x = .slice A m c) (hl : news.length = m * k) (hlies : Lies w B A news) (h1 : ∀ u ∈ news, u.oneCell' = true)
    (h63 : n + m ≤ maxLen) (hbytes : (n + m) * bytes ≤ 140737488355328) (hbase : base ≤ w.heap.size)
    (h : ∀ v' w', w'.ownsRow base e k v' (n + m) (xs ++ news) → w.grownBy w' v.ownBlock → Below base w w' → (v'.ownBlock = v.ownBlock ∨ v'.ownBlock = some w.heap.size) → wpList P ops Q rest (a.put o.dst v') w') :
    wpList P ops Q (o :: rest) a w := by
  refine wpList_plain hgd fun K hK => ?_
  obtain ⟨v', w', hrun, h2, h3, h4⟩ := run_append_lstK (P := P) (w := w) base k hk t o.type e i z bytes ht hi hz hsize hby hzs v n xs hown B A m c news hl hlies h1 h63 hbytes hbase
  have hk := hK _ _ (h v' w' h2 h3 ((Below.refl base w).grown h3 hbase (fun k e => (hown.lt k e).1)) h4)
  unfold Oper.wp execOp
  simp only [ho, resolve, invoke, builtin, Sem.run_bind, Sem.run_pure, Result.andThen_ok, List.map_toArray, List.map_cons, List.map_nil, hs, hx, hrun]
  exact hk

theorem Try.infoID : (Try.prog.info? 28).map (fun i => (i.zero, i.size, i.bytes)) = some (some (.agg #[.int .u8 0, .int .u64 0]), 2, 16) := by kernel_rfl

theorem Try.infoRun : (Try.prog.info? 102).map (fun i => (i.zero, i.size, i.bytes)) = some (some (.agg #[.int .u8 0, .int .u64 0, .int .u64 0]), 3, 24) := by kernel_rfl

theorem eqNilRns (w : World) (A : Option Addr) (n c n' c' : Nat) : (binOp .eql 30 (.slice A n c) (.slice none n' c')).run Try.prog w = .ok (.bool A.isNone) w := Lib.run_eql_slice_nil w _ _ A n c n' c' Try.underlying30

/-- A new slice of the call's own that holds these ids. -/
def OwnIds (w : World) (base : Nat) (l : List Id) (e : Ending) (w' : World) : Prop :=
  ∃ A n c, e = .returned (.slice A n c) ∧ Hid (l.length = n) ∧ n ≤ c ∧ c ≤ maxLen ∧ w'.ownsRow base 28 2 (.slice A n c) n (flat encId l) ∧ Below base w w'

def OwnRns (w : World) (base : Nat) (l : List Rn) (e : Ending) (w' : World) : Prop :=
  ∃ A n c, e = .returned (.slice A n c) ∧ Hid (l.length = n) ∧ n ≤ c ∧ c ≤ maxLen ∧ w'.ownsRow base 102 3 (.slice A n c) n (flat encRn l) ∧ Below base w w'

theorem OwnIds.of {w w' : World} {base : Nat} {l : List Id} {v : Value} {n : Nat} (hl : l.length = n) (h : w'.ownsRow base 28 2 v n (flat encId l)) (hb : Below base w w') : OwnIds w base l (.returned v) w' := by
  obtain ⟨A, c, rfl, h1, h2⟩ := own_sliceK h
  exact ⟨A, n, c, rfl, hl, h1, h2, h, hb⟩

theorem OwnRns.of {w w' : World} {base : Nat} {l : List Rn} {v : Value} {n : Nat} (hl : l.length = n) (h : w'.ownsRow base 102 3 v n (flat encRn l)) (hb : Below base w w') : OwnRns w base l (.returned v) w' := by
  obtain ⟨A, c, rfl, h1, h2⟩ := own_sliceK h
  exact ⟨A, n, c, rfl, hl, h1, h2, h, hb⟩

set_option maxRecDepth 100000 in
set_option maxHeartbeats 400000 in
theorem cloneRns_any (A : Option Addr) (n c : Nat) (l : List Rn) (w : World) (hl : l.length = n) (hn : n ≤ 1000) (h : Lies w w.heap.size A (flat encRn l)) :
    Calls Try.prog 115 #[.slice A n c] w (OwnRns w w.heap.size l) := by
  obtain ⟨i0, hi, hz0, hz1, hz2⟩ := info_parts Try.infoRun
  have q := eqNilRns
  rcases A with _ | ad
  · have hnil : l = [] := by
      rcases l with _ | ⟨x, r⟩
      · rfl
      · obtain ⟨_, _, h, _⟩ := h.rn (i := 0) (by simp)
        cases h
    subst hnil
    have : n = 0 := by simpa using hl.symm
    subst this
    go_enter Try.func115, Try.ntmps115
    go_wp2
    go_ret
    exact OwnRns.of rfl (World.ownsRow_nil _ _ _ _) (Below.refl _ _)
  · have HL := Lib.hid hl
    clear hl
    have hL1 : Lies (w.alloc (.cells #[] 102)) w.heap.size (some ad) (flat encRn l) := h.below ((Below.refl _ _).alloc (Nat.le_refl _) _)
    have hO := World.ownsRow_made (size := 3) (e := 102) w #[] 0 (Nat.le_refl _) (Nat.zero_le _) rfl
    clear h
    go_enter Try.func115, Try.ntmps115
    go_wp2_with (at_builtin; refine wpList_append_lstK rfl _ _ 30 rfl w.heap.size 3 (by decide) 102 i0 (.agg #[.int .u8 0, .int .u64 0, .int .u64 0]) 24 Try.underlying30 hi hz0 hz1 hz2 rfl _ 0 [] rfl hO _ _ _ _ (flat encRn l) rfl ?d0 hL1 (flat_one encRn_one _) ?d2 ?d3 ?d4 ?_)
    case d0 => rw [flat_length encRn_len, HL.out]
    case d2 => unfold maxLen; omega
    case d3 => omega
    case d4 => simp
    intro v1 w1 hown hg hb _
    go_wp2
    go_ret
    exact OwnRns.of HL.out hown (((Below.refl _ _).alloc (Nat.le_refl _) _).trans hb)

/-- The first place at which p holds, or -1. -/
def FirstAt {α : Type} (p : α → Bool) (l : List α) (r : Int) : Prop :=
  (r = -1 ∧ ∀ x ∈ l, p x = false) ∨ ∃ k, ∃ hk : k < l.length, r = (k : Int) ∧ p l[k] = true ∧ ∀ x ∈ l.take k, p x = false

theorem FirstAt.found {α : Type} {p : α → Bool} {l : List α} {r : Int} (h : FirstAt p l r) : decide (0 ≤ r) = l.any p := by
  rcases h with ⟨rfl, h⟩ | ⟨k, hk, rfl, h1, _⟩
  · have : l.any p = false := by rw [List.any_eq_false]; intro x hx; rw [h x hx]; simp
    rw [this]; rfl
  · have : l.any p = true := by rw [List.any_eq_true]; exact ⟨_, List.getElem_mem hk, h1⟩
    rw [this]; simp

set_option maxRecDepth 100000 in
set_option maxHeartbeats 800000 in
theorem indexRns_any (p : Rn → Bool) (g : Nat) (lb : Array Value) (eg : ∀ args w, (callFunc g args).run Try.prog w = .ok (.enter g args) w) (A : Option Addr) (n c : Nat) (l : List Rn) (w : World) (hp : PredBelow Try.prog g lb valRn p w)
    (hl : l.length = n) (hn : n ≤ 1000) (h : Lies w w.heap.size A (flat encRn l)) :
    Calls Try.prog 117 #[.slice A n c, .func (.func g) #[] lb] w fun e w' => ∃ r : Int, e = .returned (.int .i64 r) ∧ Hid (FirstAt p l r) ∧ Below w.heap.size w w' := by
  have HL := Lib.hid hl
  have HP := Lib.hid hp
  clear hl hp
  go_enter Try.func117, Try.ntmps117
  go_wp2
  go_loopw [5, 8] (fun _ i wr => ∃ k : Nat, k ≤ n ∧ i = .int .i64 k ∧ Below w.heap.size w wr ∧ Hid (∀ x ∈ l.take k, p x = false)) (fun _ i _ => n - (intOf i).toNat)
  case atStart => exact ⟨0, Nat.zero_le _, rfl, Below.refl _ _, by show ∀ x ∈ l.take 0, _; simp⟩
  case round =>
    obtain ⟨k, hk, rfl, hb, hK⟩ := hrel
    by_cases hlt : k < n
    · have hk1 : k < l.length := by rw [HL.out]; exact hlt
      have hcall := HP.out wr l[k] hb
      unfold valRn at hcall
      have hK' : Hid (p l[k] = false → ∀ x ∈ l.take (k + 1), p x = false) := fun hq x hx => by
        rw [List.take_succ_eq_append_getElem hk1, List.mem_append] at hx
        rcases hx with h1 | h1
        · exact hK.out x h1
        · simp at h1; subst h1; exact hq
      have hF : Hid (p l[k] = true → FirstAt p l (k : Int)) := fun hq => .inr ⟨k, hk1, rfl, hq, hK.out⟩
      obtain ⟨bb, off, rfl, hbl, c0, c1, c2⟩ := (h.below hb).rn hk1
      have hwn : wr.heap.size ≥ w.heap.size := hb.size
      generalize hq : p l[k] = b at hcall hK' hF
      clear hK hq
      cases b with
      | true =>
        go_wp2_with (go_at_fn g; refine hcall.mono ?_; rintro e w' ⟨rfl, hb'⟩)
        go_ret
        exact ⟨_, rfl, hF.out (by simp), hb'⟩
      | false =>
        go_wp2_with (go_at_fn g; refine hcall.mono ?_; rintro e w' ⟨rfl, hb'⟩)
        go_roundw
        case rel => exact ⟨k + 1, by omega, by go_num, hb', hK'.out (by simp)⟩
        case measure => simp [intOf]; omega
    · have hF : Hid (FirstAt p l (-1)) := .inl ⟨rfl, fun x hx => hK.out x (by rw [List.take_of_length_le (by rw [HL.out]; omega)]; exact hx)⟩
      go_wp2
      go_ret
      exact ⟨_, rfl, hF.out, hb⟩

/-- What DeleteFunc has made: of the first j those that are kept stand in front, i of them; from j on all is as it was. -/
structure Kept {α : Type} (keep : α → Bool) (l dk : List α) (i j : Nat) : Prop where
  len : dk.length = l.length
  lt : i < j
  le : j ≤ l.length
  front : dk.take i = (l.take j).filter keep
  back : ∀ t, j ≤ t → dk[t]? = l[t]?

theorem Kept.start {α : Type} {keep : α → Bool} {l : List α} {k : Nat} (hk : k < l.length) (h1 : keep l[k] = false) (h2 : ∀ x ∈ l.take k, keep x = true) : Kept keep l l k (k + 1) := by
  refine ⟨rfl, by omega, hk, ?_, fun _ _ => rfl⟩
  rw [List.take_succ_eq_append_getElem hk, List.filter_append]
  simp [h1, List.filter_eq_self.2 h2]

theorem Kept.keep {α : Type} {keep : α → Bool} {l dk : List α} {i j : Nat} (h : Kept keep l dk i j) (hj : j < l.length) (hk : keep l[j] = true) : Kept keep l (dk.set i l[j]) (i + 1) (j + 1) := by
  refine ⟨by simp [h.len], by have := h.lt; omega, hj, ?_, fun t ht => ?_⟩
  · have hi : i < dk.length := by have := h.lt; have := h.len; omega
    rw [List.take_succ_eq_append_getElem (by simpa using hi), List.take_succ_eq_append_getElem hj, List.filter_append, ← h.front, List.take_set_of_le (Nat.le_refl i)]
    simp [hk]
  · rw [List.getElem?_set_ne (by have := h.lt; omega)]
    exact h.back t (by omega)

theorem Kept.skip {α : Type} {keep : α → Bool} {l dk : List α} {i j : Nat} (h : Kept keep l dk i j) (hj : j < l.length) (hk : keep l[j] = false) : Kept keep l dk i (j + 1) := by
  refine ⟨h.len, by have := h.lt; omega, hj, ?_, fun t ht => h.back t (by omega)⟩
  rw [List.take_succ_eq_append_getElem hj, List.filter_append, ← h.front]
  simp [hk]

theorem Kept.at_ {α : Type} {keep : α → Bool} {l dk : List α} {i j : Nat} (h : Kept keep l dk i j) (hj : j < l.length) : dk[j]'(by rw [h.len]; exact hj) = l[j] := by
  have := h.back j (Nat.le_refl _)
  rw [List.getElem?_eq_getElem (by rw [h.len]; exact hj), List.getElem?_eq_getElem hj] at this
  exact Option.some.inj this

/-- A run of stores behind the front of a slice of the call's own. -/
theorem own_setCells {base k g n c : Nat} {e : TypeId} : ∀ (vs : List Value) (o : Nat) (w : World) (xs : List Value), w.ownsRow base e k (.slice (some ⟨g, 0, none⟩) n c) n xs →
    ∃ ys, (w.setCells g o vs).ownsRow base e k (.slice (some ⟨g, 0, none⟩) n c) n ys ∧ ys.take o = xs.take o ∧ w.grownBy (w.setCells g o vs) (some g)
  | [], o, w, xs, h => ⟨xs, h, rfl, World.grownBy.refl w _⟩
  | v :: r, o, w, xs, h => by
    obtain ⟨h1, h2⟩ := h.stored o v
    obtain ⟨ys, h3, h4, h5⟩ := own_setCells r (o + 1) _ _ h1
    refine ⟨ys, h3, ?_, h2.trans h5⟩
    have := congrArg (List.take o) h4
    rw [List.take_take, List.take_take, Nat.min_eq_left (Nat.le_succ o)] at this
    rw [this, List.take_set_of_le (Nat.le_refl o)]

set_option maxRecDepth 100000 in
theorem clear_own {base k g n c i : Nat} {e t ty : TypeId} {z : Value} {w : World} {xs : List Value} (ht : Try.prog.underlying t = some (.slice e)) (hv : ∀ w, (zeroValue e).run Try.prog w = .ok z w) (hz : z.cells.size = k) (hz1 : ∀ u ∈ z.cells.toList, u.oneCell' = true) (hk : 0 < k) (hi : i < n) (c' : Nat)
    (h : w.ownsRow base e k (.slice (some ⟨g, 0, none⟩) n c) n xs) :
    ∃ w', (Builtin.clear_ #[t] ty #[.slice (some ⟨g, i * k, none⟩) (n - i) c']).run Try.prog w = .ok (.tuple #[]) w' ∧ w'.ownsRow base e k (.slice (some ⟨g, 0, none⟩) i c) i (xs.take (i * k)) ∧ w.grownBy w' (some g) := by
  have hl : (Builtin.zeroCells z.cells (n - i)).toList.length = (n - i) * k := by simp [Builtin.zeroCells, hz]
  have h1 : ∀ u ∈ (Builtin.zeroCells z.cells (n - i)).toList, u.oneCell' = true := by
    intro u hu
    simp only [Builtin.zeroCells, Array.toList_map, List.mem_map] at hu
    obtain ⟨a, _, rfl⟩ := hu
    have hlt : a % z.cells.size < z.cells.size := Nat.mod_lt _ (by omega)
    exact hz1 _ (by rw [getElem!_pos z.cells _ hlt]; simp)
  generalize hvs : (Builtin.zeroCells z.cells (n - i)).toList = vs at hl h1
  have hlt : ∀ j, j < vs.length → i * k + j < n * k := fun j hj => by
    have : i * k + (n - i) * k = n * k := by rw [← Nat.add_mul]; congr 1; omega
    omega
  have hlen := h.1
  have hst := run_storeCells_cells (P := Try.prog) g (i * k) vs 0 w (fun j hj => by rw [Nat.add_zero, h.cellAt _ (hlt j hj), List.getElem?_eq_getElem (by rw [hlen]; exact hlt j hj)]; rfl) (fun j hj => h.frozenAt _) h1
  rw [Nat.add_zero] at hst
  obtain ⟨ys, h3, h4, h5⟩ := own_setCells vs (i * k) w xs h
  refine ⟨_, ?_, ?_, h5⟩
  · obtain ⟨m, hm⟩ : ∃ m, n - i = m + 1 := ⟨n - i - 1, by omega⟩
    rw [hm] at hvs
    simp [Builtin.clear_, run_underlying ht, hm, hv, hvs, hst]
  · have := own_front h3 (Nat.le_of_lt hi)
    rw [h4] at this
    exact this

set_option maxRecDepth 100000 in
set_option maxHeartbeats 1600000 in
theorem deleteRns_any (p : Rn → Bool) (g : Nat) (eg : ∀ args w, (callFunc g args).run Try.prog w = .ok (.enter g args) w) (hp : ∀ x W, Calls Try.prog g #[valRn x] W fun e w' => e = .returned (.bool (p x)) ∧ Grew W w') (A : Option Addr) (n c base : Nat) (l : List Rn) (w : World)
    (hl : l.length = n) (hn : n ≤ 1000) (hb : base ≤ w.heap.size) (h : w.ownsRow base 102 3 (.slice A n c) n (flat encRn l)) :
    Calls Try.prog 114 #[.slice A n c, .func (.func g) #[] #[]] w (OwnRns w base (l.filter fun x => !p x)) := by
  have hidx := indexRns_any p g #[] eg A n c l w (fun W x hW => (hp x W).mono fun _ _ ⟨he, hg⟩ => ⟨he, hW.trans (hg.below.mono hW.size)⟩) hl hn (Lies.of_ownK h)
  have HL := Lib.hid hl
  have HP := Lib.hid hp
  clear hl hp
  go_enter Try.func114, Try.ntmps114
  go_wp2_with fail
  refine hidx.mono ?_
  rintro e w1 ⟨r, rfl, hF, hb1⟩
  have hown1 := own_below h hb1
  have hb1' : Below base w w1 := hb1.mono hb
  have hbs : base ≤ w1.heap.size := Nat.le_trans hb hb1.size
  clear hidx h hb1
  rcases hF.out with ⟨rfl, hall⟩ | ⟨k, hk, rfl, hpk, hall⟩
  · have hfil : (l.filter fun x => !p x) = l := List.filter_eq_self.2 (fun x hx => by rw [hall x hx]; rfl)
    have HF := Lib.hid hfil
    have H1 := Lib.hid hown1
    clear hfil hall hF hown1
    go_wp2
    go_ret
    rw [HF.out]
    exact OwnRns.of HL.out H1.out hb1'
  · have hk0 : k < n := by rw [← HL.out]; exact hk
    obtain ⟨gg, cap, hv, hbg, hlt⟩ := hown1.form (by omega)
    obtain ⟨rfl, rfl⟩ : A = some ⟨gg, 0, none⟩ ∧ c = cap := by injection hv with e1 _ e3; exact ⟨e1, e3⟩
    have hK : Hid (Kept (fun x => !p x) l l k (k + 1)) := Kept.start hk (by simp [hpk]) (fun x hx => by simp [hall x hx])
    have H1 := Lib.hid hown1
    have hne1 : ((k : Int) == -1) = false := beq_eq_false_iff_ne.2 (by omega)
    clear hF hpk hall hown1 hv hk
    go_wp2
    go_loopw [5, 6, 7] (fun s5 s6 _ wr => ∃ (i j : Nat) (dk : List Rn), s5 = .int .i64 i ∧ s6 = .int .i64 j ∧ j ≤ n ∧ Hid (Kept (fun x => !p x) l dk i j) ∧ wr.ownsRow base 102 3 (.slice (some ⟨gg, 0, none⟩) n c) n (flat encRn dk) ∧ Below base w wr) (fun _ s6 _ _ => n - (intOf s6).toNat)
    case atStart => exact ⟨k, k + 1, l, rfl, by go_num, by omega, hK, H1.out, hb1'⟩
    case round =>
      clear hK H1 hb1' hlt hbs
      obtain ⟨i, j, dk, rfl, rfl, hjn, hK, hown, hbr⟩ := hrel
      have hij : i < j := hK.out.lt
      have hdl : dk.length = n := by rw [hK.out.len, HL.out]
      have hbs : base ≤ wr.heap.size := Nat.le_trans hb hbr.size
      have hgl : gg < wr.heap.size := (hown.lt gg rfl).2
      by_cases hlt : j < n
      · have hjl : j < l.length := by rw [HL.out]; exact hlt
        have hjd : j < dk.length := by rw [hdl]; exact hlt
        have hcall := fun W => HP.out l[j] W
        have c0 : wr.cell? ⟨gg, j * 3, none⟩ = some (.int .u8 (dk[j].f : Int)) := by rw [hown.cellAt _ (by omega)]; exact rns_at0 dk j hjd
        have c1 : wr.cell? ⟨gg, j * 3 + 1, none⟩ = some (.int .u64 (dk[j].a : Int)) := by rw [hown.cellAt _ (by omega)]; exact rns_at1 dk j hjd
        have c2 : wr.cell? ⟨gg, j * 3 + 1 + 1, none⟩ = some (.int .u64 (dk[j].c : Int)) := by rw [hown.cellAt _ (by omega)]; exact rns_at2 dk j hjd
        rw [hK.out.at_ hjl] at c0 c1 c2
        have HD := Lib.hid hdl
        have HO := Lib.hid hown
        clear hdl hown hjd
        unfold valRn at hcall
        generalize hpb : p l[j] = pb at hcall
        have HPB := Lib.hid hpb
        clear hpb
        go_wp2_with fail
        generalize hw0 : World.alloc wr _ = w0
        obtain ⟨hs0, hG, hcc⟩ := box1 wr w0 _ _ hw0
        refine (hcall _).mono ?_
        rintro e w2 ⟨rfl, hg2⟩
        have hbw : RowKit.Below wr.heap.size wr w2 := hG.below.trans (hg2.below.mono hG.size)
        have hO2 := own_below HO.out hbw
        have b0 : w2.cell? ⟨wr.heap.size, 0, none⟩ = some (.int .u8 (l[j].f : Int)) := (hg2.below.cell (p := ⟨wr.heap.size, 0, none⟩) (by show wr.heap.size < w0.heap.size; omega)).trans (hcc 0 _ rfl)
        have b1 : w2.cell? ⟨wr.heap.size, 1, none⟩ = some (.int .u64 (l[j].a : Int)) := (hg2.below.cell (p := ⟨wr.heap.size, 1, none⟩) (by show wr.heap.size < w0.heap.size; omega)).trans (hcc 1 _ rfl)
        have b2 : w2.cell? ⟨wr.heap.size, 2, none⟩ = some (.int .u64 (l[j].c : Int)) := (hg2.below.cell (p := ⟨wr.heap.size, 2, none⟩) (by show wr.heap.size < w0.heap.size; omega)).trans (hcc 2 _ rfl)
        have hbr2 : RowKit.Below base w w2 := hbr.trans (hbw.mono hbs)
        have hgl2 : gg < w2.heap.size := Nat.lt_of_lt_of_le hgl hbw.size
        clear hw0 hG hcc hs0 hg2 hbw HO hbr hcall
        cases pb with
        | true =>
          have H2 := Lib.hid hO2
          clear hO2
          go_wp2
          go_roundw
          case rel => exact ⟨i, j + 1, dk, rfl, by go_num, by omega, hK.out.skip hjl (by simp [HPB.out]), H2.out, hbr2⟩
          case measure => simp [intOf]; omega
        | false =>
          have hid : i < dk.length := by rw [HD.out]; omega
          have o0 : w2.cell? ⟨gg, i * 3, none⟩ = some (.int .u8 (dk[i].f : Int)) := by rw [hO2.cellAt _ (by omega)]; exact rns_at0 dk i hid
          have o1 : w2.cell? ⟨gg, i * 3 + 1, none⟩ = some (.int .u64 (dk[i].a : Int)) := by rw [hO2.cellAt _ (by omega)]; exact rns_at1 dk i hid
          have o2 : w2.cell? ⟨gg, i * 3 + 2, none⟩ = some (.int .u64 (dk[i].c : Int)) := by rw [hO2.cellAt _ (by omega)]; exact rns_at2 dk i hid
          have f0 := hO2.frozenAt (i * 3)
          have f1 := hO2.frozenAt (i * 3 + 1)
          have f2 := hO2.frozenAt (i * 3 + 2)
          generalize (dk[i].f : Int) = of at o0
          generalize (dk[i].a : Int) = oa at o1
          generalize (dk[i].c : Int) = oc at o2
          have H2 := Lib.hid hO2
          clear hO2
          go_wp2
          go_roundw
          case rel =>
            refine ⟨i + 1, j + 1, dk.set i l[j], by go_num, by go_num, by omega, hK.out.keep hjl (by simp [HPB.out]), ?_, ?_⟩
            · have s2 := (((H2.out.stored (i * 3) (.int .u8 (l[j].f : Int))).1.stored (i * 3 + 1) (.int .u64 (l[j].a : Int))).1.stored (i * 3 + 2) (.int .u64 (l[j].c : Int))).1
              rwa [rns_set dk i l[j] hid] at s2
            · exact ((hbr2.setCell (p := ⟨gg, _, none⟩) hbg _).setCell (p := ⟨gg, _, none⟩) hbg _).setCell (p := ⟨gg, _, none⟩) hbg _
          case measure => simp [intOf]; omega
      · obtain rfl : j = n := by omega
        have hcn : j ≤ c := by
          obtain ⟨_, _, hv, h1, _⟩ := own_sliceK hown
          injection hv with _ _ e3
          omega
        obtain ⟨w3, hcl, hown3, hg3⟩ := clear_own (k := 3) (ty := 0) (i := i) Try.underlying30 Try.zeroValue102 rfl (by simp [Value.cells, Value.oneCell']) (by decide) hij (c - i) hown
        rw [flat_take encRn_len dk i (by omega), hK.out.front, ← HL.out, List.take_length] at hown3
        have hlen : (l.filter fun x => !p x).length = i := by
          have := congrArg List.length hK.out.front
          rw [List.length_take, ← HL.out, List.take_length] at this
          omega
        have HO3 := Lib.hid hown3
        have HLEN := Lib.hid hlen
        have hb3 : RowKit.Below base w w3 := hbr.grown hg3 hbs (fun q hq => by injection hq with hq; omega)
        clear hown hown3 hlen hK hdl hg3
        go_wp2
        go_ret
        exact OwnRns.of HLEN.out HO3.out hb3

set_option maxRecDepth 100000 in
set_option maxHeartbeats 400000 in
theorem withoutRns_any (A : Option Addr) (n c : Nat) (l : List Rn) (w : World) (hl : l.length = n) (hn : n ≤ 1000) (h : Lies w w.heap.size A (flat encRn l)) :
    Calls Try.prog 108 #[.slice A n c, .func (.func 109) #[] #[]] w (OwnRns w w.heap.size (l.filter runB)) := by
  have hcl := cloneRns_any A n c l w hl hn h
  have eg : ∀ args w, (callFunc 109 args).run Try.prog w = .ok (.enter 109 args) w := enters_of Try.func109 (by kernel_rfl) rfl
  have hf : (l.filter fun x => !(!runB x)) = l.filter runB := by simp
  rw [← hf]
  have EG := Lib.hid eg
  clear eg h hf
  go_enter Try.func108, Try.ntmps108
  go_wp2_with fail
  refine hcl.mono ?_
  rintro e w1 ⟨A1, n1, c1, rfl, hn1, hc1, hc2, hown, hb1⟩
  have e1 : n1 = n := by rw [← hn1.out]; exact hl
  subst e1
  go_wp2_with fail
  refine (deleteRns_any (fun x => !runB x) _ EG.out (fun x W => mayNot_any x W) A1 n1 c1 w.heap.size l w1 hl hn hb1.size hown).mono ?_
  rintro e w2 ⟨A2, n2, c2, rfl, hn2, hc3, hc4, hown2, hb2⟩
  clear hown hcl
  have HO := Lib.hid hown2
  clear hown2
  go_wp2
  go_ret
  exact ⟨A2, n2, c2, rfl, hn2, hc3, hc4, HO.out, hb1.trans hb2⟩

end Go.Proofs.Ytbfjfidodpgohaa

/- The order of ids; whether two runs stand apart (picked). -/
namespace Go.Proofs.Ytbfjfidodpgohaa
open Go.RowKit Go.Sort

def cmpI (x y : Int) : Int := if x < y then -1 else if y < x then 1 else 0

set_option maxRecDepth 100000 in
theorem nan8_any (x : Int) (W : World) : Calls Try.prog 121 #[.int .u8 x] W fun e w' => e = .returned (.bool false) ∧ w' = W := by
  go_enter Try.func121, Try.ntmps121
  go_wp2
  go_ret
  exact ⟨rfl, rfl⟩

set_option maxRecDepth 100000 in
theorem nan64_any (x : Int) (W : World) : Calls Try.prog 122 #[.int .u64 x] W fun e w' => e = .returned (.bool false) ∧ w' = W := by
  go_enter Try.func122, Try.ntmps122
  go_wp2
  go_ret
  exact ⟨rfl, rfl⟩

set_option maxRecDepth 100000 in
set_option maxHeartbeats 400000 in
theorem cmp8_any (x y : Int) (W : World) : Calls Try.prog 119 #[.int .u8 x, .int .u8 y] W fun e w' => e = .returned (.int .i64 (cmpI x y)) ∧ w' = W := by
  unfold cmpI
  by_cases h1 : x < y
  · rw [if_pos h1]
    go_enter Try.func119, Try.ntmps119
    go_wp2_with (go_at_call 121; refine (nan8_any _ _).mono ?_; rintro e w' ⟨rfl, rfl⟩)
    go_ret
    exact ⟨rfl, rfl⟩
  · rw [if_neg h1]
    by_cases h2 : y < x
    · rw [if_pos h2]
      go_enter Try.func119, Try.ntmps119
      go_wp2_with (go_at_call 121; refine (nan8_any _ _).mono ?_; rintro e w' ⟨rfl, rfl⟩)
      go_ret
      exact ⟨rfl, rfl⟩
    · rw [if_neg h2]
      go_enter Try.func119, Try.ntmps119
      go_wp2_with (go_at_call 121; refine (nan8_any _ _).mono ?_; rintro e w' ⟨rfl, rfl⟩)
      go_ret
      exact ⟨rfl, rfl⟩

set_option maxRecDepth 100000 in
set_option maxHeartbeats 400000 in
theorem cmp64_any (x y : Int) (W : World) : Calls Try.prog 120 #[.int .u64 x, .int .u64 y] W fun e w' => e = .returned (.int .i64 (cmpI x y)) ∧ w' = W := by
  unfold cmpI
  by_cases h1 : x < y
  · rw [if_pos h1]
    go_enter Try.func120, Try.ntmps120
    go_wp2_with (go_at_call 122; refine (nan64_any _ _).mono ?_; rintro e w' ⟨rfl, rfl⟩)
    go_ret
    exact ⟨rfl, rfl⟩
  · rw [if_neg h1]
    by_cases h2 : y < x
    · rw [if_pos h2]
      go_enter Try.func120, Try.ntmps120
      go_wp2_with (go_at_call 122; refine (nan64_any _ _).mono ?_; rintro e w' ⟨rfl, rfl⟩)
      go_ret
      exact ⟨rfl, rfl⟩
    · rw [if_neg h2]
      go_enter Try.func120, Try.ntmps120
      go_wp2_with (go_at_call 122; refine (nan64_any _ _).mono ?_; rintro e w' ⟨rfl, rfl⟩)
      go_ret
      exact ⟨rfl, rfl⟩

def orI (x y : Int) : Int := if x = 0 then y else x

set_option maxRecDepth 100000 in
set_option maxHeartbeats 400000 in
theorem or_any (b : Nat) (x y : Int) (W : World) (h0 : W.cell? ⟨b, 0, none⟩ = some (.int .i64 x)) (h1 : W.cell? ⟨b, 1, none⟩ = some (.int .i64 y)) :
    Calls Try.prog 118 #[.slice (some ⟨b, 0, none⟩) 2 2] W fun e w' => e = .returned (.int .i64 (orI x y)) ∧ w' = W := by
  unfold orI
  by_cases hx : x = 0
  · subst hx
    rw [if_pos rfl]
    by_cases hy : y = 0
    · subst hy
      go_enter Try.func118, Try.ntmps118
      go_wp2
      refine wp_loop_rounds 3 ?_
      rw [rounds_succ]
      go_wp2
      rw [rounds_succ]
      go_wp2
      rw [rounds_succ]
      go_wp2
      go_ret
      exact ⟨rfl, rfl⟩
    · go_enter Try.func118, Try.ntmps118
      go_wp2
      refine wp_loop_rounds 2 ?_
      rw [rounds_succ]
      go_wp2
      rw [rounds_succ]
      go_wp2
      go_ret
      exact ⟨rfl, rfl⟩
  · rw [if_neg hx]
    go_enter Try.func118, Try.ntmps118
    go_wp2
    refine wp_loop_rounds 1 ?_
    rw [rounds_succ]
    go_wp2
    go_ret
    exact ⟨rfl, rfl⟩

def ordI (x y : Id) : Int := orI (cmpI x.f y.f) (cmpI x.s y.s)

set_option maxRecDepth 100000 in
set_option maxHeartbeats 800000 in
theorem order_any (x y : Id) (W : World) : Calls Try.prog 116 #[valId x, valId y] W fun e w' => e = .returned (.int .i64 (ordI x y)) ∧ Grew W w' := by
  unfold valId ordI
  have c8 := fun W' => cmp8_any x.f y.f W'
  have c64 := fun W' => cmp64_any x.s y.s W'
  generalize cmpI x.f y.f = r1 at c8 ⊢
  generalize cmpI x.s y.s = r2 at c64 ⊢
  go_enter Try.func116, Try.ntmps116
  go_wp2_with fail
  generalize hw0 : (W.alloc _).alloc _ = w0
  obtain ⟨hs0, hG, hc1, hc2⟩ := box2 W w0 _ _ _ _ hw0
  have k0 : ∀ W', Below w0.heap.size w0 W' → W'.cell? ⟨W.heap.size, 0, none⟩ = some (.int .u8 x.f) := fun W' hb => (hb.cell (p := ⟨W.heap.size, 0, none⟩) (by show _ < w0.heap.size; rw [hs0]; show (_ : Nat) < _; dsimp only; omega)).trans (hc1 0 _ rfl)
  have k1 : ∀ W', Below w0.heap.size w0 W' → W'.cell? ⟨W.heap.size, 1, none⟩ = some (.int .u64 x.s) := fun W' hb => (hb.cell (p := ⟨W.heap.size, 1, none⟩) (by show _ < w0.heap.size; rw [hs0]; show (_ : Nat) < _; dsimp only; omega)).trans (hc1 1 _ rfl)
  have k2 : ∀ W', Below w0.heap.size w0 W' → W'.cell? ⟨W.heap.size + 1, 0, none⟩ = some (.int .u8 y.f) := fun W' hb => (hb.cell (p := ⟨W.heap.size + 1, 0, none⟩) (by show _ < w0.heap.size; rw [hs0]; show (_ : Nat) < _; dsimp only; omega)).trans (hc2 0 _ rfl)
  have k3 : ∀ W', Below w0.heap.size w0 W' → W'.cell? ⟨W.heap.size + 1, 1, none⟩ = some (.int .u64 y.s) := fun W' hb => (hb.cell (p := ⟨W.heap.size + 1, 1, none⟩) (by show _ < w0.heap.size; rw [hs0]; show (_ : Nat) < _; dsimp only; omega)).trans (hc2 1 _ rfl)
  have hbd : Below w0.heap.size w0 w0.drew := (Below.refl _ _).drew
  have HG : Hid (Grew W w0.drew) := hG.drewN 1
  clear hc1 hc2 hw0 hs0 hG
  refine wp_region_held_drew (S := fun W => Below w0.heap.size w0 W) (by kernel_rfl) hbd (fun hHeld => ?_)
  refine wpAnyH_takeAt (i := 0) (d := 5) (v := ?_) rfl rfl (by kernel_rfl) (by kernel_rfl) (by kernel_rfl) (fun _ _ _ h => h) (Or.inl ⟨by rfl, ?_⟩) hHeld ?_
  rotate_left
  · (intro _ hSw; go_simp; try with_reducible rfl)
  simp only [List.setIfInBounds_toArray, List.set_cons_zero, List.set_cons_succ]
  refine wpAnyH_takeAt (i := 1) (d := 6) (v := ?_) rfl rfl (by kernel_rfl) (by kernel_rfl) (by kernel_rfl) (fun _ _ _ h => h) (Or.inl ⟨by rfl, ?_⟩) hHeld ?_
  rotate_left
  · (intro _ hSw; go_simp; try with_reducible rfl)
  simp only [List.setIfInBounds_toArray, List.set_cons_zero, List.set_cons_succ]
  refine wpAnyH_takeAt (i := 2) (d := 7) (v := ?_) rfl rfl (by kernel_rfl) (by kernel_rfl) (by kernel_rfl) (fun _ _ _ h => h) (Or.inl ⟨by rfl, ?_⟩) hHeld ?_
  rotate_left
  · (intro _ hSw; go_simp; try with_reducible rfl)
  simp only [List.setIfInBounds_toArray, List.set_cons_zero, List.set_cons_succ]
  refine wpAnyH_takeAt (i := 3) (d := 8) (v := ?_) rfl rfl (by kernel_rfl) (by kernel_rfl) (by kernel_rfl) (fun _ _ _ h => h) (Or.inl ⟨by rfl, ?_⟩) hHeld ?_
  rotate_left
  · (intro _ hSw; go_simp; try with_reducible rfl)
  simp only [List.setIfInBounds_toArray, List.set_cons_zero, List.set_cons_succ]
  refine wpAnyH_takeAt (i := 5) (d := 10) (v := ?_) rfl rfl (by kernel_rfl) (by kernel_rfl) (by kernel_rfl) (fun _ _ _ h => h) (Or.inl ⟨by rfl, ?_⟩) hHeld ?_
  rotate_left
  · (intro _ hSw; go_simp; try with_reducible rfl)
  simp only [List.setIfInBounds_toArray, List.set_cons_zero, List.set_cons_succ]
  refine wpAnyH_takeAt (i := 6) (d := 11) (v := ?_) rfl rfl (by kernel_rfl) (by kernel_rfl) (by kernel_rfl) (fun _ _ _ h => h) (Or.inl ⟨by rfl, ?_⟩) hHeld ?_
  rotate_left
  · (intro _ hSw; go_simp; try with_reducible rfl)
  simp only [List.setIfInBounds_toArray, List.set_cons_zero, List.set_cons_succ]
  refine wpAnyH_takeAt (i := 7) (d := 12) (v := ?_) rfl rfl (by kernel_rfl) (by kernel_rfl) (by kernel_rfl) (fun _ _ _ h => h) (Or.inl ⟨by rfl, ?_⟩) hHeld ?_
  rotate_left
  · (intro _ hSw; go_simp; try with_reducible rfl)
  simp only [List.setIfInBounds_toArray, List.set_cons_zero, List.set_cons_succ]
  refine wpAnyH_takeAt (i := 8) (d := 13) (v := ?_) rfl rfl (by kernel_rfl) (by kernel_rfl) (by kernel_rfl) (fun _ _ _ h => h) (Or.inl ⟨by rfl, ?_⟩) hHeld ?_
  rotate_left
  · (intro _ hSw; go_simp; try with_reducible rfl)
  simp only [List.setIfInBounds_toArray, List.set_cons_zero, List.set_cons_succ]
  refine wpAnyH_ready (rs := [4]) (by kernel_rfl) (by simp) ?_
  refine AllReadyH.cons rfl (fun K hK => ?_) AllReadyH.nil
  go_simp
  refine (c8 _).mono ?_
  rintro e w' ⟨rfl, rfl⟩
  dsimp only
  refine hK.out _ _ hbd (fun hHeld => ?_)
  clear hK K
  refine wpAnyH_ready (rs := [9]) (by kernel_rfl) (by simp) ?_
  refine AllReadyH.cons rfl (fun K hK => ?_) AllReadyH.nil
  go_simp
  refine (c64 _).mono ?_
  rintro e w' ⟨rfl, rfl⟩
  dsimp only
  refine hK.out _ _ hbd (fun hHeld => ?_)
  clear hK K
  refine wpAnyH_ready (rs := [10]) (by kernel_rfl) (by simp) ?_
  refine AllReadyH.cons rfl (fun K hK => ?_) AllReadyH.nil
  go_simp
  refine hK.out _ _ (hbd.alloc (by simp) _) (fun hHeld => ?_)
  clear hK K
  refine wpAnyH_ready (rs := [11]) (by kernel_rfl) (by simp) ?_
  refine AllReadyH.cons rfl (fun K hK => ?_) AllReadyH.nil
  go_simp
  refine (or_any _ r1 r2 _ (by simp) (by simp)).mono ?_
  rintro e w' ⟨rfl, rfl⟩
  dsimp only
  refine hK.out _ _ (hbd.alloc (by simp) _) (fun hHeld => ?_)
  clear hK K
  refine wpAnyH_takeAt (i := 12) (d := 4) (v := ?_) rfl rfl (by kernel_rfl) (by kernel_rfl) (by kernel_rfl) (fun _ _ _ h => h) (Or.inl ⟨by rfl, ?_⟩) hHeld ?_
  rotate_left
  · (intro _ hSw; go_simp; try with_reducible rfl)
  simp only [List.setIfInBounds_toArray, List.set_cons_zero, List.set_cons_succ]
  refine wpAnyH_done (by kernel_rfl) ?_ _
  go_wp2
  go_ret
  exact ⟨rfl, HG.out.alloc _⟩

def ltB (x y : Id) : Bool := decide (ordI x y < 0)

theorem ltB_iff (x y : Id) : ltB x y = true ↔ (x.f < y.f ∨ (x.f = y.f ∧ x.s < y.s)) := by
  unfold ltB ordI orI cmpI
  rw [decide_eq_true_eq]
  split <;> rename_i h <;> (repeat' split) <;> (try split at h) <;> (try split at h) <;> omega

def nextI (r : Rn) : Id := ⟨r.f, (r.a + r.c) % 18446744073709551616, r.hf, Nat.mod_lt _ (by decide)⟩

set_option maxRecDepth 100000 in
set_option maxHeartbeats 400000 in
theorem less_any (x y : Id) (W : World) : Calls Try.prog 112 #[valId x, valId y] W fun e w' => e = .returned (.bool (ltB x y)) ∧ Grew W w' := by
  have ho := fun W' => order_any x y W'
  unfold ltB
  unfold valId at ho ⊢
  generalize ordI x y = r at ho ⊢
  go_enter Try.func112, Try.ntmps112
  go_wp2_with (go_at_call 116; refine (ho _).mono ?_; rintro e w' ⟨rfl, hg⟩)
  go_ret
  exact ⟨rfl, (((Grew.refl W).alloc _).alloc _).trans hg⟩

set_option maxRecDepth 100000 in
theorem nextID_any (r : Rn) (W : World) : Calls Try.prog 113 #[valRn r] W fun e w' => e = .returned (valId (nextI r)) ∧ Grew W w' := by
  unfold valRn valId nextI
  have hw : IntKind.u64.wrap ((r.a : Int) + (r.c : Int)) = (((r.a + r.c) % 18446744073709551616 : Nat) : Int) := by simp [IntKind.wrap, IntKind.bits, IntKind.signed]
  dsimp only
  generalize (r.a + r.c) % 18446744073709551616 = m at hw ⊢
  go_enter Try.func113, Try.ntmps113
  go_wp2
  refine bodyPost_ret (results_cell_row rfl _ _ _ _ _ _ _ rfl (alloc2_new W _ _) Try.underlying28 rfl (by kernel_rfl)) rfl ?_
  exact ⟨rfl, ((Grew.refl W).alloc _).alloc _⟩

def apartB (r x : Rn) : Bool := ltB (nextI r) (firstI x)

set_option maxRecDepth 100000 in
set_option maxHeartbeats 800000 in
theorem apart_any (r x : Rn) (W : World) : Calls Try.prog 107 #[valRn r, valRn x] W fun e w' => e = .returned (.bool (apartB r x)) ∧ Grew W w' := by
  have hn := fun W' => nextID_any r W'
  have hf := fun W' => firstID_any x W'
  have hl := fun W' => less_any (nextI r) (firstI x) W'
  unfold apartB
  generalize ltB (nextI r) (firstI x) = b at hl ⊢
  generalize valId (nextI r) = vn at hn hl
  generalize valId (firstI x) = vf at hf hl
  unfold valRn at hn hf ⊢
  go_enter Try.func107, Try.ntmps107
  go_wp2_with fail
  generalize hw0 : (W.alloc _).alloc _ = w0
  obtain ⟨hs0, hG, hc1, hc2⟩ := box2 W w0 _ _ _ _ hw0
  obtain ⟨q0, q1, q2⟩ := rn_grown (r := r) (b := W.heap.size) (by omega) (hc1 0 _ rfl) (hc1 1 _ rfl) (hc1 2 _ rfl)
  obtain ⟨p0, p1, p2⟩ := rn_grown (r := x) (b := W.heap.size + 1) (by omega) (hc2 0 _ rfl) (hc2 1 _ rfl) (hc2 2 _ rfl)
  have HG : Hid (Grew W w0) := hG
  have mixed := mixedOrders
  clear hc1 hc2 hw0 hs0 hG
  go_quiet_grown (first | (go_at_call 113; exact Calls.grown_of (hn _)) | (go_at_call 111; exact Calls.grown_of (hf _)) | (go_at_call 112; exact Calls.grown_of (hl _)))
  go_wp2
  go_ret
  exact ⟨rfl, HG.out.grown _ _⟩

theorem may64 (x : Id) : (decide ((x.f : Int) < 64) && mayB x) = mayB x := by
  rw [Bool.eq_iff_iff]
  simp only [Bool.and_eq_true, decide_eq_true_eq]
  refine ⟨fun h => h.2, fun h => ⟨?_, h⟩⟩
  simp only [mayB, Bool.and_eq_true, decide_eq_true_eq] at h
  omega

set_option maxRecDepth 100000 in
theorem refMay_any (x : Id) (n : Int) (W : World) (_ : -9223372036854775808 ≤ n ∧ n ≤ 9223372036854775807) : Calls Try.prog 39 #[valId x, .int .i64 n] W fun e w' => e = .returned (.bool (decide ((x.f : Int) < n) && mayB x)) ∧ Grew W w' := by
  unfold valId mayB
  have h1 := x.hf
  have h2 := x.hs
  generalize x.f = f at h1 ⊢
  generalize x.s = s at h2 ⊢
  go_enter Try.func39, Try.ntmps39
  go_wp2
  all_goals
    go_ret
    refine ⟨ret_bool ?_, (Grew.refl W).alloc _⟩
    rw [Bool.eq_iff_iff]
    simp only [Bool.and_eq_true, decide_eq_true_eq, Bool.false_eq_true]
    first | omega | (rw [false_iff]; omega)

theorem nextI_is {r : Rn} (h : runB r = true) : (nextI r).f = r.f ∧ (nextI r).s = r.a + r.c := by
  rw [runB_iff] at h
  refine ⟨rfl, ?_⟩
  show (r.a + r.c) % 18446744073709551616 = _
  omega

end Go.Proofs.Ytbfjfidodpgohaa
