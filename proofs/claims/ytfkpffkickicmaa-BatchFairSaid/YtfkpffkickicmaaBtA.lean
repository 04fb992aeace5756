/- Words of stage 5: worlds that only grew, later worlds; what runs may be (ident and the document), their last number. -/
import Derived.Test.YtfkpffkickicmaaIdW
import Derived.Test.YtfkpffkickicmaaVcW
import Derived.Test.YtfkpffkickicmaaHeld
import Derived.Shelf.SlSortCmp.QuietGrown
import Derived.Deep.RegionWith
import Derived.Deep.QuietTactic
import Derived.BigQuiet
namespace Go.Proofs.Ytfkpffkickicmaa
open Go.RowKit Go.Sort

/-- The world has only grown: draws, and blocks behind the others. -/
def Grew (w w' : World) : Prop := ∃ q os, w' = grow (w.drewN q) os

section
variable {w w1 w2 : World}
theorem Grew.refl (w : World) : Grew w w := ⟨0, #[], by rw [grow_empty]; rfl⟩
theorem Grew.alloc (h : Grew w w1) (o : Obj) : Grew w (w1.alloc o) := by
  obtain ⟨q, os, rfl⟩ := h
  exact ⟨q, os ++ #[o], by rw [alloc_eq_grow, grow_grow]⟩
theorem Grew.drewN (h : Grew w w1) (n : Nat) : Grew w (w1.drewN n) := by
  obtain ⟨q, os, rfl⟩ := h
  exact ⟨q + n, os, by show grow ((w.drewN q).drewN n) os = _; rw [World.drewN_drewN]⟩
theorem Grew.grown (h : Grew w w1) (n : Nat) (os : Array Obj) : Grew w (grow (w1.drewN n) os) := by
  obtain ⟨q, os', rfl⟩ := h
  exact ⟨q + n, os' ++ os, by show grow (grow ((w.drewN q).drewN n) os') os = _; rw [grow_grow, World.drewN_drewN]⟩
theorem Grew.trans (h : Grew w w1) (h' : Grew w1 w2) : Grew w w2 := by
  obtain ⟨n, os, rfl⟩ := h'
  exact h.grown n os
theorem Grew.size (h : Grew w w1) : w.heap.size ≤ w1.heap.size := by
  obtain ⟨q, os, rfl⟩ := h
  simp
theorem Grew.setCell (h : Grew w w1) (b o : Nat) (u : Value) (hb : w.heap.size ≤ b) : Grew w (w1.setCell ⟨b, o, none⟩ u) := by
  obtain ⟨q, os, rfl⟩ := h
  rw [setCell_eq, mapBlock_grow_new _ _ _ _ (by simpa using hb)]
  exact ⟨q, _, rfl⟩
theorem Grew.below (h : Grew w w1) : Below w.heap.size w w1 := by
  obtain ⟨q, os, rfl⟩ := h
  exact ⟨rfl, rfl, rfl, by simp, fun k hk => by rw [heap_grow_old _ _ (by simpa using hk)]; rfl⟩
end

theorem box2 (W w0 : World) (c1 c2 : Array Value) (t1 t2 : TypeId) (h : (W.alloc (.cells c1 t1)).alloc (.cells c2 t2) = w0) : w0.heap.size = W.heap.size + 1 + 1 ∧ Grew W w0 ∧
    (∀ j u, c1[j]? = some u → w0.cell? ⟨W.heap.size, j, none⟩ = some u) ∧ (∀ j u, c2[j]? = some u → w0.cell? ⟨W.heap.size + 1, j, none⟩ = some u) := by
  subst h
  refine ⟨by simp, ((Grew.refl W).alloc _).alloc _, fun j u hu => ?_, fun j u hu => ?_⟩
  · have h1 : ((W.alloc (.cells c1 t1)).alloc (.cells c2 t2)).heap[W.heap.size]? = some (.cells c1 t1 (0, 0)) := by
      rw [Below.heap_alloc _ _ _ (by simp)]
      exact heap_alloc_new W _
    rw [cell_of_row _ _ _ _ _ _ h1]; exact hu
  · have h1 := heap_alloc_new (W.alloc (.cells c1 t1)) (.cells c2 t2 (0, 0))
    have h2 := cell_of_row _ _ j _ _ _ h1
    rw [show (W.alloc (.cells c1 t1)).heap.size = W.heap.size + 1 by simp] at h2
    rw [h2]; exact hu

def mayB (x : Id) : Bool := decide (x.f < 64) && decide (1 ≤ x.s) && decide (x.s ≤ 4611686018427387904)

def runB (r : Rn) : Bool := decide (r.f < 64) && decide (1 ≤ r.a) && decide (r.a ≤ 4611686018427387904) && decide (1 ≤ r.c) && decide (r.c - 1 ≤ 4611686018427387904 - r.a)

def firstI (r : Rn) : Id := ⟨r.f, r.a, r.hf, r.ha⟩

theorem ret_bool {a b : Bool} (h : a = b) : Ending.returned (.bool a) = Ending.returned (.bool b) := by rw [h]

theorem alloc2_new (W : World) (a b : Obj) : ((W.alloc a).alloc b).heap[W.heap.size + 1]? = some b := by
  have := heap_alloc_new (W.alloc a) b
  rwa [show (W.alloc a).heap.size = W.heap.size + 1 by simp] at this

theorem mixedOrders : Try.prog.follows .mixedOrders = true := by kernel_rfl

theorem rn_grown {w : World} {b : Nat} {r : Rn} (hb : b < w.heap.size) (h0 : w.cell? ⟨b, 0, none⟩ = some (.int .u8 (r.f : Int))) (h1 : w.cell? ⟨b, 1, none⟩ = some (.int .u64 (r.a : Int))) (h2 : w.cell? ⟨b, 2, none⟩ = some (.int .u64 (r.c : Int))) :
    (∀ n os, (grow (w.drewN n) os).cell? ⟨b, 0, none⟩ = some (.int .u8 (r.f : Int))) ∧ (∀ n os, (grow (w.drewN n) os).cell? ⟨b, 1, none⟩ = some (.int .u64 (r.a : Int))) ∧ (∀ n os, (grow (w.drewN n) os).cell? ⟨b, 2, none⟩ = some (.int .u64 (r.c : Int))) :=
  ⟨fun n os => cell_grown hb h0 n os, fun n os => cell_grown hb h1 n os, fun n os => cell_grown hb h2 n os⟩

theorem id_grown {w : World} {b : Nat} {x : Id} (hb : b < w.heap.size) (h0 : w.cell? ⟨b, 0, none⟩ = some (.int .u8 (x.f : Int))) (h1 : w.cell? ⟨b, 1, none⟩ = some (.int .u64 (x.s : Int))) :
    (∀ n os, (grow (w.drewN n) os).cell? ⟨b, 0, none⟩ = some (.int .u8 (x.f : Int))) ∧ (∀ n os, (grow (w.drewN n) os).cell? ⟨b, 1, none⟩ = some (.int .u64 (x.s : Int))) :=
  ⟨fun n os => cell_grown hb h0 n os, fun n os => cell_grown hb h1 n os⟩

theorem box1 (W w0 : World) (c1 : Array Value) (t1 : TypeId) (h : W.alloc (.cells c1 t1) = w0) : w0.heap.size = W.heap.size + 1 ∧ Grew W w0 ∧ (∀ j u, c1[j]? = some u → w0.cell? ⟨W.heap.size, j, none⟩ = some u) := by
  subst h
  refine ⟨by simp, (Grew.refl W).alloc _, fun j u hu => ?_⟩
  rw [cell_of_row _ _ _ _ _ _ (heap_alloc_new W _)]; exact hu

theorem firstID_any (r : Rn) (W : World) : Calls Try.prog 48 #[valRn r] W fun e w' => e = .returned (valId (firstI r)) ∧ Grew W w' := by
  unfold valRn
  go_enter Try.func48, Try.ntmps48
  go_wp2
  refine bodyPost_ret (results_cell_row rfl _ _ _ _ _ _ _ rfl (alloc2_new W _ _) Try.underlying46 rfl (by kernel_rfl)) rfl ?_
  exact ⟨rfl, ((Grew.refl W).alloc _).alloc _⟩

theorem may_any (x : Id) (n : Int) (W : World) (hn : -9223372036854775808 ≤ n ∧ n ≤ 9223372036854775807) : Calls Try.prog 47 #[valId x, .int .i64 n] W fun e w' => e = .returned (.bool (decide ((x.f : Int) < n) && mayB x)) ∧ Grew W w' := by
  unfold valId mayB
  have h1 := x.hf
  have h2 := x.hs
  generalize x.f = f at h1 ⊢
  generalize x.s = s at h2 ⊢
  go_enter Try.func47, Try.ntmps47
  go_wp2
  all_goals
    go_ret
    refine ⟨ret_bool ?_, (Grew.refl W).alloc _⟩
    rw [Bool.eq_iff_iff]
    simp only [Bool.and_eq_true, decide_eq_true_eq, Bool.false_eq_true]
    first | omega | (rw [false_iff]; omega)

set_option maxHeartbeats 800000 in
theorem run_any (r : Rn) (W : World) : Calls Try.prog 43 #[valRn r] W fun e w' => e = .returned (.bool (runB r)) ∧ Grew W w' := by
  have hf := fun W' => firstID_any r W'
  have hm := fun W' => may_any (firstI r) 64 W' (by decide)
  have hmay : (decide (((firstI r).f : Int) < 64) && mayB (firstI r)) = (decide (r.f < 64) && decide (1 ≤ r.a) && decide (r.a ≤ 4611686018427387904)) := by
    rw [Bool.eq_iff_iff]
    simp only [mayB, firstI, Bool.and_eq_true, decide_eq_true_eq]
    constructor
    · rintro ⟨_, ⟨h1, h2⟩, h3⟩
      exact ⟨⟨of_decide_eq_true h1, of_decide_eq_true h2⟩, of_decide_eq_true h3⟩
    · rintro ⟨⟨h1, h2⟩, h3⟩
      exact ⟨decide_eq_true (by have : r.f < 64 := h1; show (r.f : Int) < 64; omega), ⟨decide_eq_true h1, decide_eq_true h2⟩, decide_eq_true h3⟩
  rw [hmay] at hm
  have hr : runB r = ((decide (r.f < 64) && decide (1 ≤ r.a) && decide (r.a ≤ 4611686018427387904)) && (decide (1 ≤ r.c) && decide (r.c - 1 ≤ 4611686018427387904 - r.a))) := by unfold runB; rw [Bool.and_assoc]
  rw [hr]
  have hin : (decide (r.f < 64) && decide (1 ≤ r.a) && decide (r.a ≤ 4611686018427387904)) = true → r.a ≤ 4611686018427387904 := by
    intro h
    simp only [Bool.and_eq_true, decide_eq_true_eq] at h
    omega
  generalize valId (firstI r) = vf at hf hm
  have h1 := r.ha
  have h2 := r.hc
  unfold valRn at hf ⊢
  generalize (decide (r.f < 64) && decide (1 ≤ r.a) && decide (r.a ≤ 4611686018427387904)) = b at hm hin ⊢
  clear hmay hr
  go_enter Try.func43, Try.ntmps43
  go_wp2_with fail
  generalize hw0 : World.alloc W _ = w0
  obtain ⟨hs0, hG, hc1⟩ := box1 W w0 _ _ hw0
  obtain ⟨q0, q1, q2⟩ := rn_grown (r := r) (b := W.heap.size) (by omega) (hc1 0 _ rfl) (hc1 1 _ rfl) (hc1 2 _ rfl)
  have HG : Hid (Grew W w0) := hG
  clear hc1 hw0 hs0 hG
  refine (hf _).mono ?_
  rintro e w' ⟨rfl, n1, o1, rfl⟩
  go_wp2_with fail
  refine (Calls.grown_of (hm _)).mono ?_
  rintro e w' ⟨rfl, ⟨n2, o2⟩, rfl⟩
  dsimp only
  cases b with
  | false =>
    go_wp2
    go_ret
    exact ⟨rfl, HG.out.grown _ _⟩
  | true =>
    have hle := hin rfl
    clear hin hf hm
    by_cases hc1 : 1 ≤ r.c
    · have e1 : IntKind.u64.wrap ((r.c : Int) - 1) = ((r.c - 1 : Nat) : Int) := by rw [IntKind.wrap_u64]; omega
      have e2 : IntKind.u64.wrap (4611686018427387904 - (r.a : Int)) = ((4611686018427387904 - r.a : Nat) : Int) := by rw [IntKind.wrap_u64]; omega
      have hz : (1 : Int) ≤ (r.c : Int) := by omega
      have hc0 := hc1
      clear hc1
      go_wp2
      go_ret
      refine ⟨ret_bool ?_, HG.out.grown _ _⟩
      rw [Bool.eq_iff_iff]
      simp only [Bool.and_eq_true, decide_eq_true_eq, true_and]
      omega
    · have hz : ¬ (1 : Int) ≤ (r.c : Int) := by omega
      go_wp2
      go_ret
      refine ⟨ret_bool ?_, HG.out.grown _ _⟩
      rw [Bool.eq_iff_iff]

theorem mayNot_any (r : Rn) (W : World) : Calls Try.prog 45 #[valRn r] W fun e w' => e = .returned (.bool (!runB r)) ∧ Grew W w' := by
  have hf := fun W' => run_any r W'
  unfold valRn at hf ⊢
  generalize runB r = b at hf ⊢
  go_enter Try.func45, Try.ntmps45
  go_wp2_with (go_at_call 43; refine (hf _).mono ?_; rintro e w' ⟨rfl, hg⟩)
  go_ret
  exact ⟨rfl, ((Grew.refl W).alloc _).trans hg⟩

theorem runB_iff (r : Rn) : runB r = true ↔ r.f < 64 ∧ 1 ≤ r.a ∧ r.a ≤ 4611686018427387904 ∧ 1 ≤ r.c ∧ r.c - 1 ≤ 4611686018427387904 - r.a := by
  simp only [runB, Bool.and_eq_true, decide_eq_true_eq]
  constructor
  · rintro ⟨⟨⟨⟨h1, h2⟩, h3⟩, h4⟩, h5⟩; exact ⟨h1, h2, h3, h4, h5⟩
  · rintro ⟨h1, h2, h3, h4, h5⟩; exact ⟨⟨⟨⟨h1, h2⟩, h3⟩, h4⟩, h5⟩

set_option maxHeartbeats 400000 in
theorem refRun_any (r : Rn) (W : World) : Calls Try.prog 29 #[valRn r] W fun e w' => e = .returned (.bool (runB r)) ∧ Grew W w' := by
  have hr := runB_iff r
  generalize runB r = b at hr ⊢
  have HR := Lib.hid hr
  clear hr
  have h0 := r.hf
  have h1 := r.ha
  have h2 := r.hc
  unfold valRn
  by_cases g1 : 63 < r.f
  · have HG := Lib.hid g1
    have z1 : decide ((63 : Int) < (r.f : Int)) = true := decide_eq_true (by omega)
    clear g1
    go_enter Try.func29, Try.ntmps29
    go_wp2
    go_ret
    refine ⟨ret_bool ?_, (Grew.refl W).alloc _⟩
    rw [Bool.eq_iff_iff, HR.out]
    have := HG.out
    first
    | (simp only [decide_eq_true_eq]; omega)
    | (simp only [Bool.false_eq_true, false_iff]; omega)
  by_cases g2 : r.a = 0
  · have HG := Lib.hid g2
    have z1 : decide ((63 : Int) < (r.f : Int)) = false := decide_eq_false (by omega)
    have z2 : ((r.a : Int) == 0) = true := beq_iff_eq.2 (by omega)
    clear g1 g2
    go_enter Try.func29, Try.ntmps29
    go_wp2
    go_ret
    refine ⟨ret_bool ?_, (Grew.refl W).alloc _⟩
    rw [Bool.eq_iff_iff, HR.out]
    have := HG.out
    first
    | (simp only [decide_eq_true_eq]; omega)
    | (simp only [Bool.false_eq_true, false_iff]; omega)
  by_cases g3 : r.c = 0
  · have HG := Lib.hid g3
    have z1 : decide ((63 : Int) < (r.f : Int)) = false := decide_eq_false (by omega)
    have z2 : ((r.a : Int) == 0) = false := beq_eq_false_iff_ne.2 (by omega)
    have z3 : ((r.c : Int) == 0) = true := beq_iff_eq.2 (by omega)
    clear g1 g2 g3
    go_enter Try.func29, Try.ntmps29
    go_wp2
    go_ret
    refine ⟨ret_bool ?_, (Grew.refl W).alloc _⟩
    rw [Bool.eq_iff_iff, HR.out]
    have := HG.out
    first
    | (simp only [decide_eq_true_eq]; omega)
    | (simp only [Bool.false_eq_true, false_iff]; omega)
  have z1 : decide ((63 : Int) < (r.f : Int)) = false := decide_eq_false (by omega)
  have z2 : ((r.a : Int) == 0) = false := beq_eq_false_iff_ne.2 (by omega)
  have z3 : ((r.c : Int) == 0) = false := beq_eq_false_iff_ne.2 (by omega)
  by_cases g4 : 4611686018427387904 < r.a
  · have HG := Lib.hid g4
    have z4 : decide ((4611686018427387904 : Int) < (r.a : Int)) = true := decide_eq_true (by omega)
    clear g1 g2 g3 g4
    go_enter Try.func29, Try.ntmps29
    go_wp2
    go_ret
    refine ⟨ret_bool ?_, (Grew.refl W).alloc _⟩
    rw [Bool.eq_iff_iff, HR.out]
    have := HG.out
    first
    | (simp only [decide_eq_true_eq]; omega)
    | (simp only [Bool.false_eq_true, false_iff]; omega)
  · have HG : Hid (r.f ≤ 63 ∧ 1 ≤ r.a ∧ 1 ≤ r.c ∧ r.a ≤ 4611686018427387904) := ⟨by omega, by omega, by omega, by omega⟩
    have z4 : decide ((4611686018427387904 : Int) < (r.a : Int)) = false := decide_eq_false (by omega)
    have e1 : IntKind.u64.wrap ((r.c : Int) - 1) = ((r.c - 1 : Nat) : Int) := by rw [IntKind.wrap_u64]; omega
    have e2 : IntKind.u64.wrap (4611686018427387904 - (r.a : Int)) = ((4611686018427387904 - r.a : Nat) : Int) := by rw [IntKind.wrap_u64]; omega
    clear g1 g2 g3 g4
    go_enter Try.func29, Try.ntmps29
    go_wp2
    go_ret
    refine ⟨ret_bool ?_, (Grew.refl W).alloc _⟩
    rw [Bool.eq_iff_iff, HR.out]
    have := HG.out
    first
    | (simp only [decide_eq_true_eq]; omega)
    | (simp only [Bool.false_eq_true, false_iff]; omega)

def lastN (r : Rn) : Nat := (r.a + (r.c + 18446744073709551615) % 18446744073709551616) % 18446744073709551616

theorem refLast_any (r : Rn) (W : World) : Calls Try.prog 25 #[valRn r] W fun e w' => e = .returned (.int .u64 (lastN r)) ∧ Grew W w' := by
  unfold valRn lastN
  have e1 : IntKind.u64.wrap ((r.c : Int) - 1) = (((r.c + 18446744073709551615) % 18446744073709551616 : Nat) : Int) := by rw [IntKind.wrap_u64]; omega
  generalize (r.c + 18446744073709551615) % 18446744073709551616 = c' at e1 ⊢
  have e2 : IntKind.u64.wrap ((r.a : Int) + (c' : Int)) = (((r.a + c') % 18446744073709551616 : Nat) : Int) := by rw [IntKind.wrap_u64]; omega
  generalize (r.a + c') % 18446744073709551616 = m at e2 ⊢
  go_enter Try.func25, Try.ntmps25
  go_wp2
  go_ret
  exact ⟨rfl, (Grew.refl W).alloc _⟩

theorem lastN_is {r : Rn} (h : runB r = true) : lastN r = r.a + (r.c - 1) := by
  rw [runB_iff] at h
  unfold lastN
  omega

/-- A world in which all that lay in w0 lies unturned. -/
structure Later (w0 : World) where
  w : World
  hb : RowKit.Below w0.heap.size w0 w

instance (w0 : World) : Nonempty (Later w0) := ⟨⟨w0, RowKit.Below.refl _ _⟩⟩

theorem wp_region_later {P : Program} {id : Nat} {Q : Exit → Act → World → Prop} {a : Act} {w0 : World} {l : List Oper} (hm : P.follows .mixedOrders = true) (hB : Region.lexB .any l.toArray = true)
    (h : wpQuiet P l.toArray (fun w' => ∃ p : Later w0, w' = p.w) (fun a' => ∀ w', (∃ p : Later w0, w' = p.w) → Q .normal a' w') l a) : (Code.region id l.toArray true).wp P Q a w0 :=
  wp_region_quiet (C := fun w' => ∃ p : Later w0, w' = p.w) hm hB ⟨⟨_, (RowKit.Below.refl _ _).drew⟩, rfl⟩ (by simpa using h)

theorem later_of {P : Program} {f : FuncId} {args : Array Value} {w0 : World} {p : Later w0} {v : Value} (h : Calls P f args p.w fun e w' => e = .returned v ∧ RowKit.Below p.w.heap.size p.w w') : Calls P f args p.w fun e w'' => e = .returned v ∧ ∃ q : Later w0, w'' = q.w :=
  h.mono fun _ w' ⟨he, hb⟩ => ⟨he, ⟨w', p.hb.trans (hb.mono p.hb.size)⟩, rfl⟩

theorem later_grew {P : Program} {f : FuncId} {args : Array Value} {w0 : World} {p : Later w0} {v : Value} (h : Calls P f args p.w fun e w' => e = .returned v ∧ Grew p.w w') : Calls P f args p.w fun e w'' => e = .returned v ∧ ∃ q : Later w0, w'' = q.w :=
  later_of (h.mono fun _ _ ⟨he, hg⟩ => ⟨he, hg.below⟩)

theorem later_cell {w0 : World} {b o : Nat} {v : Value} (hb : b < w0.heap.size) (h : w0.cell? ⟨b, o, none⟩ = some v) (p : Later w0) : p.w.cell? ⟨b, o, none⟩ = some v :=
  (p.hb.cell (p := ⟨b, o, none⟩) hb).trans h

theorem run_lit (r : Rn) (W : World) : Calls Try.prog 43 #[.agg #[.int .u8 (r.f : Int), .int .u64 (r.a : Int), .int .u64 (r.c : Int)]] W fun e w' => e = .returned (.bool (runB r)) ∧ Grew W w' := run_any r W

theorem refRun_lit (r : Rn) (W : World) : Calls Try.prog 29 #[.agg #[.int .u8 (r.f : Int), .int .u64 (r.a : Int), .int .u64 (r.c : Int)]] W fun e w' => e = .returned (.bool (runB r)) ∧ Grew W w' := refRun_any r W

theorem refLast_lit (r : Rn) (W : World) : Calls Try.prog 25 #[.agg #[.int .u8 (r.f : Int), .int .u64 (r.a : Int), .int .u64 (r.c : Int)]] W fun e w' => e = .returned (.int .u64 (lastN r)) ∧ Grew W w' := refLast_any r W

theorem later_same {P : Program} {f : FuncId} {args : Array Value} {w0 : World} {p : Later w0} {v : Value} (h : Calls P f args p.w fun e w' => e = .returned v ∧ p.w = w') : Calls P f args p.w fun e w'' => e = .returned v ∧ ∃ q : Later w0, w'' = q.w :=
  h.mono fun _ _ ⟨he, hb⟩ => ⟨he, p, hb.symm⟩

end Go.Proofs.Ytfkpffkickicmaa
