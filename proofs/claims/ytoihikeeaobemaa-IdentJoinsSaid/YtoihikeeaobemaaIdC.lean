/- The walks of Less, May, Run and their kin (ident). -/
import Derived.Test.YtoihikeeaobemaaIdB
namespace Go.Proofs.Ytoihikeeaobemaa
open Go.RowKit Go.Sort

def ltB (x y : Id) : Bool := decide (ordI x y < 0)
def mayB (x : Id) : Bool := decide (x.f < 64) && decide (1 ≤ x.s) && decide (x.s ≤ 4611686018427387904)
def runB (r : Rn) : Bool := decide (r.f < 64) && decide (1 ≤ r.a) && decide (r.a ≤ 4611686018427387904) && decide (1 ≤ r.c) && decide (r.c - 1 ≤ 4611686018427387904 - r.a)
def firstI (r : Rn) : Id := ⟨r.f, r.a, r.hf, r.ha⟩
def nextI (r : Rn) : Id := ⟨r.f, (r.a + r.c) % 18446744073709551616, r.hf, Nat.mod_lt _ (by decide)⟩

theorem ret_bool {a b : Bool} (h : a = b) : Ending.returned (.bool a) = Ending.returned (.bool b) := by rw [h]

theorem alloc2_new (W : World) (a b : Obj) : ((W.alloc a).alloc b).heap[W.heap.size + 1]? = some b := by
  have := heap_alloc_new (W.alloc a) b
  rwa [show (W.alloc a).heap.size = W.heap.size + 1 by simp] at this

theorem mixedOrders : Try.prog.follows .mixedOrders = true := by kernel_rfl

theorem rn_grown {w : World} {b : Nat} {r : Rn} (hb : b < w.heap.size) (h0 : w.cell? ⟨b, 0, none⟩ = some (.int .u8 (r.f : Int))) (h1 : w.cell? ⟨b, 1, none⟩ = some (.int .u64 (r.a : Int))) (h2 : w.cell? ⟨b, 2, none⟩ = some (.int .u64 (r.c : Int))) :
    (∀ n os, (grow (w.drewN n) os).cell? ⟨b, 0, none⟩ = some (.int .u8 (r.f : Int))) ∧ (∀ n os, (grow (w.drewN n) os).cell? ⟨b, 1, none⟩ = some (.int .u64 (r.a : Int))) ∧ (∀ n os, (grow (w.drewN n) os).cell? ⟨b, 2, none⟩ = some (.int .u64 (r.c : Int))) :=
  ⟨fun n os => cell_grown hb h0 n os, fun n os => cell_grown hb h1 n os, fun n os => cell_grown hb h2 n os⟩

theorem id_grown {w : World} {b : Nat} {x : Id} (hb : b < w.heap.size) (h0 : w.cell? ⟨b, 0, none⟩ = some (.int .u8 (x.f : Int))) (h1 : w.cell? ⟨b, 1, none⟩ = some (.int .u64 (x.s : Int))) :
    (∀ n os, (grow (w.drewN n) os).cell? ⟨b, 0, none⟩ = some (.int .u8 (x.f : Int))) ∧ (∀ n os, (grow (w.drewN n) os).cell? ⟨b, 1, none⟩ = some (.int .u64 (x.s : Int))) :=
  ⟨fun n os => cell_grown hb h0 n os, fun n os => cell_grown hb h1 n os⟩

theorem box1 (W w0 : World) (c1 : Array Value) (t1 : TypeId) (h : W.alloc (.cells c1 t1) = w0) : w0.heap.size = W.heap.size + 1 ∧ Grew W w0 ∧ (∀ j u, c1[j]? = some u → w0.cell? ⟨W.heap.size, j, none⟩ = some u) := by
  subst h
  refine ⟨by simp, (Grew.refl W).alloc _, fun j u hu => ?_⟩
  rw [cell_of_row _ _ _ _ _ _ (heap_alloc_new W _)]; exact hu

set_option maxHeartbeats 400000 in
theorem less_any (x y : Id) (W : World) : Calls Try.prog 11 #[valId x, valId y] W fun e w' => e = .returned (.bool (ltB x y)) ∧ Grew W w' := by
  have ho := fun W' => order_any x y W'
  unfold ltB
  unfold valId at ho ⊢
  generalize ordI x y = r at ho ⊢
  go_enter Try.func11, Try.ntmps11
  go_wp2_with (go_at_call 27; refine (ho _).mono ?_; rintro e w' ⟨rfl, hg⟩)
  go_ret
  exact ⟨rfl, (((Grew.refl W).alloc _).alloc _).trans hg⟩

theorem firstID_any (r : Rn) (W : World) : Calls Try.prog 28 #[valRn r] W fun e w' => e = .returned (valId (firstI r)) ∧ Grew W w' := by
  unfold valRn
  go_enter Try.func28, Try.ntmps28
  go_wp2
  refine bodyPost_ret (results_cell_row rfl _ _ _ _ _ _ _ rfl (alloc2_new W _ _) Try.underlying24 rfl (by kernel_rfl)) rfl ?_
  exact ⟨rfl, ((Grew.refl W).alloc _).alloc _⟩

theorem may_any (x : Id) (n : Int) (W : World) (hn : -9223372036854775808 ≤ n ∧ n ≤ 9223372036854775807) : Calls Try.prog 9 #[valId x, .int .i64 n] W fun e w' => e = .returned (.bool (decide ((x.f : Int) < n) && mayB x)) ∧ Grew W w' := by
  unfold valId mayB
  have h1 := x.hf
  have h2 := x.hs
  generalize x.f = f at h1 ⊢
  generalize x.s = s at h2 ⊢
  go_enter Try.func9, Try.ntmps9
  go_wp2
  all_goals
    go_ret
    refine ⟨ret_bool ?_, (Grew.refl W).alloc _⟩
    rw [Bool.eq_iff_iff]
    simp only [Bool.and_eq_true, decide_eq_true_eq, Bool.false_eq_true]
    first | omega | (rw [false_iff]; omega)

theorem nextID_any (r : Rn) (W : World) : Calls Try.prog 35 #[valRn r] W fun e w' => e = .returned (valId (nextI r)) ∧ Grew W w' := by
  unfold valRn valId nextI
  have hw : IntKind.u64.wrap ((r.a : Int) + (r.c : Int)) = (((r.a + r.c) % 18446744073709551616 : Nat) : Int) := by simp [IntKind.wrap, IntKind.bits, IntKind.signed]
  dsimp only
  generalize (r.a + r.c) % 18446744073709551616 = m at hw ⊢
  go_enter Try.func35, Try.ntmps35
  go_wp2
  refine bodyPost_ret (results_cell_row rfl _ _ _ _ _ _ _ rfl (alloc2_new W _ _) Try.underlying24 rfl (by kernel_rfl)) rfl ?_
  exact ⟨rfl, ((Grew.refl W).alloc _).alloc _⟩

def apartB (r x : Rn) : Bool := ltB (nextI r) (firstI x)

set_option maxHeartbeats 800000 in
theorem apart_any (r x : Rn) (W : World) : Calls Try.prog 29 #[valRn r, valRn x] W fun e w' => e = .returned (.bool (apartB r x)) ∧ Grew W w' := by
  have hn := fun W' => nextID_any r W'
  have hf := fun W' => firstID_any x W'
  have hl := fun W' => less_any (nextI r) (firstI x) W'
  unfold apartB
  generalize ltB (nextI r) (firstI x) = b at hl ⊢
  generalize valId (nextI r) = vn at hn hl
  generalize valId (firstI x) = vf at hf hl
  unfold valRn at hn hf ⊢
  go_enter Try.func29, Try.ntmps29
  go_wp2_with fail
  generalize hw0 : (W.alloc _).alloc _ = w0
  obtain ⟨hs0, hG, hc1, hc2⟩ := box2 W w0 _ _ _ _ hw0
  obtain ⟨q0, q1, q2⟩ := rn_grown (r := r) (b := W.heap.size) (by omega) (hc1 0 _ rfl) (hc1 1 _ rfl) (hc1 2 _ rfl)
  obtain ⟨p0, p1, p2⟩ := rn_grown (r := x) (b := W.heap.size + 1) (by omega) (hc2 0 _ rfl) (hc2 1 _ rfl) (hc2 2 _ rfl)
  have HG : Hid (Grew W w0) := hG
  have mixed := mixedOrders
  clear hc1 hc2 hw0 hs0 hG
  go_quiet_grown (first | (go_at_call 35; exact Calls.grown_of (hn _)) | (go_at_call 28; exact Calls.grown_of (hf _)) | (go_at_call 11; exact Calls.grown_of (hl _)))
  go_wp2
  go_ret
  exact ⟨rfl, HG.out.grown _ _⟩

set_option maxHeartbeats 800000 in
theorem run_any (r : Rn) (W : World) : Calls Try.prog 13 #[valRn r] W fun e w' => e = .returned (.bool (runB r)) ∧ Grew W w' := by
  have hf := fun W' => firstID_any r W'
  have hm := fun W' => may_any (firstI r) 64 W' (by decide)
  have hmay : (decide (((firstI r).f : Int) < 64) && mayB (firstI r)) = (decide (r.f < 64) && decide (1 ≤ r.a) && decide (r.a ≤ 4611686018427387904)) := by
    rw [Bool.eq_iff_iff]
    simp only [mayB, firstI, Bool.and_eq_true, decide_eq_true_eq]
    constructor
    · rintro ⟨_, ⟨h1, h2⟩, h3⟩
      exact ⟨⟨of_decide_eq_true h1, of_decide_eq_true h2⟩, of_decide_eq_true h3⟩
    · rintro ⟨⟨h1, h2⟩, h3⟩
      exact ⟨decide_eq_true (by have : r.f < 64 := h1; show (r.f : Int) < 64; omega), ⟨decide_eq_true h1, decide_eq_true h2⟩, decide_eq_true h3⟩
  rw [hmay] at hm
  have hr : runB r = ((decide (r.f < 64) && decide (1 ≤ r.a) && decide (r.a ≤ 4611686018427387904)) && (decide (1 ≤ r.c) && decide (r.c - 1 ≤ 4611686018427387904 - r.a))) := by unfold runB; rw [Bool.and_assoc]
  rw [hr]
  have hin : (decide (r.f < 64) && decide (1 ≤ r.a) && decide (r.a ≤ 4611686018427387904)) = true → r.a ≤ 4611686018427387904 := by
    intro h
    simp only [Bool.and_eq_true, decide_eq_true_eq] at h
    omega
  generalize valId (firstI r) = vf at hf hm
  have h1 := r.ha
  have h2 := r.hc
  unfold valRn at hf ⊢
  generalize (decide (r.f < 64) && decide (1 ≤ r.a) && decide (r.a ≤ 4611686018427387904)) = b at hm hin ⊢
  clear hmay hr
  go_enter Try.func13, Try.ntmps13
  go_wp2_with fail
  generalize hw0 : World.alloc W _ = w0
  obtain ⟨hs0, hG, hc1⟩ := box1 W w0 _ _ hw0
  obtain ⟨q0, q1, q2⟩ := rn_grown (r := r) (b := W.heap.size) (by omega) (hc1 0 _ rfl) (hc1 1 _ rfl) (hc1 2 _ rfl)
  have HG : Hid (Grew W w0) := hG
  clear hc1 hw0 hs0 hG
  refine (hf _).mono ?_
  rintro e w' ⟨rfl, n1, o1, rfl⟩
  go_wp2_with fail
  refine (Calls.grown_of (hm _)).mono ?_
  rintro e w' ⟨rfl, ⟨n2, o2⟩, rfl⟩
  dsimp only
  cases b with
  | false =>
    go_wp2
    go_ret
    exact ⟨rfl, HG.out.grown _ _⟩
  | true =>
    have hle := hin rfl
    clear hin hf hm
    by_cases hc1 : 1 ≤ r.c
    · have e1 : IntKind.u64.wrap ((r.c : Int) - 1) = ((r.c - 1 : Nat) : Int) := by rw [IntKind.wrap_u64]; omega
      have e2 : IntKind.u64.wrap (4611686018427387904 - (r.a : Int)) = ((4611686018427387904 - r.a : Nat) : Int) := by rw [IntKind.wrap_u64]; omega
      have hz : (1 : Int) ≤ (r.c : Int) := by omega
      have hc0 := hc1
      clear hc1
      go_wp2
      go_ret
      refine ⟨ret_bool ?_, HG.out.grown _ _⟩
      rw [Bool.eq_iff_iff]
      simp only [Bool.and_eq_true, decide_eq_true_eq, true_and]
      omega
    · have hz : ¬ (1 : Int) ≤ (r.c : Int) := by omega
      go_wp2
      go_ret
      refine ⟨ret_bool ?_, HG.out.grown _ _⟩
      rw [Bool.eq_iff_iff]

theorem mayNot_any (r : Rn) (W : World) : Calls Try.prog 33 #[valRn r] W fun e w' => e = .returned (.bool (!runB r)) ∧ Grew W w' := by
  have hf := fun W' => run_any r W'
  unfold valRn at hf ⊢
  generalize runB r = b at hf ⊢
  go_enter Try.func33, Try.ntmps33
  go_wp2_with (go_at_call 13; refine (hf _).mono ?_; rintro e w' ⟨rfl, hg⟩)
  go_ret
  exact ⟨rfl, ((Grew.refl W).alloc _).trans hg⟩

theorem may64 (x : Id) : (decide ((x.f : Int) < 64) && mayB x) = mayB x := by
  rw [Bool.eq_iff_iff]
  simp only [Bool.and_eq_true, decide_eq_true_eq]
  refine ⟨fun h => h.2, fun h => ⟨?_, h⟩⟩
  simp only [mayB, Bool.and_eq_true, decide_eq_true_eq] at h
  omega

theorem joinOut_any (x : Id) (W : World) : Calls Try.prog 37 #[valId x] W fun e w' => e = .returned (.bool (!mayB x)) ∧ Grew W w' := by
  have hf := fun W' => may_any x 64 W' (by decide)
  rw [may64] at hf
  unfold valId at hf ⊢
  generalize mayB x = b at hf ⊢
  go_enter Try.func37, Try.ntmps37
  go_wp2_with (go_at_call 9; refine (hf _).mono ?_; rintro e w' ⟨rfl, hg⟩)
  go_ret
  exact ⟨rfl, ((Grew.refl W).alloc _).trans hg⟩

end Go.Proofs.Ytoihikeeaobemaa
