/- Stage 13: chunks (picked out of the texts of stage 12). -/
import Derived.Test.YthkongnjokmmfaaDoorGaA
import Derived.Deep.MidRow
import Derived.Deep.Strs
import Derived.Lib.Hide
import Derived.Lib.SmallJoins
import Derived.OpenShut
import Derived.WalkKit
import Derived.WalkLawsBesides
import Derived.WalkSpells
set_option maxRecDepth 20000
namespace Go.Proofs.YthkongnjokmmfaaDoor
open Go.RowKit Go.Sort Go.ChangeShapes Go.WideShapes Go.ChangeAt

/-- A frame, and where its five slices lie. -/
structure Pf where
  F : Fr
  p : Fin 5 → Hd

def Pf.cs (x : Pf) : Array Value := frCells x.F (.slice (x.p 0).1 x.F.est.length (x.p 0).2) (.slice (x.p 1).1 x.F.aux.length (x.p 1).2) (.slice (x.p 2).1 x.F.done.length (x.p 2).2) (.slice (x.p 3).1 x.F.held.length (x.p 3).2) (.slice (x.p 4).1 x.F.data.length (x.p 4).2)

def encPf (x : Pf) : List Value := x.cs.toList

theorem encPf_len (x : Pf) : (encPf x).length = 16 := rfl

theorem Pf.size (x : Pf) : x.cs.size = 16 := rfl

theorem encPf_one (x : Pf) : ∀ v ∈ encPf x, v.oneCell' = true := by
  intro v hv
  simp only [encPf, Pf.cs, frCells, List.mem_cons, List.not_mem_nil, or_false] at hv
  rcases hv with rfl | rfl | rfl | rfl | rfl | rfl | rfl | rfl | rfl | rfl | rfl | rfl | rfl | rfl | rfl | rfl <;> rfl

theorem Pf.one (x : Pf) : x.cs.all (·.oneCell') = true := all_oneCell_toArray (encPf_one x)

/-- Its slices lie outside of D. -/
def Pf.X (w : World) (D : Nat → Prop) (x : Pf) : Prop :=
  LiesX w D (x.p 0).1 (flat encRn x.F.est) ∧ LiesX w D (x.p 1).1 (flat encRn x.F.aux) ∧ LiesX w D (x.p 2).1 (uvs x.F.done) ∧ LiesX w D (x.p 3).1 (uvs x.F.held) ∧ LiesX w D (x.p 4).1 (bvs x.F.data)

theorem Pf.X.kept {w w' : World} {D : Nat → Prop} {x : Pf} (h : x.X w D) (ho : OnlyE w w' D) : x.X w' D := ⟨h.1.kept ho, h.2.1.kept ho, h.2.2.1.kept ho, h.2.2.2.1.kept ho, h.2.2.2.2.kept ho⟩

theorem Pf.X.widen {w : World} {D D' : Nat → Prop} {x : Pf} (h : x.X w D) (hD : ∀ k, D' k → w.heap.size ≤ k ∨ D k) : x.X w D' := ⟨h.1.widen hD, h.2.1.widen hD, h.2.2.1.widen hD, h.2.2.2.1.widen hD, h.2.2.2.2.widen hD⟩

theorem Pf.X.on {w w' : World} {D : Nat → Prop} {x : Pf} (h : x.X w D) (hb : RowKit.Below w.heap.size w w') : x.X w' D := h.kept (OnlyE.of_below hb)

theorem Pf.X.frl {w : World} {D : Nat → Prop} {x : Pf} (h : x.X w D) : FrL w x.F x.cs := ⟨x.p, rfl, h.1.lies, h.2.1.lies, h.2.2.1.lies, h.2.2.2.1.lies, h.2.2.2.2.lies⟩

theorem FrX.pf {w : World} {D : Nat → Prop} {F : Fr} {cs : Array Value} (h : FrX w D F cs) : ∃ x : Pf, x.F = F ∧ cs = x.cs ∧ x.X w D := by
  obtain ⟨p, rfl, h0, h1, h2, h3, h4⟩ := h
  exact ⟨⟨F, p⟩, rfl, rfl, h0, h1, h2, h3, h4⟩

theorem FrV.pf {w : World} {D : Nat → Prop} {F : Fr} {cs : Array Value} (h : FrV w D F cs) : ∃ x : Pf, x.F = F ∧ cs = x.cs ∧ x.X w D := by
  obtain ⟨ve, vx, vn, vh, vd, rfl, ⟨A1, c1, rfl, -, -, h1⟩, ⟨A2, c2, rfl, -, -, h2⟩, ⟨A3, c3, rfl, -, -, h3⟩, ⟨A4, c4, rfl, -, -, h4⟩, ⟨A5, c5, rfl, -, -, h5⟩⟩ := h
  exact ⟨⟨F, fun i => match i with | 0 => (A1, c1) | 1 => (A2, c2) | 2 => (A3, c3) | 3 => (A4, c4) | 4 => (A5, c5)⟩, rfl, rfl, h1, h2, h3, h4, h5⟩

/-- Its slices are of the call's own. -/
def Pf.Own (w : World) (base : Nat) (x : Pf) : Prop :=
  w.ownsRow base 118 3 (.slice (x.p 0).1 x.F.est.length (x.p 0).2) x.F.est.length (flat encRn x.F.est) ∧ w.ownsRow base 118 3 (.slice (x.p 1).1 x.F.aux.length (x.p 1).2) x.F.aux.length (flat encRn x.F.aux) ∧
  w.ownsRow base 23 1 (.slice (x.p 2).1 x.F.done.length (x.p 2).2) x.F.done.length (uvs x.F.done) ∧ w.ownsRow base 23 1 (.slice (x.p 3).1 x.F.held.length (x.p 3).2) x.F.held.length (uvs x.F.held) ∧
  w.ownsRow base 5 1 (.slice (x.p 4).1 x.F.data.length (x.p 4).2) x.F.data.length (bvs x.F.data)

theorem Pf.Own.toX {w : World} {base : Nat} {D : Nat → Prop} {x : Pf} (h : x.Own w base) (hD : ∀ k, D k → k < base) : x.X w D := ⟨LiesX.of_own h.1 hD, LiesX.of_own h.2.1 hD, LiesX.of_own h.2.2.1 hD, LiesX.of_own h.2.2.2.1 hD, LiesX.of_own h.2.2.2.2 hD⟩

theorem Pf.Own.only {w w' : World} {base : Nat} {D : Nat → Prop} {x : Pf} (h : x.Own w base) (ho : OnlyE w w' D) (hD : ∀ k, D k → k < base ∨ w.heap.size ≤ k) : x.Own w' base := by
  have key : ∀ {k : Nat} {e : TypeId} {v : Value} {n : Nat} {xs : List Value}, w.ownsRow base e k v n xs → w'.ownsRow base e k v n xs := fun h => own_only h ho fun b hb hd => by
    have := h.lt b hb
    have := hD b hd
    omega
  exact ⟨key h.1, key h.2.1, key h.2.2.1, key h.2.2.2.1, key h.2.2.2.2⟩

theorem Pf.Own.on {w w' : World} {base : Nat} {x : Pf} (h : x.Own w base) (hb : RowKit.Below w.heap.size w w') : x.Own w' base := h.only (D := fun _ => False) (OnlyE.of_below hb) fun _ h => h.elim

theorem Pf.Own.base {w : World} {base base' : Nat} {x : Pf} (h : x.Own w base) (hb : base' ≤ base) : x.Own w base' := ⟨own_base h.1 hb |> fun h => h, own_base h.2.1 hb, own_base h.2.2.1 hb, own_base h.2.2.2.1 hb, own_base h.2.2.2.2 hb⟩

/-- .. in blocks below the heap's end. -/
theorem Pf.Own.X {w : World} {base : Nat} {D : Nat → Prop} {x : Pf} (h : x.Own w base) (hD : ∀ k, D k → k < base ∨ w.heap.size ≤ k) : x.X w D := by
  have h1 : x.X w (fun k => k < base) := h.toX fun _ h => h
  exact h1.widen fun k hk => (hD k hk).symm

theorem own_heap {w : World} {base k : Nat} {e : TypeId} {v : Value} {n : Nat} {xs : List Value} (h : w.ownsRow base e k v n xs) {g : Nat} (hg : v.ownBlock = some g) : ∃ cur, w.heap[g]? = some (.cells cur e (0, 0)) := by
  rcases h.2 with ⟨h1, _⟩ | ⟨g', c, cur, h1, _, h2, _⟩
  · rw [h1] at hg; simp [Value.ownBlock] at hg
  · rw [h1] at hg
    simp only [Value.ownBlock, Option.some.injEq] at hg
    subst hg
    exact ⟨cur, h2⟩

/-- The cells of an element of a row of frames. -/
theorem row_at {w : World} {B : Nat} {A : Option Addr} {l : List Pf} (h : Lies w B A (flat encPf l)) {i : Nat} (hi : i < l.length) : ∃ b off, A = some ⟨b, off, none⟩ ∧ b < B ∧ w.rangeAt b (off + i * 16) (encPf l[i]) := by
  have hne : flat encPf l ≠ [] := by
    intro h0
    have := congrArg List.length h0
    rw [flat_length encPf_len] at this
    simp at this
    omega
  obtain ⟨b, off, e, hb, hc⟩ := h hne
  refine ⟨b, off, e, hb, fun j v hv => ?_⟩
  have hj : j < 16 := by
    have := (List.getElem?_eq_some_iff.1 hv).1
    rwa [encPf_len] at this
  have := flat_at encPf_len l i j hj hi
  rw [hv] at this
  have h2 := hc (i * 16 + j) v this
  rwa [← Nat.add_assoc] at h2

theorem infoFr : (Tryd.prog.info? 41).map (·.size) = some 16 := by kernel_rfl

section
variable {ops : Array Oper} {rest : List Oper} {dst : Option Tmp} {ty : TypeId} {pos : String} {aft : Array Edge} {a : Act} {w : World} {Q : Exit → Act → World → Prop}

/-- An element of a row of frames is loaded whole. -/
theorem load_elem (y : Operand) {b o : Nat} {x : Pf} (hx : a.eval y = .pointer (some ⟨b, o, none⟩)) (hc : w.rangeAt b o (encPf x))
    (h : wpList Tryd.prog ops Q rest (a.put dst (.agg x.cs)) w) : wpList Tryd.prog ops Q (⟨dst, .load 41 y, ty, pos, aft, none⟩ :: rest) a w :=
  wpList_load_mid rfl _ y rfl b o hx (encPf x) _ hc Tryd.underlying41 rfl (infoFr.trans (by rw [encPf_len])) h

end

/-- append, where what it comes to is known. -/
theorem wpList_append_run {P : Program} {ops : Array Oper} {rest : List Oper} {o : Oper} {a : Act} {w w' : World} {v vx v' : Value} {Q : Exit → Act → World → Prop} (hgd : o.guard = none) (s x : Operand) (t : TypeId) (ho : o.op = .call { callee := .builtin .append, args := #[s, x], argTypes := #[t, t] })
    (hs : a.eval s = v) (hx : a.eval x = vx) (hrun : (Builtin.append_ #[t, t] o.type #[v, vx]).run P w = .ok v' w') (h : wpList P ops Q rest (a.put o.dst v') w') : wpList P ops Q (o :: rest) a w := by
  refine wpList_plain hgd fun K hK => ?_
  have hk := hK _ _ h
  unfold Oper.wp execOp
  simp only [ho, resolve, invoke, builtin, Sem.run_bind, Sem.run_pure, Result.andThen_ok, List.map_toArray, List.map_cons, List.map_nil, hs, hx, hrun]
  exact hk

def zid : Id := ⟨0, 0, by decide, by decide⟩

/-- A list that was just built. -/
theorem LiesX.of_new {w : World} {D : Nat → Prop} (cs : Array Value) (t : TypeId) (hD : ¬ D w.heap.size) : LiesX (w.alloc (.cells cs t)) D (some ⟨w.heap.size, 0, none⟩) cs.toList := fun hn => by
  obtain ⟨b, off, e, hb, hc⟩ := lies_new w cs t hn
  injection e with e
  injection e with e1 e2
  subst e1 e2
  exact ⟨_, _, rfl, by simp, hD, hc⟩

/-- How many chunks n bytes have by k. -/
def cntN (n k : Nat) : Nat := max 1 ((n + k - 1) / k)

theorem cntN_pos (n k : Nat) : 1 ≤ cntN n k := Nat.le_max_left _ _

theorem cntN_lt {n k a : Nat} (hk : 1 ≤ k) : a + 1 < cntN n k ↔ (a + 1) * k < n := by
  have h1 : a + 2 ≤ (n + k - 1) / k ↔ (a + 2) * k ≤ n + k - 1 := Nat.le_div_iff_mul_le hk
  have h2 : (a + 2) * k = (a + 1) * k + k := by rw [Nat.add_mul, Nat.add_mul]; omega
  unfold cntN
  rw [h2] at h1
  omega

theorem cntN_mul {n k a : Nat} (hk : 1 ≤ k) (h : a < cntN n k) : a * k ≤ n := by
  cases a with
  | zero => omega
  | succ a => exact Nat.le_of_lt ((cntN_lt hk).1 h)

theorem cntN_small {n k : Nat} (hk : 1 ≤ k) (h : n ≤ k) : cntN n k = 1 := by
  have h1 := cntN_pos n k
  have h2 := (cntN_lt (n := n) (a := 0) hk).1
  omega

theorem cntN_step {n k : Nat} (hk : 1 ≤ k) (h : k < n) : cntN n k = cntN (n - k) k + 1 := by
  unfold cntN
  have e : n + k - 1 = (n - k + k - 1) + k := by omega
  rw [e, Nat.add_div_right _ (by omega)]
  have : 1 ≤ (n - k + k - 1) / k := (Nat.le_div_iff_mul_le (by omega)).2 (by omega)
  omega

theorem cntN_le (n k : Nat) : cntN n k ≤ n + 1 := by
  unfold cntN
  rcases Nat.eq_zero_or_pos k with rfl | hk
  · simp
  · have : (n + k - 1) / k < n + 1 := (Nat.div_lt_iff_lt_mul hk).2 (by
      have : n ≤ n * k := Nat.le_mul_of_pos_right _ hk
      rw [Nat.add_mul]; omega)
    omega

/-- What Count and Length tell. -/
def Fit (s k : Int) : Prop := 0 ≤ s ∧ s ≤ 1048576 ∧ 1 ≤ k ∧ k ≤ 65536

instance (s k : Int) : Decidable (Fit s k) := inferInstanceAs (Decidable (_ ∧ _))

def cntZ (s k : Int) : Nat := if Fit s k then cntN s.toNat k.toNat else 0

def There (s k a : Int) : Prop := 0 ≤ a ∧ a < (cntZ s k : Int)

instance (s k a : Int) : Decidable (There s k a) := inferInstanceAs (Decidable (_ ∧ _))

def fromZ (s k a : Int) : Nat := if There s k a then a.toNat * k.toNat else 0

def uptoZ (s k a : Int) : Nat := if There s k a then min (a.toNat * k.toNat + k.toNat) s.toNat else 0

def lenZ (s k a : Int) : Nat := uptoZ s k a - fromZ s k a

theorem cntZ_yes {n k : Nat} (hn : n ≤ 1048576) (hk : 1 ≤ k) (hk2 : k ≤ 65536) : cntZ (n : Int) (k : Int) = cntN n k := by
  unfold cntZ
  rw [if_pos (by unfold Fit; omega), Int.toNat_natCast, Int.toNat_natCast]

theorem cntZ_no {s k : Int} (h : ¬ Fit s k) : cntZ s k = 0 := if_neg h

theorem there_fit {s k a : Int} (h : There s k a) : Fit s k := Decidable.byContradiction fun hf => by
  have := cntZ_no hf
  obtain ⟨h1, h2⟩ := h
  omega

theorem fit_nat {s k : Int} (h : Fit s k) : ∃ n m : Nat, s = n ∧ k = m ∧ n ≤ 1048576 ∧ 1 ≤ m ∧ m ≤ 65536 := by
  obtain ⟨h1, h2, h3, h4⟩ := h
  exact ⟨s.toNat, k.toNat, by omega, by omega, by omega, by omega, by omega⟩

theorem there_nat {s k a : Int} (h : There s k a) : ∃ n m i : Nat, s = n ∧ k = m ∧ a = i ∧ n ≤ 1048576 ∧ 1 ≤ m ∧ m ≤ 65536 ∧ i < cntN n m := by
  obtain ⟨n, m, rfl, rfl, h1, h2, h3⟩ := fit_nat (there_fit h)
  obtain ⟨h4, h5⟩ := h
  rw [cntZ_yes h1 h2 h3] at h5
  exact ⟨n, m, a.toNat, rfl, rfl, by omega, h1, h2, h3, by omega⟩

theorem there_yes {n k a : Nat} (hn : n ≤ 1048576) (hk : 1 ≤ k) (hk2 : k ≤ 65536) : There (n : Int) (k : Int) (a : Int) ↔ a < cntN n k := by
  unfold There
  rw [cntZ_yes hn hk hk2]
  omega

theorem fromZ_yes {n k a : Nat} (hn : n ≤ 1048576) (hk : 1 ≤ k) (hk2 : k ≤ 65536) (ha : a < cntN n k) : fromZ (n : Int) (k : Int) (a : Int) = a * k := by
  unfold fromZ
  rw [if_pos ((there_yes hn hk hk2).2 ha), Int.toNat_natCast, Int.toNat_natCast]

theorem uptoZ_yes {n k a : Nat} (hn : n ≤ 1048576) (hk : 1 ≤ k) (hk2 : k ≤ 65536) (ha : a < cntN n k) : uptoZ (n : Int) (k : Int) (a : Int) = min (a * k + k) n := by
  unfold uptoZ
  rw [if_pos ((there_yes hn hk hk2).2 ha), Int.toNat_natCast, Int.toNat_natCast, Int.toNat_natCast]

theorem fromZ_no {s k a : Int} (h : ¬ There s k a) : fromZ s k a = 0 := if_neg h

theorem uptoZ_no {s k a : Int} (h : ¬ There s k a) : uptoZ s k a = 0 := if_neg h

theorem lenZ_no {s k a : Int} (h : ¬ There s k a) : lenZ s k a = 0 := by unfold lenZ; rw [uptoZ_no h, fromZ_no h]

theorem from_upto (s k a : Int) : fromZ s k a ≤ uptoZ s k a := by
  by_cases h : There s k a
  · obtain ⟨n, m, i, rfl, rfl, rfl, h1, h2, h3, h4⟩ := there_nat h
    rw [fromZ_yes h1 h2 h3 h4, uptoZ_yes h1 h2 h3 h4]
    have := cntN_mul h2 h4
    omega
  · rw [fromZ_no h]; omega

theorem upto_le (n : Nat) (k a : Int) : uptoZ (n : Int) k a ≤ n := by
  by_cases h : There (n : Int) k a
  · obtain ⟨n', m, i, e, rfl, rfl, h1, h2, h3, h4⟩ := there_nat h
    obtain rfl : n = n' := by omega
    rw [uptoZ_yes h1 h2 h3 h4]
    omega
  · rw [uptoZ_no h]; omega

theorem upto_small (s k a : Int) : uptoZ s k a ≤ 1048576 := by
  by_cases h : There s k a
  · obtain ⟨n, m, i, rfl, rfl, rfl, h1, h2, h3, h4⟩ := there_nat h
    rw [uptoZ_yes h1 h2 h3 h4]
    omega
  · rw [uptoZ_no h]; omega

theorem lenZ_full {n k a : Nat} (hn : n ≤ 1048576) (hk : 1 ≤ k) (hk2 : k ≤ 65536) (ha : a + 1 < cntN n k) : lenZ (n : Int) (k : Int) (a : Int) = k := by
  have := (cntN_lt hk).1 ha
  unfold lenZ
  rw [fromZ_yes hn hk hk2 (by omega), uptoZ_yes hn hk hk2 (by omega)]
  rw [Nat.add_mul] at this
  omega

theorem lenZ_last {n k a : Nat} (hn : n ≤ 1048576) (hk : 1 ≤ k) (hk2 : k ≤ 65536) (ha : a + 1 = cntN n k) : lenZ (n : Int) (k : Int) (a : Int) = n - a * k := by
  have h1 : ¬ (a + 1) * k < n := fun h => by have := (cntN_lt hk).2 h; omega
  have := cntN_mul (a := a) hk (by omega : a < cntN n k)
  unfold lenZ
  rw [fromZ_yes hn hk hk2 (by omega), uptoZ_yes hn hk hk2 (by omega)]
  rw [Nat.add_mul] at h1
  omega

theorem lenZ_pos {n k a : Nat} (hn : n ≤ 1048576) (hk : 1 ≤ k) (hk2 : k ≤ 65536) (ha : a < cntN n k) (h0 : 0 < n) : 0 < lenZ (n : Int) (k : Int) (a : Int) := by
  by_cases h : a + 1 < cntN n k
  · rw [lenZ_full hn hk hk2 h]; omega
  · rw [lenZ_last hn hk hk2 (by omega)]
    cases a with
    | zero => omega
    | succ a =>
      have := (cntN_lt hk).1 ha
      omega

theorem lenZ_le (s k a : Int) : lenZ s k a ≤ 1048576 := by
  have := upto_small s k a
  unfold lenZ
  omega

theorem awake_c1 : cntZ 5 2 = 3 := by decide

theorem awake_c2 : lenZ 5 2 1 = 2 := by decide

theorem awake_c3 : lenZ 5 2 2 = 1 := by decide

theorem awake_c4 : cntZ 0 2 = 1 := by decide

theorem cntN_int (n : Nat) {k : Nat} (hk : 1 ≤ k) : (cntN n k : Int) = max 1 (((n : Int) + k - 1) / k) := by
  unfold cntN
  have : (((n + k - 1) / k : Nat) : Int) = ((n : Int) + k - 1) / k := by
    rw [Int.natCast_ediv]
    congr 1
    omega
  omega

theorem count_any (s k : Int) (w : World) : Calls Tryd.prog 57 #[.int .i64 s, .int .i64 k] w fun e w' => e = .returned (.int .i64 (cntZ s k : Int)) ∧ w' = w := by
  by_cases h1 : s < 0
  · rw [cntZ_no (by unfold Fit; omega)]
    have d1 : decide (s < 0) = true := by simpa using h1
    go_enter Tryd.func57, Tryd.ntmps57
    go_wp2
    go_ret
    exact ⟨rfl, rfl⟩
  have d1 : decide (s < 0) = false := by simpa using h1
  by_cases h2 : 1048576 < s
  · rw [cntZ_no (by unfold Fit; omega)]
    have d2 : decide (1048576 < s) = true := by simpa using h2
    go_enter Tryd.func57, Tryd.ntmps57
    go_wp2
    go_ret
    exact ⟨rfl, rfl⟩
  have d2 : decide (1048576 < s) = false := by simpa using h2
  by_cases h3 : k < 1
  · rw [cntZ_no (by unfold Fit; omega)]
    have d3 : decide (k < 1) = true := by simpa using h3
    go_enter Tryd.func57, Tryd.ntmps57
    go_wp2
    go_ret
    exact ⟨rfl, rfl⟩
  have d3 : decide (k < 1) = false := by simpa using h3
  by_cases h4 : 65536 < k
  · rw [cntZ_no (by unfold Fit; omega)]
    have d4 : decide (65536 < k) = true := by simpa using h4
    go_enter Tryd.func57, Tryd.ntmps57
    go_wp2
    go_ret
    exact ⟨rfl, rfl⟩
  have d4 : decide (65536 < k) = false := by simpa using h4
  obtain ⟨n, m, rfl, rfl, hn, hm, hm2⟩ := fit_nat (s := s) (k := k) (by unfold Fit; omega)
  rw [cntZ_yes hn hm hm2]
  clear h1 h2 h3 h4 d1 d2 d3 d4
  have HC := Lib.hid (cntN_int n hm)
  go_enter Tryd.func57, Tryd.ntmps57
  go_wp2
  all_goals (go_ret; refine ⟨?_, rfl⟩; rw [HC.out]; exact congrArg (fun z => Ending.returned (.int .i64 z)) (by omega))

def spanV (s k a : Int) : Ending := .returned (.tuple #[.int .i64 (fromZ s k a : Int), .int .i64 (uptoZ s k a : Int), .bool (decide (There s k a))])

theorem span_any (s k a : Int) (w : World) : Calls Tryd.prog 59 #[.int .i64 s, .int .i64 k, .int .i64 a] w fun e w' => e = spanV s k a ∧ w' = w := by
  have hC := count_any s k w
  by_cases h1 : a < 0
  · have hN : ¬ There s k a := by unfold There; omega
    have d1 : decide (a < 0) = true := by simpa using h1
    unfold spanV
    rw [fromZ_no hN, uptoZ_no hN, decide_eq_false hN]
    clear hN h1
    go_enter Tryd.func59, Tryd.ntmps59
    go_wp2
    go_ret3
    exact ⟨rfl, rfl⟩
  have d1 : decide (a < 0) = false := by simpa using h1
  by_cases h2 : a < (cntZ s k : Int)
  · have hT : There s k a := ⟨by omega, h2⟩
    unfold spanV
    rw [decide_eq_true hT]
    obtain ⟨n, m, i, rfl, rfl, rfl, hn, hm, hm2, hi⟩ := there_nat hT
    rw [fromZ_yes hn hm hm2 hi, uptoZ_yes hn hm hm2 hi]
    rw [cntZ_yes hn hm hm2] at hC
    have hmul := cntN_mul hm hi
    have d2 : decide ((cntN n m : Int) ≤ (i : Int)) = false := by simp; omega
    have HE1 : Hid (((min (i * m + m) n : Nat) : Int) = min ((i : Int) * m + m) n) := by show _ = _; omega
    have HE2 : Hid (((i * m : Nat) : Int) = (i : Int) * m) := by show _ = _; omega
    have hmul2 : (i : Int) * m ≤ n := by have := HE2.out; omega
    have hmul3 : 0 ≤ (i : Int) * m := by have := HE2.out; omega
    rw [HE1.out, HE2.out]
    clear hT h1 h2 d1 HE1 HE2 hmul
    go_enter Tryd.func59, Tryd.ntmps59
    go_wp2_with (go_at_call 57; refine hC.mono ?_; rintro e w' ⟨rfl, rfl⟩)
    all_goals (go_ret3; refine ⟨?_, rfl⟩; exact congrArg (fun x => Ending.returned (.tuple #[.int .i64 ((i : Int) * m), .int .i64 x, .bool true])) (by omega))
  · have hN : ¬ There s k a := by unfold There; omega
    unfold spanV
    rw [fromZ_no hN, uptoZ_no hN, decide_eq_false hN]
    have d2 : decide ((cntZ s k : Int) ≤ a) = true := by simp; omega
    clear hN h2 h1
    go_enter Tryd.func59, Tryd.ntmps59
    go_wp2_with (go_at_call 57; refine hC.mono ?_; rintro e w' ⟨rfl, rfl⟩)
    go_ret3
    exact ⟨rfl, rfl⟩

theorem length_any (s k a : Int) (w : World) : Calls Tryd.prog 58 #[.int .i64 s, .int .i64 k, .int .i64 a] w fun e w' => e = .returned (.int .i64 (lenZ s k a : Int)) ∧ w' = w := by
  have hC := span_any s k a w
  have HE : Hid ((lenZ s k a : Int) = (uptoZ s k a : Int) - (fromZ s k a : Int)) := by
    show _ = _
    have := from_upto s k a
    unfold lenZ
    omega
  have h1 := from_upto s k a
  have h2 := upto_small s k a
  rw [HE.out]
  unfold spanV at hC
  clear HE
  generalize uptoZ s k a = u at *
  generalize fromZ s k a = f at *
  go_enter Tryd.func58, Tryd.ntmps58
  go_wp2_with (go_at_call 59; refine hC.mono ?_; rintro e w' ⟨rfl, rfl⟩)
  go_ret
  exact ⟨rfl, rfl⟩

theorem refCount_no {s k : Int} (h : ¬ Fit s k) (w : World) : Calls Tryd.prog 37 #[.int .i64 s, .int .i64 k] w fun e w' => e = .returned (.int .i64 0) ∧ w' = w := by
  by_cases h1 : s < 0
  · have d1 : decide (s < 0) = true := by simpa using h1
    clear h
    go_enter Tryd.func37, Tryd.ntmps37
    go_wp2
    go_ret
    exact ⟨rfl, rfl⟩
  have d1 : decide (s < 0) = false := by simpa using h1
  by_cases h2 : 1048576 < s
  · have d2 : decide (1048576 < s) = true := by simpa using h2
    clear h
    go_enter Tryd.func37, Tryd.ntmps37
    go_wp2
    go_ret
    exact ⟨rfl, rfl⟩
  have d2 : decide (1048576 < s) = false := by simpa using h2
  by_cases h3 : k < 1
  · have d3 : decide (k < 1) = true := by simpa using h3
    clear h
    go_enter Tryd.func37, Tryd.ntmps37
    go_wp2
    go_ret
    exact ⟨rfl, rfl⟩
  have d3 : decide (k < 1) = false := by simpa using h3
  by_cases h4 : 65536 < k
  · have d4 : decide (65536 < k) = true := by simpa using h4
    clear h
    go_enter Tryd.func37, Tryd.ntmps37
    go_wp2
    go_ret
    exact ⟨rfl, rfl⟩
  exact absurd (show Fit s k by unfold Fit; omega) h

theorem refCount_yes (n k : Nat) (hn : n ≤ 1048576) (hk : 1 ≤ k) (hk2 : k ≤ 65536) (w : World) : Calls Tryd.prog 37 #[.int .i64 (n : Int), .int .i64 (k : Int)] w fun e w' => e = .returned (.int .i64 (cntN n k : Int)) ∧ w' = w := by
  go_enter Tryd.func37, Tryd.ntmps37
  go_wp2
  go_loop [0, 5] (fun m c => ∃ (j i : Nat), j ≤ n ∧ i + j ≤ n + 1 ∧ m = .int .i64 j ∧ c = .int .i64 i ∧ i + cntN j k = cntN n k + 1) (fun m _ => (intOf m).toNat)
  case atStart => exact ⟨n, 1, Nat.le_refl _, by omega, rfl, rfl, by omega⟩
  case round =>
    obtain ⟨j, i, hj, hji, rfl, rfl, hi⟩ := hrel
    have HI := Lib.hid hi
    clear hi
    by_cases hlt : k < j
    · have HS := Lib.hid (cntN_step hk hlt)
      go_wp2
      go_round
      case rel => exact ⟨j - k, i + 1, by omega, by omega, by go_num, by go_num, by have := HI.out; have := HS.out; omega⟩
      case measure => simp [intOf]; omega
    · have hle : j ≤ k := Nat.le_of_not_lt hlt
      have HS := Lib.hid (cntN_small hk hle)
      have hd : decide ((k : Int) < (j : Int)) = false := by simp; omega
      clear hlt
      go_wp2
      go_ret
      refine ⟨?_, rfl⟩
      have h1 := HI.out
      rw [HS.out] at h1
      have : i = cntN n k := by omega
      rw [this]
      rfl

theorem refCount_any (s k : Int) (w : World) : Calls Tryd.prog 37 #[.int .i64 s, .int .i64 k] w fun e w' => e = .returned (.int .i64 (cntZ s k : Int)) ∧ w' = w := by
  by_cases h : Fit s k
  · obtain ⟨n, m, rfl, rfl, h1, h2, h3⟩ := fit_nat h
    rw [cntZ_yes h1 h2 h3]
    exact refCount_yes n m h1 h2 h3 w
  · rw [cntZ_no h]
    exact refCount_no h w

theorem lies_mid {w : World} {B b off : Nat} {xs : List Value} (h : Lies w B (some ⟨b, off, none⟩) xs) (f m : Nat) : Lies w B (some ⟨b, off + f, none⟩) ((xs.drop f).take m) := fun hn => by
  have hne : xs ≠ [] := fun h0 => hn (by rw [h0, List.drop_nil, List.take_nil])
  obtain ⟨b', off', e, hlt, hc⟩ := h hne
  injection e with e
  injection e with e1 e2
  subst e1 e2
  refine ⟨_, _, rfl, hlt, fun i u hu => ?_⟩
  have h1 : ((xs.drop f).take m)[i]? = some u := hu
  rw [List.getElem?_take] at h1
  split at h1
  · rw [List.getElem?_drop] at h1
    have := hc (f + i) u h1
    rwa [← Nat.add_assoc] at this
  · cases h1

/-- A chunk of a payload. -/
def cutL (l : List UInt8) (k a : Int) : List UInt8 := (l.drop (fromZ l.length k a)).take (lenZ l.length k a)

theorem cutL_len (l : List UInt8) (k a : Int) : (cutL l k a).length = lenZ l.length k a := by
  have h1 := from_upto (l.length : Int) k a
  have h2 := upto_le l.length k a
  unfold cutL lenZ
  rw [List.length_take, List.length_drop]
  omega

/-- The chunk number j. -/
def chL (l : List UInt8) (k j : Nat) : List UInt8 := (l.drop (j * k)).take k

theorem cutL_yes {l : List UInt8} {k j : Nat} (hl : l.length ≤ 1048576) (hk : 1 ≤ k) (hk2 : k ≤ 65536) (hj : j < cntN l.length k) : cutL l (k : Int) (j : Int) = chL l k j := by
  unfold cutL chL lenZ
  rw [fromZ_yes hl hk hk2 hj, uptoZ_yes hl hk hk2 hj]
  have := cntN_mul hk hj
  by_cases h : j * k + k ≤ l.length
  · rw [show min (j * k + k) l.length - j * k = k by omega]
  · rw [List.take_of_length_le (by rw [List.length_drop]; omega), List.take_of_length_le (by rw [List.length_drop]; omega)]

theorem chL_len (l : List UInt8) (k j : Nat) : (chL l k j).length = min k (l.length - j * k) := by unfold chL; rw [List.length_take, List.length_drop]

theorem lenZ_ch {l : List UInt8} {k j : Nat} (hl : l.length ≤ 1048576) (hk : 1 ≤ k) (hk2 : k ≤ 65536) (hj : j < cntN l.length k) : lenZ (l.length : Int) (k : Int) (j : Int) = (chL l k j).length := by
  rw [← cutL_len, cutL_yes hl hk hk2 hj]

theorem take_chunk (l : List UInt8) (k j : Nat) : l.take (j * k) ++ chL l k j = l.take ((j + 1) * k) := by
  unfold chL
  rw [Nat.add_mul, Nat.one_mul, List.take_add]

theorem take_all {l : List UInt8} {k : Nat} (hk : 1 ≤ k) : l.take (cntN l.length k * k) = l := by
  refine List.take_of_length_le ?_
  have h1 := cntN_pos l.length k
  have h2 : ¬ (cntN l.length k - 1 + 1) * k < l.length := fun h => by have := (cntN_lt hk).2 h; omega
  rw [show cntN l.length k - 1 + 1 = cntN l.length k by omega] at h2
  omega

def zeroF : Array Value := #[.int .u8 0, .int .u8 0, .int .u8 0, .int .u8 0, .int .u64 0, .int .u64 0, .int .u32 0, .int .u32 0, .int .u32 0, .int .u64 0, .int .u64 0, .slice none 0 0, .slice none 0 0, .slice none 0 0, .slice none 0 0, .slice none 0 0]

def zeroFr : Fr := ⟨0, 0, 0, zid, 0, 0, 0, 0, 0, 0, [], [], [], [], []⟩

def zeroP : Pf := ⟨zeroFr, fun _ => (none, 0)⟩

theorem made_frames (m : Nat) : (madeCells zeroF (m * 16)).toList = flat encPf (List.replicate m zeroP) := by
  refine List.ext_getElem? fun j => ?_
  by_cases h : j < m * 16
  · obtain ⟨q, r, hr, rfl⟩ : ∃ q r, r < 16 ∧ j = q * 16 + r := ⟨j / 16, j % 16, by omega, by omega⟩
    have hi : q < (List.replicate m zeroP).length := by simp; omega
    rw [flat_at encPf_len _ q r hr hi, List.getElem_replicate]
    have hs : (q * 16 + r) % 16 = r := by omega
    simp only [madeCells, Array.toList_map, List.getElem?_map, Array.toList_range, List.getElem?_range h, Option.map_some]
    show some (zeroF[(q * 16 + r) % 16]!) = _
    rw [hs]
    rcases (show r = 0 ∨ r = 1 ∨ r = 2 ∨ r = 3 ∨ r = 4 ∨ r = 5 ∨ r = 6 ∨ r = 7 ∨ r = 8 ∨ r = 9 ∨ r = 10 ∨ r = 11 ∨ r = 12 ∨ r = 13 ∨ r = 14 ∨ r = 15 by omega) with rfl | rfl | rfl | rfl | rfl | rfl | rfl | rfl | rfl | rfl | rfl | rfl | rfl | rfl | rfl | rfl <;> rfl
  · rw [List.getElem?_eq_none (by simp [madeCells]; omega), List.getElem?_eq_none (by rw [flat_length encPf_len]; simp; omega)]

def frAt (id : Id) (l : List UInt8) (k N i : Nat) : Fr := ⟨0, 0, 0, id, 0, i, N, l.length, 0, 0, [], [], [], [], chL l k i⟩

theorem Tryd.infoB : (Tryd.prog.info? 39).map (fun i => (i.zero, i.size, i.bytes)) = some (some (.slice none 0 0), 1, 24) := by kernel_rfl

/-- append(owned, row). -/
theorem wpList_pushB {wb : World} {ops : Array Oper} {rest : List Oper} {o : Oper} {a : Act} {Q : Exit → Act → World → Prop} (hgd : o.guard = none) (s x : Operand)
    (ho : o.op = .call { callee := .builtin .append, args := #[s, x], argTypes := #[85, 85] }) (base n : Nat) (vs : List Value) (A : Option Addr) (m c : Nat) (v : Value) (hs : a.eval s = v) (hx : a.eval x = .slice (some ⟨wb.heap.size, 0, none⟩) 1 1)
    (hown : wb.ownsRow base 39 1 v n vs) (hn : n ≤ 1048576) (hbase : base ≤ wb.heap.size)
    (h : ∀ v' w', w'.ownsRow base 39 1 v' (n + 1) (vs ++ [.slice A m c]) → RowKit.Below base wb w' → wpList Tryd.prog ops Q rest (a.put o.dst v') w') :
    wpList Tryd.prog ops Q (o :: rest) a (wb.alloc (.cells #[.slice A m c] 39)) := by
  obtain ⟨i0, hi, e0⟩ := Option.map_eq_some_iff.1 Tryd.infoB
  have e1 := Prod.mk.inj e0
  have e2 := Prod.mk.inj e1.2
  have hb : RowKit.Below base wb (wb.alloc (.cells #[.slice A m c] 39)) := (RowKit.Below.refl _ _).alloc hbase _
  have hown2 := own_below hown ((RowKit.Below.refl _ _).alloc (Nat.le_refl _) (.cells #[.slice A m c] 39))
  refine wpList_append_lstK hgd s x 85 ho base 1 (by decide) 39 i0 (.slice none 0 0) 24 Tryd.underlying85 hi e1.1 e2.1 e2.2 rfl v n vs hs hown2 (wb.heap.size + 1) (some ⟨wb.heap.size, 0, none⟩) 1 1 [.slice A m c] hx rfl
    (lies_new wb #[.slice A m c] 39) (by intro u hu; simp at hu; subst hu; rfl) (by unfold maxLen; omega) (by omega) (by simp; omega) ?_
  intro v' w' h1 _ h3 _
  exact h v' w' h1 (hb.trans h3)

theorem BytRows.nil {w : World} {B : Nat} : BytRows w B [] [] := ⟨rfl, fun _ h => absurd h (Nat.not_lt_zero _)⟩

theorem BytRows.snoc {w : World} {B : Nat} {vs : List Value} {ls : List (List UInt8)} (h : BytRows w B vs ls) {v : Value} {l : List UInt8} (hv : Byt w B v l) : BytRows w B (vs ++ [v]) (ls ++ [l]) := by
  refine ⟨by rw [List.length_append, List.length_append, h.1]; rfl, fun i h1 h2 => ?_⟩
  rw [List.getElem_append, List.getElem_append]
  by_cases hi : i < vs.length
  · rw [dif_pos hi, dif_pos (by rw [← h.1]; exact hi)]
    exact h.2 i hi _
  · rw [dif_neg hi, dif_neg (by rw [← h.1]; exact hi)]
    simpa using hv

def chs (l : List UInt8) (k j : Nat) : List (List UInt8) := (List.range j).map (chL l k)

theorem chs_len (l : List UInt8) (k j : Nat) : (chs l k j).length = j := by simp [chs]

theorem chs_succ (l : List UInt8) (k j : Nat) : chs l k (j + 1) = chs l k j ++ [chL l k j] := by simp [chs, List.range_succ]

/-- A list of rows of the call's own; the rows lie in what was there. -/
def RowsOut (w : World) (ls : List (List UInt8)) (v : Value) (w' : World) : Prop := ∃ vs, w'.ownsRow w.heap.size 39 1 v ls.length vs ∧ BytRows w w.heap.size vs ls ∧ RowKit.Below w.heap.size w w'

def RowsEnd (w : World) (ls : List (List UInt8)) (e : Ending) (w' : World) : Prop := ∃ A n c, e = .returned (.slice A n c) ∧ Hid (ls.length = n) ∧ RowsOut w ls (.slice A n c) w'

theorem RowsEnd.of {w w' : World} {ls : List (List UInt8)} {v : Value} (h : RowsOut w ls v w') : RowsEnd w ls (.returned v) w' := by
  obtain ⟨vs, h1, h2, h3⟩ := h
  obtain ⟨A, c, rfl, -, -⟩ := own_slice h1
  exact ⟨A, _, c, rfl, rfl, vs, h1, h2, h3⟩

def sLen : Value → Nat
  | .slice _ n _ => n
  | _ => 0

theorem refCuts_no (A : Option Addr) (n c : Nat) (k : Int) (w : World) (hn : n ≤ 2000) (hk : k < 1 ∨ 65536 < k) :
    Calls Tryd.prog 36 #[.slice A n c, .int .i64 k] w (RowsEnd w []) := by
  have HO : Hid (RowsOut w [] (.slice (some ⟨w.heap.size, 0, none⟩) 0 0) (w.alloc (.cells #[] 39))) := ⟨[], World.ownsRow_lit w #[] 0 (Nat.le_refl _) (Nat.zero_le _) rfl, BytRows.nil, (RowKit.Below.refl _ _).alloc (Nat.le_refl _) _⟩
  have d1 : decide ((1048576 : Int) < (n : Int)) = false := by simp; omega
  by_cases h1 : k < 1
  · have d2 : decide (k < 1) = true := by simpa using h1
    go_enter Tryd.func36, Tryd.ntmps36
    go_wp2
    go_ret
    exact RowsEnd.of HO.out
  · have d2 : decide (k < 1) = false := by simpa using h1
    have d3 : decide (65536 < k) = true := by simp; omega
    clear hk h1
    go_enter Tryd.func36, Tryd.ntmps36
    go_wp2
    go_ret
    exact RowsEnd.of HO.out

/-- What is still to be cut, behind j chunks. -/
def Front (w : World) (l : List UInt8) (k N j : Nat) (v : Value) : Prop := ∃ A c, v = .slice A (l.length - j * k) c ∧ j < N ∧ l.length - j * k ≤ c ∧ c ≤ maxLen ∧ Lies w w.heap.size A (bvs (l.drop (j * k)))

set_option maxHeartbeats 1600000 in
theorem refCuts_yes (A : Option Addr) (c : Nat) (l : List UInt8) (k : Nat) (w : World) (hn : l.length ≤ 2000) (hc : l.length ≤ c) (hm : c ≤ maxLen) (h : Lies w w.heap.size A (bvs l)) (hk : 1 ≤ k) (hk2 : k ≤ 65536) :
    Calls Tryd.prog 36 #[.slice A l.length c, .int .i64 (k : Int)] w (RowsEnd w (chs l k (cntN l.length k))) := by
  have HO : Hid (RowsOut w (chs l k 0) (.slice (some ⟨w.heap.size, 0, none⟩) 0 0) (w.alloc (.cells #[] 39))) := ⟨[], World.ownsRow_lit w #[] 0 (Nat.le_refl _) (Nat.zero_le _) rfl, BytRows.nil, (RowKit.Below.refl _ _).alloc (Nat.le_refl _) _⟩
  have HLT : Hid (∀ j, j + 1 < cntN l.length k ↔ (j + 1) * k < l.length) := fun j => cntN_lt hk
  have HP : Hid (0 < cntN l.length k) := cntN_pos _ _
  have hNle := cntN_le l.length k
  have HF0 : Hid (Front w l k (cntN l.length k) 0 (.slice A l.length c)) := ⟨A, c, by rw [Nat.zero_mul, Nat.sub_zero], cntN_pos _ _, by omega, hm, by rw [Nat.zero_mul, List.drop_zero]; exact h⟩
  clear h hc hm
  generalize cntN l.length k = N at *
  go_enter Tryd.func36, Tryd.ntmps36
  go_wp2
  go_loopw [0, 5] (fun p v wr => ∃ j, Front w l k N j p ∧ Hid (RowsOut w (chs l k j) v wr)) (fun p _ _ => sLen p)
  case atStart => exact ⟨0, HF0.out, HO⟩
  case round =>
    clear HF0 HO HP
    obtain ⟨j, ⟨Aj, cj, rfl, hjN, hcj, hmj, hLj⟩, HR⟩ := hrel
    have hmul : (j + 1) * k = j * k + k := by rw [Nat.add_mul, Nat.one_mul]
    have hjk : j ≤ 2000 := by omega
    obtain ⟨vs, ho, hv, hb⟩ := HR.out
    rw [chs_len] at ho
    obtain ⟨Av, cv, rfl, -, -⟩ := own_slice ho
    have HOW := Lib.hid ho
    have HBR := Lib.hid hv
    have HB := Lib.hid hb
    have HLJ := Lib.hid hLj
    clear HR ho hv hb hLj
    have hdl : (l.drop (j * k)).length = l.length - j * k := List.length_drop
    by_cases hlt : k < l.length - j * k
    · obtain ⟨b, off, rfl, -, -⟩ := HLJ.out (by
        intro h0
        have := congrArg List.length h0
        rw [bvs_length, hdl, List.length_nil] at this
        omega)
      have hj1 : j + 1 < N := (HLT.out j).2 (by omega)
      have HBY : Hid (Byt w w.heap.size (.slice (some ⟨b, off, none⟩) k cj) (chL l k j)) := ⟨_, _, _, rfl, by rw [chL_len]; omega, by omega, hmj, by
        have e : bvs (chL l k j) = ((bvs (l.drop (j * k))).drop 0).take k := by rw [List.drop_zero]; unfold chL bvs; rw [List.map_take]
        rw [e]
        exact lies_mid HLJ.out 0 k⟩
      have HFR : Hid (Front w l k N (j + 1) (.slice (some ⟨b, off + k, none⟩) (l.length - j * k - k) (cj - k))) := ⟨_, _, by rw [hmul, Nat.sub_add_eq], hj1, by omega, by omega, by
        have e : bvs (l.drop ((j + 1) * k)) = ((bvs (l.drop (j * k))).drop k).take l.length := by
          unfold bvs
          rw [← List.map_drop, List.drop_drop, hmul, List.take_of_length_le (by rw [List.length_map, List.length_drop]; omega)]
        rw [e]
        exact lies_mid HLJ.out k l.length⟩
      have HRS : Hid (∀ v' w', RowKit.Below w.heap.size wr w' → w'.ownsRow w.heap.size 39 1 v' (j + 1) (vs ++ [.slice (some ⟨b, off, none⟩) k cj]) → RowsOut w (chs l k (j + 1)) v' w') := fun v' w' h1 h2 => ⟨_, by rw [chs_len]; exact h2, by rw [chs_succ]; exact HBR.out.snoc HBY.out, HB.out.trans h1⟩
      have hck : ¬ cj = k := by omega
      have hmm : (cj : Int) ≤ 9223372036854775807 := by unfold maxLen at hmj; omega
      have hm1 : l.length - j * k ≤ 2000 := by omega
      clear hmul hdl HLJ HBR HBY hj1 HLT hn hNle
      generalize l.length - j * k = m at *
      go_wp2_with (first | (at_builtin; refine wpList_pushB rfl (.tmp 23) (.tmp 27) rfl w.heap.size j vs _ _ _ _ rfl rfl HOW.out (by omega) HB.out.size ?_) | fail)
      intro v4 w4 hown4 hb4
      have HR4 := Lib.hid (HRS.out v4 w4 hb4 hown4)
      clear hown4 hb4
      go_wp2_with fail
      go_roundw
      case rel => exact ⟨j + 1, HFR.out, HR4⟩
      case measure => simp [sLen]; omega
    · have hend : j + 1 = N := by have := HLT.out j; omega
      have HBY : Hid (Byt w w.heap.size (.slice Aj (l.length - j * k) cj) (chL l k j)) := ⟨_, _, _, rfl, by rw [chL_len]; omega, by omega, hmj, by
        have e : chL l k j = l.drop (j * k) := by unfold chL; rw [List.take_of_length_le (by omega)]
        rw [e]
        exact HLJ.out⟩
      have HRS : Hid (∀ v' w', RowKit.Below w.heap.size wr w' → w'.ownsRow w.heap.size 39 1 v' (j + 1) (vs ++ [.slice Aj (l.length - j * k) cj]) → RowsEnd w (chs l k N) (.returned v') w') := fun v' w' h1 h2 => by
        rw [← hend]
        exact RowsEnd.of ⟨_, by rw [chs_len]; exact h2, by rw [chs_succ]; exact HBR.out.snoc HBY.out, HB.out.trans h1⟩
      have hm1 : l.length - j * k ≤ 2000 := by omega
      have hle : l.length - j * k ≤ k := by omega
      clear hmul hdl HLJ HBR HBY HLT hn hNle hlt hend hcj
      generalize l.length - j * k = m at *
      have dk : decide ((k : Int) < (m : Int)) = false := by simp; omega
      go_wp2_with (first | (at_builtin; refine wpList_pushB rfl (.tmp 32) (.tmp 34) rfl w.heap.size j vs _ _ _ _ rfl rfl HOW.out (by omega) HB.out.size ?_) | fail)
      intro v4 w4 hown4 hb4
      have HR4 := Lib.hid (HRS.out v4 w4 hb4 hown4)
      clear hown4 hb4
      go_wp2_with fail
      go_ret
      exact HR4.out

/-- Can a frame's chunk be one? -/
def rightZ (F : Fr) (k most : Int) : Bool := decide ((F.size : Int) ≤ most) && decide ((F.of_ : Int) = (cntZ F.size k : Int)) && decide (F.at_ < F.of_) && decide ((F.data.length : Int) = (lenZ F.size k F.at_ : Int))

set_option maxRecDepth 100000 in
set_option maxHeartbeats 3200000 in
theorem right_any (F : Fr) (cs : Array Value) (k most : Int) (w : World) (hF : FrL w F cs) (hw : F.Wf) :
    Calls Tryd.prog 51 #[.agg cs, .int .i64 k, .int .i64 most] w fun e w' => e = .returned (.bool (rightZ F k most)) ∧ RowKit.Below w.heap.size w w' := by
  have HB : Hid (RowKit.Below w.heap.size w (w.alloc (.cells cs 41))) := (RowKit.Below.refl _ _).alloc (Nat.le_refl _) _
  obtain ⟨A1, c1, A2, c2, A3, c3, A4, c4, A5, c5, -, -, -, -, x5⟩ := hF.sls
  obtain ⟨-, -, -, -, -, -, x6, x7, x8, -, -⟩ := hF.at_
  have hC := fun W => count_any (F.size : Int) k W
  have hL := fun W => length_any (F.size : Int) k (F.at_ : Int) W
  have w1 := hw.at_
  have w2 := hw.of_
  have w3 := hw.size
  unfold rightZ
  clear hw hF
  generalize F.data.length = n5 at *
  generalize F.at_ = at' at *
  generalize F.of_ = of' at *
  generalize F.size = sz at *
  generalize lenZ (sz : Int) k (at' : Int) = lz at *
  generalize cntZ (sz : Int) k = cz at *
  have ew1 : IntKind.i64.wrap (of' : Int) = (of' : Int) := by rw [IntKind.wrap_i64]; omega
  have ew2 : IntKind.i64.wrap (at' : Int) = (at' : Int) := by rw [IntKind.wrap_i64]; omega
  by_cases h1 : (sz : Int) ≤ most
  case neg =>
    rw [show (decide ((sz : Int) ≤ most) && decide ((of' : Int) = (cz : Int)) && decide (at' < of') && decide ((n5 : Int) = (lz : Int))) = false by simp [h1]]
    have d1 : decide ((sz : Int) ≤ most) = false := by simpa using h1
    clear h1
    go_enter Tryd.func51, Tryd.ntmps51
    go_wp2_with fail
    go_quiet (first | (go_at_call 57; exact Calls.quiet_of_same (hC _)) | (go_at_call 58; exact Calls.quiet_of_same (hL _)))
    go_wp2
    go_ret
    exact ⟨rfl, below_drewN HB.out _⟩
  have d1 : decide ((sz : Int) ≤ most) = true := by simpa using h1
  by_cases h2 : of' = cz
  case neg =>
    rw [show (decide ((sz : Int) ≤ most) && decide ((of' : Int) = (cz : Int)) && decide (at' < of') && decide ((n5 : Int) = (lz : Int))) = false by rw [decide_eq_false (show ¬ (of' : Int) = (cz : Int) by omega), Bool.and_false, Bool.false_and, Bool.false_and]]
    have d2 : ((of' : Int) == (cz : Int)) = false := by rw [beq_eq_false_iff_ne]; omega
    clear h1 h2
    go_enter Tryd.func51, Tryd.ntmps51
    go_wp2_with fail
    go_quiet (first | (go_at_call 57; exact Calls.quiet_of_same (hC _)) | (go_at_call 58; exact Calls.quiet_of_same (hL _)))
    go_wp2
    go_ret
    exact ⟨rfl, below_drewN HB.out _⟩
  have d2 : ((of' : Int) == (cz : Int)) = true := by rw [beq_iff_eq]; omega
  by_cases h3 : at' < of'
  case neg =>
    rw [show (decide ((sz : Int) ≤ most) && decide ((of' : Int) = (cz : Int)) && decide (at' < of') && decide ((n5 : Int) = (lz : Int))) = false by simp [h3]]
    have d3 : decide (at' < of') = false := by simp; omega
    clear h1 h2 h3
    go_enter Tryd.func51, Tryd.ntmps51
    go_wp2_with fail
    go_quiet (first | (go_at_call 57; exact Calls.quiet_of_same (hC _)) | (go_at_call 58; exact Calls.quiet_of_same (hL _)))
    go_wp2
    go_ret
    exact ⟨rfl, below_drewN HB.out _⟩
  have d3 : decide (at' < of') = true := by simp; omega
  rw [show (decide ((sz : Int) ≤ most) && decide ((of' : Int) = (cz : Int)) && decide (at' < of') && decide ((n5 : Int) = (lz : Int))) = ((n5 : Int) == (lz : Int)) by rw [decide_eq_true h1, decide_eq_true (show (of' : Int) = (cz : Int) by omega), decide_eq_true h3]; rfl]
  clear h1 h2 h3
  go_enter Tryd.func51, Tryd.ntmps51
  go_wp2_with fail
  go_quiet (first | (go_at_call 57; exact Calls.quiet_of_same (hC _)) | (go_at_call 58; exact Calls.quiet_of_same (hL _)))
  go_wp2
  go_ret
  exact ⟨rfl, below_drewN HB.out _⟩

section
variable {id : Id} {l : List UInt8} {k N i : Nat}

theorem frAt_right (hl : l.length ≤ 2000) (hk : 1 ≤ k) (hk2 : k ≤ 65536) (hN : N = cntN l.length k) (hi : i < N) : rightZ (frAt id l k N i) (k : Int) (l.length : Int) = true := by
  unfold rightZ
  show (decide ((l.length : Int) ≤ (l.length : Int)) && decide ((N : Int) = (cntZ (l.length : Int) (k : Int) : Int)) && decide (i < N) && decide (((chL l k i).length : Int) = (lenZ (l.length : Int) (k : Int) (i : Int) : Int))) = true
  rw [cntZ_yes (by omega) hk hk2, lenZ_ch (by omega) hk hk2 (by omega), hN]
  simp
  omega

end

def valId (x : Id) : Value := .agg #[.int .u8 (x.f : Int), .int .u64 (x.s : Int)]

section
variable {H : Type} {enc : TypeId × Value → H} {w : World} {base : Nat} {spare : Nat → Bool} {held : Bool}

theorem open_id {r : Reach} {b0 : Nat} {v : Value} {d : DataW H} {p : List MemPlace} (hv : Value.okWide Tryd.prog w r b0 25 v) (h : DataW.Trod enc Tryd.prog w base spare held 25 v d p) : ∃ x : Id, v = valId x := by
  obtain ⟨v0, v1, y0, y1, n, rfl, _, _, h0, h1⟩ := Joins.open_agg2 Tryd.underlying25 (by kernel_rfl) (by kernel_rfl) hv h
  obtain ⟨r0, e0, _, w0⟩ := DataW.trod_int Tryd.underlying5 h0
  obtain ⟨r1, e1, _, w1⟩ := DataW.trod_int Tryd.underlying23 h1
  injection e0 with e0
  injection e1 with e1
  subst e0 e1
  have b0 := bounds_u8 w0
  have b1 := bounds_u64 w1
  refine ⟨⟨r0.toNat, r1.toNat, by omega, by omega⟩, ?_⟩
  simp only [valId]
  rw [Int.toNat_of_nonneg b0.1, Int.toNat_of_nonneg b1.1]

end

end Go.Proofs.YthkongnjokmmfaaDoor
