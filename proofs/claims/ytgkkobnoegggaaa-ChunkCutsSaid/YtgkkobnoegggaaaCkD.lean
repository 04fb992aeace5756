/- Stage 12: a frame and where its five slices lie; a row of frames (picked out of the texts of stage 8). -/
import Derived.Test.YtgkkobnoegggaaaSlD
import Derived.Test.YtgkkobnoegggaaaHeld
import Derived.Deep.MidRow
namespace Go.Proofs.Ytgkkobnoegggaaa
open Go.RowKit Go.Sort Go.ChangeShapes Go.WideShapes Go.ChangeAt

/-- A frame, and where its five slices lie. -/
structure Pf where
  F : Fr
  p : Fin 5 → Hd

def Pf.cs (x : Pf) : Array Value := frCells x.F (.slice (x.p 0).1 x.F.est.length (x.p 0).2) (.slice (x.p 1).1 x.F.aux.length (x.p 1).2) (.slice (x.p 2).1 x.F.done.length (x.p 2).2) (.slice (x.p 3).1 x.F.held.length (x.p 3).2) (.slice (x.p 4).1 x.F.data.length (x.p 4).2)

def encPf (x : Pf) : List Value := x.cs.toList

theorem encPf_len (x : Pf) : (encPf x).length = 16 := rfl

theorem Pf.size (x : Pf) : x.cs.size = 16 := rfl

theorem encPf_one (x : Pf) : ∀ v ∈ encPf x, v.oneCell' = true := by
  intro v hv
  simp only [encPf, Pf.cs, frCells, List.mem_cons, List.not_mem_nil, or_false] at hv
  rcases hv with rfl | rfl | rfl | rfl | rfl | rfl | rfl | rfl | rfl | rfl | rfl | rfl | rfl | rfl | rfl | rfl <;> rfl

theorem Pf.one (x : Pf) : x.cs.all (·.oneCell') = true := all_oneCell_toArray (encPf_one x)

/-- Its slices lie outside of D. -/
def Pf.X (w : World) (D : Nat → Prop) (x : Pf) : Prop :=
  LiesX w D (x.p 0).1 (flat encRn x.F.est) ∧ LiesX w D (x.p 1).1 (flat encRn x.F.aux) ∧ LiesX w D (x.p 2).1 (uvs x.F.done) ∧ LiesX w D (x.p 3).1 (uvs x.F.held) ∧ LiesX w D (x.p 4).1 (bvs x.F.data)

theorem Pf.X.kept {w w' : World} {D : Nat → Prop} {x : Pf} (h : x.X w D) (ho : OnlyE w w' D) : x.X w' D := ⟨h.1.kept ho, h.2.1.kept ho, h.2.2.1.kept ho, h.2.2.2.1.kept ho, h.2.2.2.2.kept ho⟩

theorem Pf.X.widen {w : World} {D D' : Nat → Prop} {x : Pf} (h : x.X w D) (hD : ∀ k, D' k → w.heap.size ≤ k ∨ D k) : x.X w D' := ⟨h.1.widen hD, h.2.1.widen hD, h.2.2.1.widen hD, h.2.2.2.1.widen hD, h.2.2.2.2.widen hD⟩

theorem Pf.X.on {w w' : World} {D : Nat → Prop} {x : Pf} (h : x.X w D) (hb : RowKit.Below w.heap.size w w') : x.X w' D := h.kept (OnlyE.of_below hb)

theorem Pf.X.frl {w : World} {D : Nat → Prop} {x : Pf} (h : x.X w D) : FrL w x.F x.cs := ⟨x.p, rfl, h.1.lies, h.2.1.lies, h.2.2.1.lies, h.2.2.2.1.lies, h.2.2.2.2.lies⟩

theorem FrX.pf {w : World} {D : Nat → Prop} {F : Fr} {cs : Array Value} (h : FrX w D F cs) : ∃ x : Pf, x.F = F ∧ cs = x.cs ∧ x.X w D := by
  obtain ⟨p, rfl, h0, h1, h2, h3, h4⟩ := h
  exact ⟨⟨F, p⟩, rfl, rfl, h0, h1, h2, h3, h4⟩

theorem FrV.pf {w : World} {D : Nat → Prop} {F : Fr} {cs : Array Value} (h : FrV w D F cs) : ∃ x : Pf, x.F = F ∧ cs = x.cs ∧ x.X w D := by
  obtain ⟨ve, vx, vn, vh, vd, rfl, ⟨A1, c1, rfl, -, -, h1⟩, ⟨A2, c2, rfl, -, -, h2⟩, ⟨A3, c3, rfl, -, -, h3⟩, ⟨A4, c4, rfl, -, -, h4⟩, ⟨A5, c5, rfl, -, -, h5⟩⟩ := h
  exact ⟨⟨F, fun i => match i with | 0 => (A1, c1) | 1 => (A2, c2) | 2 => (A3, c3) | 3 => (A4, c4) | 4 => (A5, c5)⟩, rfl, rfl, h1, h2, h3, h4, h5⟩

/-- Its slices are of the call's own. -/
def Pf.Own (w : World) (base : Nat) (x : Pf) : Prop :=
  w.ownsRow base 54 3 (.slice (x.p 0).1 x.F.est.length (x.p 0).2) x.F.est.length (flat encRn x.F.est) ∧ w.ownsRow base 54 3 (.slice (x.p 1).1 x.F.aux.length (x.p 1).2) x.F.aux.length (flat encRn x.F.aux) ∧
  w.ownsRow base 26 1 (.slice (x.p 2).1 x.F.done.length (x.p 2).2) x.F.done.length (uvs x.F.done) ∧ w.ownsRow base 26 1 (.slice (x.p 3).1 x.F.held.length (x.p 3).2) x.F.held.length (uvs x.F.held) ∧
  w.ownsRow base 5 1 (.slice (x.p 4).1 x.F.data.length (x.p 4).2) x.F.data.length (bvs x.F.data)

theorem Pf.Own.toX {w : World} {base : Nat} {D : Nat → Prop} {x : Pf} (h : x.Own w base) (hD : ∀ k, D k → k < base) : x.X w D := ⟨LiesX.of_own h.1 hD, LiesX.of_own h.2.1 hD, LiesX.of_own h.2.2.1 hD, LiesX.of_own h.2.2.2.1 hD, LiesX.of_own h.2.2.2.2 hD⟩

theorem Pf.Own.only {w w' : World} {base : Nat} {D : Nat → Prop} {x : Pf} (h : x.Own w base) (ho : OnlyE w w' D) (hD : ∀ k, D k → k < base ∨ w.heap.size ≤ k) : x.Own w' base := by
  have key : ∀ {k : Nat} {e : TypeId} {v : Value} {n : Nat} {xs : List Value}, w.ownsRow base e k v n xs → w'.ownsRow base e k v n xs := fun h => own_only h ho fun b hb hd => by
    have := h.lt b hb
    have := hD b hd
    omega
  exact ⟨key h.1, key h.2.1, key h.2.2.1, key h.2.2.2.1, key h.2.2.2.2⟩

theorem Pf.Own.on {w w' : World} {base : Nat} {x : Pf} (h : x.Own w base) (hb : RowKit.Below w.heap.size w w') : x.Own w' base := h.only (D := fun _ => False) (OnlyE.of_below hb) fun _ h => h.elim

theorem Pf.Own.base {w : World} {base base' : Nat} {x : Pf} (h : x.Own w base) (hb : base' ≤ base) : x.Own w base' := ⟨own_base h.1 hb |> fun h => h, own_base h.2.1 hb, own_base h.2.2.1 hb, own_base h.2.2.2.1 hb, own_base h.2.2.2.2 hb⟩

/-- .. in blocks below the heap's end. -/
theorem Pf.Own.X {w : World} {base : Nat} {D : Nat → Prop} {x : Pf} (h : x.Own w base) (hD : ∀ k, D k → k < base ∨ w.heap.size ≤ k) : x.X w D := by
  have h1 : x.X w (fun k => k < base) := h.toX fun _ h => h
  exact h1.widen fun k hk => (hD k hk).symm

theorem own_heap {w : World} {base k : Nat} {e : TypeId} {v : Value} {n : Nat} {xs : List Value} (h : w.ownsRow base e k v n xs) {g : Nat} (hg : v.ownBlock = some g) : ∃ cur, w.heap[g]? = some (.cells cur e (0, 0)) := by
  rcases h.2 with ⟨h1, _⟩ | ⟨g', c, cur, h1, _, h2, _⟩
  · rw [h1] at hg; simp [Value.ownBlock] at hg
  · rw [h1] at hg
    simp only [Value.ownBlock, Option.some.injEq] at hg
    subst hg
    exact ⟨cur, h2⟩

/-- The cells of an element of a row of frames. -/
theorem row_at {w : World} {B : Nat} {A : Option Addr} {l : List Pf} (h : Lies w B A (flat encPf l)) {i : Nat} (hi : i < l.length) : ∃ b off, A = some ⟨b, off, none⟩ ∧ b < B ∧ w.rangeAt b (off + i * 16) (encPf l[i]) := by
  have hne : flat encPf l ≠ [] := by
    intro h0
    have := congrArg List.length h0
    rw [flat_length encPf_len] at this
    simp at this
    omega
  obtain ⟨b, off, e, hb, hc⟩ := h hne
  refine ⟨b, off, e, hb, fun j v hv => ?_⟩
  have hj : j < 16 := by
    have := (List.getElem?_eq_some_iff.1 hv).1
    rwa [encPf_len] at this
  have := flat_at encPf_len l i j hj hi
  rw [hv] at this
  have h2 := hc (i * 16 + j) v this
  rwa [← Nat.add_assoc] at h2

theorem infoFr : (Try.prog.info? 42).map (·.size) = some 16 := by kernel_rfl

section
variable {ops : Array Oper} {rest : List Oper} {dst : Option Tmp} {ty : TypeId} {pos : String} {aft : Array Edge} {a : Act} {w : World} {Q : Exit → Act → World → Prop}

/-- An element of a row of frames is loaded whole. -/
theorem load_elem (y : Operand) {b o : Nat} {x : Pf} (hx : a.eval y = .pointer (some ⟨b, o, none⟩)) (hc : w.rangeAt b o (encPf x))
    (h : wpList Try.prog ops Q rest (a.put dst (.agg x.cs)) w) : wpList Try.prog ops Q (⟨dst, .load 42 y, ty, pos, aft, none⟩ :: rest) a w :=
  wpList_load_mid rfl _ y rfl b o hx (encPf x) _ hc Try.underlying42 rfl (infoFr.trans (by rw [encPf_len])) h

end

set_option maxRecDepth 20000 in
theorem wp_build1 {o : Oper} {a : Act} {w : World} {K : Act → World → Prop} {Q : Exit → Act → World → Prop} {x : Operand} {y : Pf} (ho : o.op = .buildSlice 34 1 #[(0, x)]) (hx : a.eval x = .agg y.cs)
    (h : K (a.put o.dst (.slice (some ⟨w.heap.size, 0, none⟩) 1 1)) (w.alloc (.cells y.cs 42))) : o.wp Try.prog a w K Q := by
  obtain ⟨F, p⟩ := y
  unfold Oper.wp execOp
  simp only [ho, List.map_toArray, List.map_cons, List.map_nil, hx]
  unfold Pf.cs frCells at h ⊢
  go_simp
  exact h

/-- append, where what it comes to is known. -/
theorem wpList_append_run {P : Program} {ops : Array Oper} {rest : List Oper} {o : Oper} {a : Act} {w w' : World} {v vx v' : Value} {Q : Exit → Act → World → Prop} (hgd : o.guard = none) (s x : Operand) (t : TypeId) (ho : o.op = .call { callee := .builtin .append, args := #[s, x], argTypes := #[t, t] })
    (hs : a.eval s = v) (hx : a.eval x = vx) (hrun : (Builtin.append_ #[t, t] o.type #[v, vx]).run P w = .ok v' w') (h : wpList P ops Q rest (a.put o.dst v') w') : wpList P ops Q (o :: rest) a w := by
  refine wpList_plain hgd fun K hK => ?_
  have hk := hK _ _ h
  unfold Oper.wp execOp
  simp only [ho, resolve, invoke, builtin, Sem.run_bind, Sem.run_pure, Result.andThen_ok, List.map_toArray, List.map_cons, List.map_nil, hs, hx, hrun]
  exact hk

def zid : Id := ⟨0, 0, by decide, by decide⟩

/-- A list that was just built. -/
theorem LiesX.of_new {w : World} {D : Nat → Prop} (cs : Array Value) (t : TypeId) (hD : ¬ D w.heap.size) : LiesX (w.alloc (.cells cs t)) D (some ⟨w.heap.size, 0, none⟩) cs.toList := fun hn => by
  obtain ⟨b, off, e, hb, hc⟩ := lies_new w cs t hn
  injection e with e
  injection e with e1 e2
  subst e1 e2
  exact ⟨_, _, rfl, by simp, hD, hc⟩

end Go.Proofs.Ytgkkobnoegggaaa
