/- Words of stage 8: a frame and where its slices lie; a window in memory: its box, the row of its frames. -/
import Derived.Test.YtbkkpimhoeagdaaSlD
import Derived.Deep.MidRow
namespace Go.Proofs.Ytbkkpimhoeagdaa
open Go.RowKit Go.Sort

/-- A frame, and where its five slices lie. -/
structure Pf where
  F : Fr
  p : Fin 5 → Hd

def Pf.cs (x : Pf) : Array Value := frCells x.F (.slice (x.p 0).1 x.F.est.length (x.p 0).2) (.slice (x.p 1).1 x.F.aux.length (x.p 1).2) (.slice (x.p 2).1 x.F.done.length (x.p 2).2) (.slice (x.p 3).1 x.F.held.length (x.p 3).2) (.slice (x.p 4).1 x.F.data.length (x.p 4).2)
def encPf (x : Pf) : List Value := x.cs.toList
theorem encPf_len (x : Pf) : (encPf x).length = 16 := rfl
theorem Pf.size (x : Pf) : x.cs.size = 16 := rfl
theorem encPf_one (x : Pf) : ∀ v ∈ encPf x, v.oneCell' = true := by
  intro v hv
  simp only [encPf, Pf.cs, frCells, List.mem_cons, List.not_mem_nil, or_false] at hv
  rcases hv with rfl | rfl | rfl | rfl | rfl | rfl | rfl | rfl | rfl | rfl | rfl | rfl | rfl | rfl | rfl | rfl <;> rfl
theorem Pf.one (x : Pf) : x.cs.all (·.oneCell') = true := all_oneCell_toArray (encPf_one x)

/-- Its slices lie outside of D. -/
def Pf.X (w : World) (D : Nat → Prop) (x : Pf) : Prop :=
  LiesX w D (x.p 0).1 (flat encRn x.F.est) ∧ LiesX w D (x.p 1).1 (flat encRn x.F.aux) ∧ LiesX w D (x.p 2).1 (uvs x.F.done) ∧ LiesX w D (x.p 3).1 (uvs x.F.held) ∧ LiesX w D (x.p 4).1 (bvs x.F.data)
theorem Pf.X.kept {w w' : World} {D : Nat → Prop} {x : Pf} (h : x.X w D) (ho : OnlyE w w' D) : x.X w' D := ⟨h.1.kept ho, h.2.1.kept ho, h.2.2.1.kept ho, h.2.2.2.1.kept ho, h.2.2.2.2.kept ho⟩
theorem Pf.X.widen {w : World} {D D' : Nat → Prop} {x : Pf} (h : x.X w D) (hD : ∀ k, D' k → w.heap.size ≤ k ∨ D k) : x.X w D' := ⟨h.1.widen hD, h.2.1.widen hD, h.2.2.1.widen hD, h.2.2.2.1.widen hD, h.2.2.2.2.widen hD⟩
theorem Pf.X.on {w w' : World} {D : Nat → Prop} {x : Pf} (h : x.X w D) (hb : RowKit.Below w.heap.size w w') : x.X w' D := h.kept (OnlyE.of_below hb)
theorem Pf.X.frl {w : World} {D : Nat → Prop} {x : Pf} (h : x.X w D) : FrL w x.F x.cs := ⟨x.p, rfl, h.1.lies, h.2.1.lies, h.2.2.1.lies, h.2.2.2.1.lies, h.2.2.2.2.lies⟩
theorem Pf.X.mono {w : World} {D D' : Nat → Prop} {x : Pf} (h : x.X w D) (hD : ∀ k, D' k → D k) : x.X w D' := h.widen fun k hk => .inr (hD k hk)
theorem FrX.pf {w : World} {D : Nat → Prop} {F : Fr} {cs : Array Value} (h : FrX w D F cs) : ∃ x : Pf, x.F = F ∧ cs = x.cs ∧ x.X w D := by
  obtain ⟨p, rfl, h0, h1, h2, h3, h4⟩ := h
  exact ⟨⟨F, p⟩, rfl, rfl, h0, h1, h2, h3, h4⟩
theorem FrV.pf {w : World} {D : Nat → Prop} {F : Fr} {cs : Array Value} (h : FrV w D F cs) : ∃ x : Pf, x.F = F ∧ cs = x.cs ∧ x.X w D := by
  obtain ⟨ve, vx, vn, vh, vd, rfl, ⟨A1, c1, rfl, -, -, h1⟩, ⟨A2, c2, rfl, -, -, h2⟩, ⟨A3, c3, rfl, -, -, h3⟩, ⟨A4, c4, rfl, -, -, h4⟩, ⟨A5, c5, rfl, -, -, h5⟩⟩ := h
  exact ⟨⟨F, fun i => match i with | 0 => (A1, c1) | 1 => (A2, c2) | 2 => (A3, c3) | 3 => (A4, c4) | 4 => (A5, c5)⟩, rfl, rfl, h1, h2, h3, h4, h5⟩

/-- Its slices are of the call's own. -/
def Pf.Own (w : World) (base : Nat) (x : Pf) : Prop :=
  w.ownsRow base 99 3 (.slice (x.p 0).1 x.F.est.length (x.p 0).2) x.F.est.length (flat encRn x.F.est) ∧ w.ownsRow base 99 3 (.slice (x.p 1).1 x.F.aux.length (x.p 1).2) x.F.aux.length (flat encRn x.F.aux) ∧
  w.ownsRow base 27 1 (.slice (x.p 2).1 x.F.done.length (x.p 2).2) x.F.done.length (uvs x.F.done) ∧ w.ownsRow base 27 1 (.slice (x.p 3).1 x.F.held.length (x.p 3).2) x.F.held.length (uvs x.F.held) ∧
  w.ownsRow base 5 1 (.slice (x.p 4).1 x.F.data.length (x.p 4).2) x.F.data.length (bvs x.F.data)
theorem Pf.Own.toX {w : World} {base : Nat} {D : Nat → Prop} {x : Pf} (h : x.Own w base) (hD : ∀ k, D k → k < base) : x.X w D := ⟨LiesX.of_own h.1 hD, LiesX.of_own h.2.1 hD, LiesX.of_own h.2.2.1 hD, LiesX.of_own h.2.2.2.1 hD, LiesX.of_own h.2.2.2.2 hD⟩
theorem Pf.Own.only {w w' : World} {base : Nat} {D : Nat → Prop} {x : Pf} (h : x.Own w base) (ho : OnlyE w w' D) (hD : ∀ k, D k → k < base ∨ w.heap.size ≤ k) : x.Own w' base := by
  have key : ∀ {k : Nat} {e : TypeId} {v : Value} {n : Nat} {xs : List Value}, w.ownsRow base e k v n xs → w'.ownsRow base e k v n xs := fun h => own_only h ho fun b hb hd => by
    have := h.lt b hb
    have := hD b hd
    omega
  exact ⟨key h.1, key h.2.1, key h.2.2.1, key h.2.2.2.1, key h.2.2.2.2⟩
theorem Pf.Own.on {w w' : World} {base : Nat} {x : Pf} (h : x.Own w base) (hb : RowKit.Below w.heap.size w w') : x.Own w' base := h.only (D := fun _ => False) (OnlyE.of_below hb) fun _ h => h.elim
theorem Pf.Own.base {w : World} {base base' : Nat} {x : Pf} (h : x.Own w base) (hb : base' ≤ base) : x.Own w base' := ⟨own_base h.1 hb |> fun h => h, own_base h.2.1 hb, own_base h.2.2.1 hb, own_base h.2.2.2.1 hb, own_base h.2.2.2.2 hb⟩
/-- .. in blocks below the heap's end. -/
theorem Pf.Own.X {w : World} {base : Nat} {D : Nat → Prop} {x : Pf} (h : x.Own w base) (hD : ∀ k, D k → k < base ∨ w.heap.size ≤ k) : x.X w D := by
  have h1 : x.X w (fun k => k < base) := h.toX fun _ h => h
  exact h1.widen fun k hk => (hD k hk).symm

/-- A frame with another number. -/
def seqd (F : Fr) (n : Nat) : Fr := { F with seq := n }
def Pf.seqd (x : Pf) (n : Nat) : Pf := ⟨Go.Proofs.Ytbkkpimhoeagdaa.seqd x.F n, x.p⟩
theorem Pf.seqd_cs (x : Pf) (n : Nat) : x.cs.setIfInBounds 5 (.int .u64 (n : Int)) = (x.seqd n).cs := rfl
theorem Pf.seqd_X {w : World} {D : Nat → Prop} {x : Pf} (n : Nat) (h : x.X w D) : (x.seqd n).X w D := h
theorem Pf.seqd_Own {w : World} {b : Nat} {x : Pf} (n : Nat) (h : x.Own w b) : (x.seqd n).Own w b := h
theorem seqd_ok {F : Fr} {n : Nat} (h : F.Ok) (hn : n < 18446744073709551616) : (seqd F n).Ok := ⟨h.kind, h.src, h.dst, hn, h.at_, h.of_, h.size, h.inst, h.rnd, h.est, h.aux, h.done, h.held, h.data, h.doneN, h.heldN⟩

/-- Frames, numbered behind n. -/
def num : Nat → List Fr → List Fr
  | _, [] => []
  | n, F :: r => seqd F (n + 1) :: num (n + 1) r
theorem num_snoc (F : Fr) : ∀ (l : List Fr) (n : Nat), num n (l ++ [F]) = num n l ++ [seqd F (n + l.length + 1)]
  | [], n => rfl
  | G :: r, n => by
    show seqd G (n + 1) :: num (n + 1) (r ++ [F]) = _
    rw [num_snoc F r (n + 1), List.length_cons, show n + 1 + r.length + 1 = n + (r.length + 1) + 1 by omega]
    rfl
theorem num_length : ∀ (l : List Fr) (n : Nat), (num n l).length = l.length
  | [], _ => rfl
  | _ :: r, n => congrArg (· + 1) (num_length r (n + 1))

/-- The blocks that a window writes into: its box, and its row. -/
def WD (p : Nat) (T : Value) : Nat → Prop := fun k => k = p ∨ T.ownBlock = some k

structure WinAt (w : World) (base p : Nat) (T : Value) (width last : Nat) (l : List Pf) (D : Nat → Prop) : Prop where
  box : w.heap[p]? = some (.cells #[T, .int .i64 (width : Int), .int .u64 (last : Int)] 92 (0, 0))
  row : w.ownsRow base 44 16 T l.length (flat encPf l)
  frs : ∀ x ∈ l, x.X w D
  oks : ∀ x ∈ l, x.F.Ok
  seqs : ∀ i, (h : i < l.length) → l[i].F.seq + l.length = last + 1 + i
  dw : ∀ b, WD p T b → D b
  din : ∀ b, D b → base ≤ b ∧ b < w.heap.size
  fit : l.length ≤ width
  fit2 : l.length ≤ last
  wid1 : 1 ≤ width
  wid2 : width ≤ 64
  low : last ≤ 1000000

theorem own_heap {w : World} {base k : Nat} {e : TypeId} {v : Value} {n : Nat} {xs : List Value} (h : w.ownsRow base e k v n xs) {g : Nat} (hg : v.ownBlock = some g) : ∃ cur, w.heap[g]? = some (.cells cur e (0, 0)) := by
  rcases h.2 with ⟨h1, _⟩ | ⟨g', c, cur, h1, _, h2, _⟩
  · rw [h1] at hg; simp [Value.ownBlock] at hg
  · rw [h1] at hg
    simp only [Value.ownBlock, Option.some.injEq] at hg
    subst hg
    exact ⟨cur, h2⟩

section
variable {w w' : World} {base p : Nat} {T : Value} {width last : Nat} {l : List Pf} {D : Nat → Prop}

theorem WinAt.dp (h : WinAt w base p T width last l D) : D p := h.dw p (.inl rfl)
theorem WinAt.dt (h : WinAt w base p T width last l D) {b : Nat} (hb : T.ownBlock = some b) : D b := h.dw b (.inr hb)
theorem WinAt.plt (h : WinAt w base p T width last l D) : p < w.heap.size := (h.din p h.dp).2
theorem WinAt.lo (h : WinAt w base p T width last l D) : base ≤ w.heap.size := by have := h.din p h.dp; omega
theorem WinAt.wlt (h : WinAt w base p T width last l D) {b : Nat} (hb : WD p T b) : b < w.heap.size := (h.din b (h.dw b hb)).2

theorem WinAt.kept {X : Nat → Prop} (h : WinAt w base p T width last l D) (ho : OnlyE w w' X) (hX : ∀ b, WD p T b → ¬ X b) (hXD : ∀ b, X b → D b) : WinAt w' base p T width last l D :=
  { box := (ho.same p h.plt (hX p (.inl rfl))).trans h.box
    row := own_only h.row ho fun b hb => hX b (.inr hb)
    frs := fun x hx => (h.frs x hx).kept (ho.mono hXD)
    oks := h.oks, seqs := h.seqs, dw := h.dw
    din := fun b hb => ⟨(h.din b hb).1, Nat.lt_of_lt_of_le (h.din b hb).2 ho.size⟩
    fit := h.fit, fit2 := h.fit2, wid1 := h.wid1, wid2 := h.wid2, low := h.low }
theorem WinAt.on (h : WinAt w base p T width last l D) (hb : RowKit.Below w.heap.size w w') : WinAt w' base p T width last l D :=
  h.kept (OnlyE.of_below (D := fun _ => False) hb) (fun _ _ => id) fun _ h => h.elim

theorem WinAt.c0 (h : WinAt w base p T width last l D) : w.cell? ⟨p, 0, none⟩ = some T := cell_of_row w p 0 _ _ _ h.box
theorem WinAt.c1 (h : WinAt w base p T width last l D) : w.cell? ⟨p, 1, none⟩ = some (.int .i64 (width : Int)) := cell_of_row w p 1 _ _ _ h.box
theorem WinAt.c2 (h : WinAt w base p T width last l D) : w.cell? ⟨p, 2, none⟩ = some (.int .u64 (last : Int)) := cell_of_row w p 2 _ _ _ h.box
theorem WinAt.fr (h : WinAt w base p T width last l D) (j : Nat) : w.frozen? ⟨p, j, none⟩ = false := frozen_of_row w p j _ _ h.box
theorem WinAt.slice (h : WinAt w base p T width last l D) : ∃ A c, T = .slice A l.length c ∧ l.length ≤ c ∧ c ≤ maxLen := own_sliceK h.row
theorem WinAt.ne_row (h : WinAt w base p T width last l D) {g : Nat} (hg : T.ownBlock = some g) : g ≠ p := by
  rintro rfl
  obtain ⟨cur, hc⟩ := own_heap h.row hg
  rw [h.box] at hc
  injection hc with hc
  injection hc with _ hc
  exact absurd hc (by decide)

/-- The window's row as a list that lies there. -/
theorem WinAt.lies (h : WinAt w base p T width last l D) {A : Option Addr} {n c : Nat} (hT : T = .slice A n c) : Lies w w.heap.size A (flat encPf l) := by
  obtain ⟨A', c', e, -, -⟩ := h.slice
  rw [hT] at e
  injection e with e1 e2 e3
  subst e1 e2 e3
  have h1 := h.row
  rw [hT] at h1
  exact Lies.of_ownK h1

theorem WinAt.one (_h : WinAt w base p T width last l D) : ∀ u ∈ flat encPf l, u.oneCell' = true := flat_one encPf_one l

/-- The first number that waits. -/
def firstN (last n : Nat) : Nat := last + 1 - n
theorem WinAt.seqAt (h : WinAt w base p T width last l D) {i : Nat} (hi : i < l.length) : l[i].F.seq = firstN last l.length + i := by
  have := h.seqs i hi
  have := h.fit2
  unfold firstN
  omega
end

/-- The cells of an element of a row of frames. -/
theorem row_at {w : World} {B : Nat} {A : Option Addr} {l : List Pf} (h : Lies w B A (flat encPf l)) {i : Nat} (hi : i < l.length) : ∃ b off, A = some ⟨b, off, none⟩ ∧ b < B ∧ w.rangeAt b (off + i * 16) (encPf l[i]) := by
  have hne : flat encPf l ≠ [] := by
    intro h0
    have := congrArg List.length h0
    rw [flat_length encPf_len] at this
    simp at this
    omega
  obtain ⟨b, off, e, hb, hc⟩ := h hne
  refine ⟨b, off, e, hb, fun j v hv => ?_⟩
  have hj : j < 16 := by
    have := (List.getElem?_eq_some_iff.1 hv).1
    rwa [encPf_len] at this
  have := flat_at encPf_len l i j hj hi
  rw [hv] at this
  have h2 := hc (i * 16 + j) v this
  rwa [← Nat.add_assoc] at h2

theorem infoFr : (Try.prog.info? 44).map (·.size) = some 16 := by kernel_rfl

section
variable {ops : Array Oper} {rest : List Oper} {dst : Option Tmp} {ty : TypeId} {pos : String} {aft : Array Edge} {a : Act} {w : World} {Q : Exit → Act → World → Prop}
/-- An element of a row of frames is loaded whole. -/
theorem load_elem (y : Operand) {b o : Nat} {x : Pf} (hx : a.eval y = .pointer (some ⟨b, o, none⟩)) (hc : w.rangeAt b o (encPf x))
    (h : wpList Try.prog ops Q rest (a.put dst (.agg x.cs)) w) : wpList Try.prog ops Q (⟨dst, .load 44 y, ty, pos, aft, none⟩ :: rest) a w :=
  wpList_load_mid rfl _ y rfl b o hx (encPf x) _ hc Try.underlying44 rfl (infoFr.trans (by rw [encPf_len])) h
end

end Go.Proofs.Ytbkkpimhoeagdaa
