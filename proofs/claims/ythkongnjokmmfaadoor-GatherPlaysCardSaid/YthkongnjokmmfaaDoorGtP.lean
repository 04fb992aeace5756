/- Stage 13: a gatherer in memory: its box, the row of its parts, each part's own blocks. -/
import Derived.Test.YthkongnjokmmfaaDoorGtH
set_option maxRecDepth 20000
namespace Go.Proofs.YthkongnjokmmfaaDoor
open Go.RowKit Go.Sort

/-- A part, and where its blocks lie: its box, its set's box, the set's words, its payload. -/
structure Pz where
  p : Nat
  s : Nat
  q : Nat
  b : Nat
  x : Part
def Pz.ptr (z : Pz) : Value := .pointer (some ⟨z.p, 0, none⟩)
def encPz (z : Pz) : List Value := [z.ptr]
theorem encPz_len (z : Pz) : (encPz z).length = 1 := rfl
theorem encPz_one (z : Pz) : ∀ u ∈ encPz z, u.oneCell' = true := by
  intro u hu
  simp only [encPz, List.mem_cons, List.not_mem_nil, or_false] at hu
  subst hu
  rfl
def Pz.has (z : Pz) (k : Nat) : Prop := k = z.p ∨ k = z.s ∨ k = z.q ∨ k = z.b
def Pz.Disj (y z : Pz) : Prop := ∀ k, y.has k → ¬ z.has k
def Pz.cs (z : Pz) : Array Value := #[.pointer (some ⟨z.s, 0, none⟩), .int .u8 (z.x.id.f : Int), .int .u64 (z.x.id.s : Int), .slice (some ⟨z.b, 0, none⟩) z.x.size z.x.size]

/-- A part in memory: its chunks have k bytes each. -/
structure PartAt (w : World) (k : Nat) (z : Pz) : Prop where
  row : w.heap[z.p]? = some (.cells z.cs 79 (0, 0))
  set : SetAt w z.s z.q z.x.has
  pay : ∃ pl : List UInt8, w.ownsRow 0 5 1 (.slice (some ⟨z.b, 0, none⟩) z.x.size z.x.size) z.x.size (bvs pl) ∧ HasCuts k z.x pl
  np : z.p ≠ z.s ∧ z.p ≠ z.q ∧ z.p ≠ z.b
  nb : z.s ≠ z.b ∧ z.q ≠ z.b

section
variable {w w' : World} {k : Nat} {z : Pz}
theorem PartAt.lt (h : PartAt w k z) {b : Nat} (hb : z.has b) : b < w.heap.size := by
  obtain ⟨h1, h2, -, -⟩ := h.set.lt
  obtain ⟨pl, hp, -⟩ := h.pay
  rcases hb with rfl | rfl | rfl | rfl
  · exact (Array.getElem?_eq_some_iff.1 h.row).1
  · exact h1
  · exact h2
  · exact (hp.lt z.b rfl).2
theorem PartAt.kept {X : Nat → Prop} (h : PartAt w k z) (ho : OnlyE w w' X) (hX : ∀ b, z.has b → ¬ X b) : PartAt w' k z :=
  { row := (ho.same z.p (h.lt (.inl rfl)) (hX _ (.inl rfl))).trans h.row
    set := h.set.kept ho (hX _ (.inr (.inl rfl))) (hX _ (.inr (.inr (.inl rfl))))
    pay := by
      obtain ⟨pl, h1, h2⟩ := h.pay
      exact ⟨pl, own_only h1 ho fun b hb => by injection hb with hb; subst hb; exact hX _ (.inr (.inr (.inr rfl))), h2⟩
    np := h.np, nb := h.nb }
theorem PartAt.c0 (h : PartAt w k z) : w.cell? ⟨z.p, 0, none⟩ = some (.pointer (some ⟨z.s, 0, none⟩)) := cell_of_row w z.p 0 _ _ _ h.row
theorem PartAt.c1 (h : PartAt w k z) : w.cell? ⟨z.p, 1, none⟩ = some (.int .u8 (z.x.id.f : Int)) := cell_of_row w z.p 1 _ _ _ h.row
theorem PartAt.c2 (h : PartAt w k z) : w.cell? ⟨z.p, 2, none⟩ = some (.int .u64 (z.x.id.s : Int)) := cell_of_row w z.p 2 _ _ _ h.row
theorem PartAt.c3 (h : PartAt w k z) : w.cell? ⟨z.p, 3, none⟩ = some (.slice (some ⟨z.b, 0, none⟩) z.x.size z.x.size) := cell_of_row w z.p 3 _ _ _ h.row
end

def gCells (T : Value) (g : Gm) : Array Value :=
  #[T, .int .i64 (g.chunk : Int), .int .i64 (g.most : Int), .int .i64 (g.room : Int), .int .u8 (g.wanted.f : Int), .int .u64 (g.wanted.s : Int),
    .int .i64 (g.counts.getD 0 0 : Int), .int .i64 (g.counts.getD 1 0 : Int), .int .i64 (g.counts.getD 2 0 : Int), .int .i64 (g.counts.getD 3 0 : Int), .int .i64 (g.counts.getD 4 0 : Int), .int .i64 (g.counts.getD 5 0 : Int)]

/-- A gatherer in memory: its box gp, the row T of its parts L; D holds all of its blocks. -/
structure GtAt (w : World) (base gp : Nat) (T : Value) (L : List Pz) (g : Gm) (D : Nat → Prop) : Prop where
  box : w.heap[gp]? = some (.cells (gCells T g) 64 (0, 0))
  row : w.ownsRow base 75 1 T L.length (flat encPz L)
  gl : g.l = L.map Pz.x
  parts : ∀ z ∈ L, PartAt w g.chunk z
  apart : L.Pairwise Pz.Disj
  dg : D gp
  dt : ∀ b, T.ownBlock = some b → D b
  da : ∀ z ∈ L, ∀ b, z.has b → D b ∧ b ≠ gp ∧ T.ownBlock ≠ some b
  din : ∀ b, D b → base ≤ b ∧ b < w.heap.size
  ne : T.ownBlock ≠ some gp
  ok : g.Sok
  rm : g.room ≤ 9223372036854775807

section
variable {w w' : World} {base gp : Nat} {T : Value} {L : List Pz} {g : Gm} {D : Nat → Prop}
theorem GtAt.kept {X : Nat → Prop} (h : GtAt w base gp T L g D) (ho : OnlyE w w' X) (hX : ∀ b, D b → ¬ X b) : GtAt w' base gp T L g D :=
  { box := (ho.same gp (h.din gp h.dg).2 (hX gp h.dg)).trans h.box
    row := own_only h.row ho fun b hb => hX b (h.dt b hb)
    gl := h.gl
    parts := fun z hz => (h.parts z hz).kept ho fun b hb => hX b (h.da z hz b hb).1
    apart := h.apart, dg := h.dg, dt := h.dt, da := h.da
    din := fun b hb => ⟨(h.din b hb).1, Nat.lt_of_lt_of_le (h.din b hb).2 ho.size⟩
    ne := h.ne, ok := h.ok, rm := h.rm }
theorem GtAt.on (h : GtAt w base gp T L g D) (hb : RowKit.Below w.heap.size w w') : GtAt w' base gp T L g D :=
  h.kept (OnlyE.of_below (D := fun _ => False) hb) fun _ _ => id
theorem GtAt.widen (h : GtAt w base gp T L g D) {D' : Nat → Prop} (h1 : ∀ b, D b → D' b) (h2 : ∀ b, D' b → base ≤ b ∧ b < w.heap.size) : GtAt w base gp T L g D' :=
  { h with dg := h1 _ h.dg, dt := fun b hb => h1 b (h.dt b hb), da := fun z hz b hb => ⟨h1 b (h.da z hz b hb).1, (h.da z hz b hb).2⟩, din := h2 }
theorem GtAt.lo (h : GtAt w base gp T L g D) : base ≤ w.heap.size := by
  have := h.din gp h.dg
  omega
theorem GtAt.lt (h : GtAt w base gp T L g D) : gp < w.heap.size := (h.din gp h.dg).2
theorem GtAt.len (h : GtAt w base gp T L g D) : g.l.length = L.length := by rw [h.gl, List.length_map]
theorem GtAt.lenw (h : GtAt w base gp T L g D) : L.length ≤ g.weight := by rw [← h.len]; unfold Gm.weight; omega
theorem GtAt.c0 (h : GtAt w base gp T L g D) : w.cell? ⟨gp, 0, none⟩ = some T := cell_of_row w gp 0 _ _ _ h.box
theorem GtAt.c1 (h : GtAt w base gp T L g D) : w.cell? ⟨gp, 1, none⟩ = some (.int .i64 (g.chunk : Int)) := cell_of_row w gp 1 _ _ _ h.box
theorem GtAt.c2 (h : GtAt w base gp T L g D) : w.cell? ⟨gp, 2, none⟩ = some (.int .i64 (g.most : Int)) := cell_of_row w gp 2 _ _ _ h.box
theorem GtAt.c3 (h : GtAt w base gp T L g D) : w.cell? ⟨gp, 3, none⟩ = some (.int .i64 (g.room : Int)) := cell_of_row w gp 3 _ _ _ h.box
theorem GtAt.c4 (h : GtAt w base gp T L g D) : w.cell? ⟨gp, 4, none⟩ = some (.int .u8 (g.wanted.f : Int)) := cell_of_row w gp 4 _ _ _ h.box
theorem GtAt.c5 (h : GtAt w base gp T L g D) : w.cell? ⟨gp, 5, none⟩ = some (.int .u64 (g.wanted.s : Int)) := cell_of_row w gp 5 _ _ _ h.box
theorem GtAt.cn (h : GtAt w base gp T L g D) {k : Nat} (hk : k < 6) : w.cell? ⟨gp, 6 + k, none⟩ = some (.int .i64 (g.counts.getD k 0 : Int)) := by
  refine cell_of_row w gp (6 + k) _ _ _ h.box |>.trans ?_
  match k, hk with
  | 0, _ => rfl
  | 1, _ => rfl
  | 2, _ => rfl
  | 3, _ => rfl
  | 4, _ => rfl
  | 5, _ => rfl
theorem GtAt.fr (h : GtAt w base gp T L g D) (j : Nat) : w.frozen? ⟨gp, j, none⟩ = false := frozen_of_row w gp j _ _ h.box
theorem GtAt.slice (h : GtAt w base gp T L g D) : ∃ A c, T = .slice A L.length c ∧ L.length ≤ c ∧ c ≤ maxLen ∧ LiesX w (fun k => k ≥ w.heap.size) A (flat encPz L) ∧ Lies w w.heap.size A (flat encPz L) := by
  obtain ⟨A, c, rfl, h1, h2⟩ := own_sliceK h.row
  have := Lies.of_ownK h.row
  refine ⟨A, c, rfl, h1, h2, fun hn => ?_, this⟩
  obtain ⟨b, off, e, hb, hc⟩ := this hn
  exact ⟨b, off, e, hb, by omega, hc⟩
/-- The pointer to a part. -/
theorem Lies.pz {A : Option Addr} (h : Lies w w.heap.size A (flat encPz L)) {i : Nat} (hi : i < L.length) : ∃ b off, A = some ⟨b, off, none⟩ ∧ b < w.heap.size ∧ w.cell? ⟨b, off + i, none⟩ = some L[i].ptr := by
  have e : (flat encPz L)[i]? = some L[i].ptr := by
    have := flat_at encPz_len L i 0 (by decide) hi
    simpa [encPz] using this
  obtain ⟨b, off, hA, hb, hc⟩ := h.at_ e
  exact ⟨b, off, hA, hb, hc⟩
theorem GtAt.part (h : GtAt w base gp T L g D) {i : Nat} (hi : i < L.length) : PartAt w g.chunk L[i] := h.parts _ (List.getElem_mem hi)
theorem GtAt.at_ (h : GtAt w base gp T L g D) {i : Nat} (hi : i < L.length) : g.l[i]'(by rw [h.len]; exact hi) = L[i].x := by
  simp [h.gl]
end

end Go.Proofs.YthkongnjokmmfaaDoor
