/- A bag in memory: its block, the row of its things, the bytes of each in a block of its own. -/
import Derived.Test.YtjecphjdmjoeiaaBgA
namespace Go.Proofs.Ytjecphjdmjoeiaa
open Go.RowKit Go.Sort

/-- A thing in a bag: the slice that has its bytes, these bytes, and whether it is turned. -/
structure Th where
  v : Value
  b : List UInt8
  t : Bool

/-- A thing as plain data. -/
def Th.pl (x : Th) : List UInt8 × Bool := (x.b, x.t)
def encTh (x : Th) : List Value := [x.v, .bool x.t]
theorem encTh_len (x : Th) : (encTh x).length = 2 := rfl
/-- The blocks in which things' bytes lie. -/
def bodies (l : List Th) : List Nat := l.filterMap fun x => x.v.ownBlock

structure BagAt (w : World) (base p : Nat) (T : Value) (room lost : Nat) (l : List Th) (D : Nat → Prop) : Prop where
  box : w.heap[p]? = some (.cells #[T, .int .i64 (room : Int), .int .i64 (lost : Int)] 54 (0, 0))
  ths : w.ownsRow base 64 2 T l.length (flat encTh l)
  bod : ∀ x ∈ l, w.ownsRow base 5 1 x.v x.b.length (bvs x.b)
  dis : (bodies l).Nodup
  dp : D p
  dt : ∀ b, T.ownBlock = some b → D b
  db : ∀ b, b ∈ bodies l → D b
  din : ∀ b, D b → base ≤ b ∧ b < w.heap.size
  bm : ∀ x ∈ l, x.b.length ≤ 1000
  fit : l.length ≤ room
  room1 : 1 ≤ room
  room2 : room ≤ 4096
  low : lost ≤ 1000000

theorem own_only {w w' : World} {X : Nat → Prop} {base k : Nat} {e : TypeId} {v : Value} {n : Nat} {xs : List Value} (h : w.ownsRow base e k v n xs) (ho : OnlyE w w' X) (hX : ∀ b, v.ownBlock = some b → ¬ X b) : w'.ownsRow base e k v n xs := by
  refine ⟨h.1, ?_⟩
  rcases h.2 with hn | ⟨g, cap, cur, rfl, hbg, hg, rest⟩
  · exact .inl hn
  · exact .inr ⟨g, cap, cur, rfl, hbg, (ho.same g (Array.getElem?_eq_some_iff.1 hg).1 (hX g rfl)).trans hg, rest⟩

theorem own_one {w : World} {base k : Nat} {e : TypeId} {v : Value} {n : Nat} {xs : List Value} (h : w.ownsRow base e k v n xs) : v.oneCell' = true := by
  obtain ⟨A, c, rfl, _⟩ := own_sliceK h
  rfl

section
variable {w w' : World} {base p : Nat} {T : Value} {room lost : Nat} {l : List Th} {D : Nat → Prop}

theorem mem_bodies {x : Th} {b : Nat} (hx : x ∈ l) (hb : x.v.ownBlock = some b) : b ∈ bodies l := List.mem_filterMap.2 ⟨x, hx, hb⟩

theorem BagAt.kept {X : Nat → Prop} (h : BagAt w base p T room lost l D) (ho : OnlyE w w' X) (hX : ∀ b, D b → ¬ X b) : BagAt w' base p T room lost l D :=
  { box := (ho.same p (h.din p h.dp).2 (hX p h.dp)).trans h.box
    ths := own_only h.ths ho fun b hb => hX b (h.dt b hb)
    bod := fun x hx => own_only (h.bod x hx) ho fun b hb => hX b (h.db b (mem_bodies hx hb))
    dis := h.dis, dp := h.dp, dt := h.dt, db := h.db
    din := fun b hb => ⟨(h.din b hb).1, Nat.lt_of_lt_of_le (h.din b hb).2 ho.size⟩
    bm := h.bm, fit := h.fit, room1 := h.room1, room2 := h.room2, low := h.low }

theorem BagAt.on (h : BagAt w base p T room lost l D) (hb : RowKit.Below w.heap.size w w') : BagAt w' base p T room lost l D :=
  h.kept (OnlyE.of_below (D := fun _ => False) hb) fun _ _ => id

theorem BagAt.widen (h : BagAt w base p T room lost l D) {D' : Nat → Prop} (h1 : ∀ b, D b → D' b) (h2 : ∀ b, D' b → base ≤ b ∧ b < w.heap.size) : BagAt w base p T room lost l D' :=
  { h with dp := h1 _ h.dp, dt := fun b hb => h1 b (h.dt b hb), db := fun b hb => h1 b (h.db b hb), din := h2 }

theorem BagAt.lo (h : BagAt w base p T room lost l D) : base ≤ w.heap.size := by
  have := h.din p h.dp
  omega
theorem BagAt.plt (h : BagAt w base p T room lost l D) : p < w.heap.size := (h.din p h.dp).2
theorem BagAt.c0 (h : BagAt w base p T room lost l D) : w.cell? ⟨p, 0, none⟩ = some T := cell_of_row w p 0 _ _ _ h.box
theorem BagAt.c1 (h : BagAt w base p T room lost l D) : w.cell? ⟨p, 1, none⟩ = some (.int .i64 (room : Int)) := cell_of_row w p 1 _ _ _ h.box
theorem BagAt.c2 (h : BagAt w base p T room lost l D) : w.cell? ⟨p, 2, none⟩ = some (.int .i64 (lost : Int)) := cell_of_row w p 2 _ _ _ h.box
theorem BagAt.fr (h : BagAt w base p T room lost l D) (j : Nat) : w.frozen? ⟨p, j, none⟩ = false := frozen_of_row w p j _ _ h.box
theorem BagAt.slice (h : BagAt w base p T room lost l D) : ∃ A c, T = .slice A l.length c ∧ l.length ≤ c ∧ c ≤ maxLen := own_sliceK h.ths

theorem BagAt.thing (h : BagAt w base p T room lost l D) {i : Nat} (hi : i < l.length) :
    ∃ g c, T = .slice (some ⟨g, 0, none⟩) l.length c ∧ D g ∧ g < w.heap.size ∧ w.cell? ⟨g, i * 2, none⟩ = some l[i].v ∧ w.cell? ⟨g, i * 2 + 1, none⟩ = some (.bool l[i].t) ∧ w.frozen? ⟨g, i * 2 + 1, none⟩ = false := by
  obtain ⟨g, c, rfl, _, hlt⟩ := h.ths.form (by omega)
  refine ⟨g, c, rfl, h.dt g rfl, hlt, ?_, ?_, h.ths.frozenAt _⟩
  · rw [h.ths.cellAt _ (by omega)]
    have := flat_at encTh_len l i 0 (by decide) hi
    simpa [encTh] using this
  · rw [h.ths.cellAt _ (by omega)]
    have := flat_at encTh_len l i 1 (by decide) hi
    simpa [encTh] using this

/-- The bytes of a thing. -/
theorem BagAt.body (h : BagAt w base p T room lost l D) {i : Nat} (hi : i < l.length) :
    ∃ A c, l[i].v = .slice A l[i].b.length c ∧ l[i].b.length ≤ c ∧ c ≤ maxLen ∧ Lies w w.heap.size A (bvs l[i].b) := by
  have hb := h.bod l[i] (List.getElem_mem hi)
  obtain ⟨A, c, hv, h1, h2⟩ := own_sliceK hb
  rw [hv] at hb
  exact ⟨A, c, hv, h1, h2, Lies.of_ownK hb⟩

theorem BagAt.one (h : BagAt w base p T room lost l D) : ∀ u ∈ flat encTh l, u.oneCell' = true := by
  intro u hu
  simp only [flat, List.mem_flatMap] at hu
  obtain ⟨x, hx, hu⟩ := hu
  simp only [encTh, List.mem_cons, List.not_mem_nil, or_false] at hu
  rcases hu with rfl | rfl
  · exact own_one (h.bod x hx)
  · rfl

/-- The bag's own block, that of the row, and those of the bytes are different ones. -/
theorem BagAt.ne_row (h : BagAt w base p T room lost l D) {g : Nat} (hg : T.ownBlock = some g) : g ≠ p := by
  rintro rfl
  rcases h.ths.2 with ⟨h1, _⟩ | ⟨g', c, cur, h1, _, h2, _⟩
  · rw [h1] at hg; simp [Value.ownBlock] at hg
  · rw [h1] at hg
    simp only [Value.ownBlock, Option.some.injEq] at hg
    subst hg
    rw [h.box] at h2
    injection h2 with h2
    injection h2 with _ h2
    exact absurd h2 (by decide)
theorem own_heap {base k : Nat} {e : TypeId} {v : Value} {n : Nat} {xs : List Value} (h : w.ownsRow base e k v n xs) {g : Nat} (hg : v.ownBlock = some g) : ∃ cur, w.heap[g]? = some (.cells cur e (0, 0)) := by
  rcases h.2 with ⟨h1, _⟩ | ⟨g', c, cur, h1, _, h2, _⟩
  · rw [h1] at hg; simp [Value.ownBlock] at hg
  · rw [h1] at hg
    simp only [Value.ownBlock, Option.some.injEq] at hg
    subst hg
    exact ⟨cur, h2⟩
theorem BagAt.ne_body (h : BagAt w base p T room lost l D) {g : Nat} (hg : g ∈ bodies l) : g ≠ p ∧ T.ownBlock ≠ some g := by
  obtain ⟨x, hx, hb⟩ := List.mem_filterMap.1 hg
  obtain ⟨cur, hc⟩ := own_heap (h.bod x hx) hb
  constructor
  · rintro rfl
    rw [h.box] at hc
    injection hc with hc
    injection hc with _ hc
    exact absurd hc (by decide)
  · intro ht
    obtain ⟨cur', hc'⟩ := own_heap h.ths ht
    rw [hc'] at hc
    injection hc with hc
    injection hc with _ hc
    exact absurd hc (by decide)

/-- How many were lost is stored. -/
theorem BagAt.setLost (h : BagAt w base p T room lost l D) (n : Nat) (hn : n ≤ 1000000) : BagAt (w.setCell ⟨p, 2, none⟩ (.int .i64 (n : Int))) base p T room n l D ∧ OnlyE w (w.setCell ⟨p, 2, none⟩ (.int .i64 (n : Int))) D := by
  have ho : OnlyE w (w.setCell ⟨p, 2, none⟩ (.int .i64 (n : Int))) (fun k => k = p) := onlyE_set (D := fun k => k = p) rfl 2 _
  refine ⟨?_, ho.mono fun k hk => hk ▸ h.dp⟩
  exact
  { box := heap_setCell_same w p 2 _ _ _ h.box
    ths := own_only h.ths ho fun b hb => h.ne_row hb
    bod := fun x hx => own_only (h.bod x hx) ho fun b hb => (h.ne_body (mem_bodies hx hb)).1
    dis := h.dis, dp := h.dp, dt := h.dt, db := h.db
    din := fun b hb => ⟨(h.din b hb).1, by simpa using (h.din b hb).2⟩
    bm := h.bm, fit := h.fit, room1 := h.room1, room2 := h.room2, low := hn }

/-- The row of things is stored anew: it may have another block. -/
theorem BagAt.setRow {w1 : World} {T' : Value} {l' : List Th} {D' : Nat → Prop} (h : BagAt w base p T room lost l D) (ho : OnlyE w w1 (fun k => T.ownBlock = some k)) (hT : w1.ownsRow base 64 2 T' l'.length (flat encTh l'))
    (hl : ∀ x ∈ l', x ∈ l ∨ (w1.ownsRow w.heap.size 5 1 x.v x.b.length (bvs x.b) ∧ x.b.length ≤ 1000)) (hd : (bodies l').Nodup) (hD : ∀ b, D b → D' b) (hDt : ∀ b, T'.ownBlock = some b → D' b) (hDb : ∀ b, b ∈ bodies l' → D' b)
    (hDi : ∀ b, D' b → base ≤ b ∧ b < w1.heap.size) (hf : l'.length ≤ room) : BagAt (w1.setCell ⟨p, 0, none⟩ T') base p T' room lost l' D' := by
  have hbox : w1.heap[p]? = some (.cells #[T, .int .i64 (room : Int), .int .i64 (lost : Int)] 54 (0, 0)) := (ho.same p h.plt fun hp => h.ne_row hp rfl).trans h.box
  have ho2 : OnlyE w1 (w1.setCell ⟨p, 0, none⟩ T') (fun k => k = p) := onlyE_set (D := fun k => k = p) rfl 0 _
  have hlow := h.lo
  exact
  { box := heap_setCell_same w1 p 0 _ _ _ hbox
    ths := own_only hT ho2 fun b hb => by
      rintro rfl
      obtain ⟨cur, hc⟩ := own_heap hT hb
      rw [hbox] at hc
      injection hc with hc
      injection hc with _ hc
      exact absurd hc (by decide)
    bod := fun x hx => by
      have hx1 : w1.ownsRow base 5 1 x.v x.b.length (bvs x.b) := by
        rcases hl x hx with h1 | ⟨h1, _⟩
        · exact own_only (h.bod x h1) ho fun b hb => (h.ne_body (mem_bodies h1 hb)).2
        · exact own_base h1 hlow
      refine own_only hx1 ho2 fun b hb => ?_
      rintro rfl
      obtain ⟨cur, hc⟩ := own_heap hx1 hb
      rw [hbox] at hc
      injection hc with hc
      injection hc with _ hc
      exact absurd hc (by decide)
    dis := hd, dp := hD _ h.dp, dt := hDt, db := hDb
    din := fun b hb => ⟨(hDi b hb).1, by simpa using (hDi b hb).2⟩
    bm := fun x hx => (hl x hx).elim (h.bm x) (·.2), fit := hf, room1 := h.room1, room2 := h.room2, low := h.low }
end

end Go.Proofs.Ytjecphjdmjoeiaa
