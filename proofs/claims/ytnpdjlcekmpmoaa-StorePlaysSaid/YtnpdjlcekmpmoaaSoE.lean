/- Stage 14: a store in memory: its box, the row of its floors, its map; the payloads lie outside of D. -/
import Derived.Test.YtnpdjlcekmpmoaaSoD
set_option maxRecDepth 20000
namespace Go.Proofs.Ytnpdjlcekmpmoaa
open Go.RowKit Go.Sort Go.Maps

theorem zeroSl (w : World) : (zeroValue 34).run Try.prog w = .ok (.slice none 0 0) w := by kernel_rfl
theorem uMap : Try.prog.underlying 54 = some (.map 33 34) := Try.underlying54

theorem OnlyE.of_old {w w' : World} {X D : Nat → Prop} (h : OnlyE w w' X) (hD : ∀ k, X k → w.heap.size ≤ k ∨ D k) : OnlyE w w' D :=
  ⟨h.1, fun k hk hn => h.2 k hk fun hx => (hD k hx).elim (fun h1 => absurd hk (by omega)) hn, h.3⟩
theorem turned_only {w w' : World} {D : Nat → Prop} {b : Nat} (h : w.mapTurned w' b) (hD : D b) : OnlyE w w' D := OnlyE.of_grown h.grown hD
theorem ownsMap_only {H : Type} {P : Program} {k : TypeId} {R : Value → Option (DataW H × List MemPlace)} {w w' : World} {b n : Nat} {D : DataW H} {X : Nat → Prop} (h : w.ownsMap P k R b n D) (ho : OnlyE w w' X) (hX : ¬ X b) : w'.ownsMap P k R b n D := by
  have hlt := h.lt
  obtain ⟨es, clock, hb, F, hs, hD⟩ := h
  exact ⟨es, clock, (ho.same b hlt hX).trans hb, F, hs, hD⟩
theorem ownsMap_tight {H : Type} {P : Program} {k : TypeId} {R : Value → Option (DataW H × List MemPlace)} {w : World} {b n : Nat} {D : DataW H} (h : w.ownsMap P k R b n D) : w.ownsMap P k R b (Maps.size D) D := by
  obtain ⟨es, clock, hb, F, hs, rfl⟩ := h
  exact ⟨es, clock, hb, F, by simp [Maps.size, length_sorted], rfl⟩

/-- Where a payload lies: its slice in E, outside of D. -/
def PayAt (w : World) (D : Nat → Prop) (E : DataW Value) (h : Hp) : Prop :=
  ∃ A c, (∀ z, E.atKey (idLit h.id) z = .held (.slice A h.b.length c)) ∧ h.b.length ≤ c ∧ c ≤ maxLen ∧ h.b.length ≤ 1000 ∧ LiesX w D A (bvs h.b)
theorem PayAt.kept {w w' : World} {D : Nat → Prop} {E : DataW Value} {h : Hp} (hp : PayAt w D E h) (ho : OnlyE w w' D) : PayAt w' D E h := by
  obtain ⟨A, c, h1, h2, h3, h4, h5⟩ := hp
  exact ⟨A, c, h1, h2, h3, h4, h5.kept ho⟩
theorem PayAt.widen {w : World} {D D' : Nat → Prop} {E : DataW Value} {h : Hp} (hp : PayAt w D E h) (hD : ∀ k, D' k → w.heap.size ≤ k ∨ D k) : PayAt w D' E h := by
  obtain ⟨A, c, h1, h2, h3, h4, h5⟩ := hp
  exact ⟨A, c, h1, h2, h3, h4, h5.widen hD⟩

/-- What the map has: just the payloads l. -/
structure HasE (E : DataW Value) (l : List Hp) : Prop where
  tidy : Maps.Tidy E
  has : ∀ x : Id, Maps.has E (idLit x) = hasL l x
  size : Maps.size E = l.length

def stCells (mb fb : Nat) (m : Sm) : Array Value := #[.map (some mb), .slice (some ⟨fb, 0, none⟩) m.n m.n, .int .i64 (m.room : Int), .int .i64 (useL m.l : Int)]

/-- A store in memory. -/
structure StAt (w : World) (base g mb fb : Nat) (m : Sm) (D : Nat → Prop) : Prop where
  box : w.heap[g]? = some (.cells (stCells mb fb m) 56 (0, 0))
  row : w.ownsRow base 31 1 (.slice (some ⟨fb, 0, none⟩) m.n m.n) m.n (uvs m.fl)
  map : ∃ E, w.ownsMap Try.prog 33 slR mb m.l.length E ∧ HasE E m.l ∧ ∀ h ∈ m.l, PayAt w D E h
  dg : D g
  dm : D mb
  df : D fb
  ne : g ≠ mb ∧ g ≠ fb ∧ mb ≠ fb
  din : ∀ b, D b → base ≤ b ∧ b < w.heap.size
  ok : m.Ok

section
variable {w w' : World} {base g mb fb : Nat} {m : Sm} {D : Nat → Prop}
theorem StAt.kept {X : Nat → Prop} (h : StAt w base g mb fb m D) (ho : OnlyE w w' X) (hX : ∀ b, X b → w.heap.size ≤ b ∨ (D b ∧ b ≠ g ∧ b ≠ mb ∧ b ≠ fb)) : StAt w' base g mb fb m D := by
  have hn : ∀ b, D b → (b = g ∨ b = mb ∨ b = fb) → ¬ X b := fun b hb e hx => by
    have h1 := (h.din b hb).2
    rcases hX b hx with h2 | ⟨-, h2, h3, h4⟩
    · omega
    · rcases e with e | e | e
      · exact h2 e
      · exact h3 e
      · exact h4 e
  obtain ⟨E, e1, e2, e3⟩ := h.map
  exact {
    box := (ho.same g (h.din g h.dg).2 (hn g h.dg (.inl rfl))).trans h.box
    row := own_only h.row ho fun b hb => by
      simp only [Value.ownBlock, Option.some.injEq] at hb
      subst hb
      exact hn _ h.df (.inr (.inr rfl))
    map := ⟨E, ownsMap_only e1 ho (hn mb h.dm (.inr (.inl rfl))), e2, fun y hy => (e3 y hy).kept (ho.of_old fun k hk => (hX k hk).imp id fun h => h.1)⟩
    dg := h.dg, dm := h.dm, df := h.df, ne := h.ne
    din := fun b hb => ⟨(h.din b hb).1, Nat.lt_of_lt_of_le (h.din b hb).2 ho.size⟩
    ok := h.ok }
theorem StAt.on (h : StAt w base g mb fb m D) (hb : RowKit.Below w.heap.size w w') : StAt w' base g mb fb m D :=
  h.kept (OnlyE.of_below (D := fun _ => False) hb) fun _ h => h.elim
/-- What is new may be put into D. -/
theorem StAt.grow {D' : Nat → Prop} (h : StAt w base g mb fb m D) (hb : RowKit.Below w.heap.size w w') (h1 : ∀ b, D b → D' b) (h2 : ∀ b, D' b → base ≤ b ∧ b < w'.heap.size ∧ (D b ∨ w.heap.size ≤ b)) : StAt w' base g mb fb m D' := by
  have k := h.on hb
  obtain ⟨E, e1, e2, e3⟩ := h.map
  obtain ⟨E', k1, k2, -⟩ := k.map
  exact { k with
    map := ⟨E, ownsMap_only e1 (OnlyE.of_below (D := fun _ => False) hb) id, e2, fun y hy => ((e3 y hy).widen fun b hb => (h2 b hb).2.2.symm).kept (OnlyE.of_below hb)⟩
    dg := h1 _ h.dg, dm := h1 _ h.dm, df := h1 _ h.df
    din := fun b hb => ⟨(h2 b hb).1, (h2 b hb).2.1⟩ }
theorem StAt.lo (h : StAt w base g mb fb m D) : base ≤ w.heap.size := by
  have := h.din g h.dg
  omega
theorem StAt.lt (h : StAt w base g mb fb m D) : g < w.heap.size := (h.din g h.dg).2
theorem StAt.c0 (h : StAt w base g mb fb m D) : w.cell? ⟨g, 0, none⟩ = some (.map (some mb)) := cell_of_row w g 0 _ _ _ h.box
theorem StAt.c1 (h : StAt w base g mb fb m D) : w.cell? ⟨g, 1, none⟩ = some (.slice (some ⟨fb, 0, none⟩) m.n m.n) := cell_of_row w g 1 _ _ _ h.box
theorem StAt.c2 (h : StAt w base g mb fb m D) : w.cell? ⟨g, 2, none⟩ = some (.int .i64 (m.room : Int)) := cell_of_row w g 2 _ _ _ h.box
theorem StAt.c3 (h : StAt w base g mb fb m D) : w.cell? ⟨g, 3, none⟩ = some (.int .i64 (useL m.l : Int)) := cell_of_row w g 3 _ _ _ h.box
theorem StAt.fr (h : StAt w base g mb fb m D) (j : Nat) : w.frozen? ⟨g, j, none⟩ = false := frozen_of_row w g j _ _ h.box
theorem StAt.floors (h : StAt w base g mb fb m D) : Lies w w.heap.size (some ⟨fb, 0, none⟩) (uvs m.fl) := Lies.of_own h.row
/-- The floor of a sender. -/
theorem StAt.floor (h : StAt w base g mb fb m D) {i : Nat} (hi : i < m.n) : w.cell? ⟨fb, i, none⟩ = some (.int .u64 (num m.fl i : Int)) := by
  have hi' : i < m.fl.length := by rw [h.ok.fl]; exact hi
  obtain ⟨b, off, e, -, hc⟩ := h.floors.at_ (uvs_at hi')
  injection e with e
  injection e with e1 e2
  subst e1 e2
  rw [num_in hi']
  simpa using hc
/-- A look into the map: whatever grows. -/
theorem StAt.look (h : StAt w base g mb fb m D) (x : Id) : ∃ A n c, (∀ W, RowKit.Below w.heap.size w W → (Instr.lookup 54 (.map (some mb)) (valId x) true).run Try.prog W = .ok (.tuple #[.slice A n c, .bool (hasL m.l x)]) W) ∧
    n = (getL m.l x).length ∧ n ≤ c ∧ c ≤ maxLen ∧ n ≤ 1000 ∧ LiesX w D A (bvs (getL m.l x)) := by
  obtain ⟨E, e1, e2, e3⟩ := h.map
  obtain ⟨v, ps, -, hv⟩ := e1.look_ok keyLaw uMap (zeroSl w) (slR_mk none 0 0) (key_id x)
  obtain ⟨A, n, c, rfl, hv2⟩ := slR_inv hv
  have hrun : ∀ W, RowKit.Below w.heap.size w W → (Instr.lookup 54 (.map (some mb)) (valId x) true).run Try.prog W = .ok (.tuple #[.slice A n c, .bool (hasL m.l x)]) W := by
    intro W hW
    obtain ⟨v', ps', hr, hv'⟩ := (ownsMap_only e1 (OnlyE.of_below (D := fun _ => False) hW) id).look_ok keyLaw uMap (zeroSl W) (slR_mk none 0 0) (key_id x)
    obtain ⟨A', n', c', rfl, hv3⟩ := slR_inv hv'
    have he := congrArg Prod.fst hv2
    have he' := congrArg Prod.fst hv3
    simp only at he he'
    rw [he] at he'
    injection he' with he'
    rw [he', ← e2.has]
    exact hr
  refine ⟨A, n, c, hrun, ?_⟩
  have hz := congrArg Prod.fst hv2
  simp only at hz
  cases hh : hasL m.l x with
  | false =>
    have hno : getL m.l x = [] := by
      unfold getL
      rw [List.find?_eq_none.2 fun y hy => by simpa using hasL_no.1 hh y hy]
    rw [Maps.atKey_of_not_has (by rw [e2.has, hh])] at hz
    injection hz with hz
    injection hz with hA hn hc
    subst hA hn hc
    rw [hno]
    exact ⟨rfl, Nat.le_refl _, by unfold maxLen; omega, by omega, LiesX.nil⟩
  | true =>
    obtain ⟨y, hy, rfl⟩ := hasL_iff.1 hh
    have hg : getL m.l y.id = y.b := by
      unfold getL
      cases hf : m.l.find? fun h => decide (h.id = y.id) with
      | none => exact absurd (List.find?_eq_none.1 hf y hy) (by simp)
      | some z =>
        have h1 := List.mem_of_find?_eq_some hf
        have h2 : z.id = y.id := by simpa using List.find?_some hf
        have : z = y := by
          rcases List.pairwise_iff_getElem.1 h.ok.apart with hp
          obtain ⟨i, hi, rfl⟩ := List.getElem_of_mem h1
          obtain ⟨j, hj, rfl⟩ := List.getElem_of_mem hy
          rcases Nat.lt_trichotomy i j with hl | hl | hl
          · exact absurd h2 (hp i j hi hj hl)
          · subst hl; rfl
          · exact absurd h2.symm (hp j i hj hi hl)
        rw [this]
    obtain ⟨A1, c1, a1, a2, a3, a4, a5⟩ := e3 y hy
    rw [a1] at hz
    injection hz with hz
    injection hz with hA hn hc
    subst hA hn hc
    rw [hg]
    exact ⟨rfl, a2, a3, a4, a5⟩
end

end Go.Proofs.Ytnpdjlcekmpmoaa
