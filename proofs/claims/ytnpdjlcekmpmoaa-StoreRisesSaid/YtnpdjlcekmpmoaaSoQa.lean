/- Stage 14: payloads that go, one after another, while the map is ranged over. -/
import Derived.Test.YtnpdjlcekmpmoaaSoO
set_option maxRecDepth 20000
namespace Go.Proofs.Ytnpdjlcekmpmoaa
open Go.RowKit Go.Sort Go.Maps

theorem wp_delete_step {P : Program} {o : Oper} {a : Act} {w w' : World} {vm vx : Value} {ys : Nat → Option Bool} {K : Act → World → Prop} {Q : Exit → Act → World → Prop} {x y : Operand} {t k : TypeId} (hgd : o.guard = none)
    (ho : o.op = .call { callee := .builtin .delete, args := #[x, y], argTypes := #[t, k] })
    (hm : a.eval x = vm) (hx : a.eval y = vx) (hrun : (Builtin.delete_ #[t, k] o.type #[vm, vx]).run P w = .ok (.tuple #[]) w') (hk : K (a.put o.dst (.tuple #[])) w') :
    if Region.wanted o ys = true then Oper.wp P o a w K Q else K (a.put o.dst undef) w := by
  rw [if_pos (by simp [Region.wanted, hgd])]
  unfold Oper.wp execOp
  simp only [ho, resolve, invoke, builtin, Sem.run_bind, Sem.run_pure, Result.andThen_ok, List.map_toArray, List.map_cons, List.map_nil, hm, hx, hrun]
  exact hk

theorem OnlyE.andNew {a b c : World} {D X : Nat → Prop} (h : OnlyE a b D) (k : OnlyE b c X) (hX : ∀ j, X j → a.heap.size ≤ j ∨ D j) : OnlyE a c D :=
  ⟨Nat.le_trans h.1 k.1, fun i hi hn => (k.2 i (Nat.lt_of_lt_of_le hi h.1) fun hx => (hX i hx).elim (fun h1 => absurd hi (by omega)) hn).trans (h.2 i hi hn), h.3.trans (k.3.mono (Nat.zero_le _))⟩
theorem grown_of_below {a b : World} (h : RowKit.Below a.heap.size a b) : a.grownBy b none := ⟨h.os, h.tape, h.output, h.size, fun i hi _ => h.block i hi⟩

theorem OnlyE.cell {w w' : World} {D : Nat → Prop} (h : OnlyE w w' D) {b : Nat} (hb : b < w.heap.size) (hD : ¬ D b) {i : Nat} : w'.cell? ⟨b, i, none⟩ = w.cell? ⟨b, i, none⟩ := by
  have := h.same b hb hD
  simp only [World.cell?, this]
theorem useL_sub {l l' : List Hp} (h : l'.Sublist l) : useL l' ≤ useL l := by
  induction h with
  | slnil => exact Nat.le_refl _
  | cons a _ ih => rw [useL_cons]; omega
  | cons_cons a _ ih => rw [useL_cons, useL_cons]; omega

/-- Without an id's payload. -/
def strike (l : List Hp) (x : Id) : List Hp := l.filter fun h => !decide (h.id = x)
theorem strike_none : ∀ {l : List Hp} {x : Id}, (∀ h ∈ l, h.id ≠ x) → strike l x = l
  | [], _, _ => rfl
  | a :: r, x, h => by
    have h1 := h a (by simp)
    have h2 := strike_none (l := r) (x := x) fun y hy => h y (by simp [hy])
    unfold strike at h2 ⊢
    rw [List.filter_cons, if_pos (by simp [h1]), h2]
theorem strike_one : ∀ {l : List Hp} {y : Hp}, l.Pairwise (fun a b => a.id ≠ b.id) → y ∈ l → (strike l y.id).length + 1 = l.length ∧ useL (strike l y.id) + y.b.length = useL l
  | [], _, _, hy => absurd hy (by simp)
  | a :: r, y, hp, hy => by
    obtain ⟨h1, h2⟩ := List.pairwise_cons.1 hp
    rcases List.mem_cons.1 hy with rfl | hy
    · have e : strike (y :: r) y.id = r := by
        have := strike_none (l := r) (x := y.id) fun z hz => (h1 z hz).symm
        unfold strike at this ⊢
        rw [List.filter_cons, if_neg (by simp), this]
      rw [e, useL_cons]
      simp
      omega
    · have e : strike (a :: r) y.id = a :: strike r y.id := by
        unfold strike
        rw [List.filter_cons, if_pos (by simp [h1 y hy])]
      obtain ⟨i1, i2⟩ := strike_one h2 hy
      rw [e, useL_cons, useL_cons, List.length_cons, List.length_cons]
      omega
theorem hasL_strike (l : List Hp) (x y : Id) : hasL (strike l x) y = (hasL l y && !decide (x = y)) := by
  cases h : hasL l y with
  | false =>
    rw [Bool.false_and, hasL_no]
    intro z hz
    exact hasL_no.1 h z (List.mem_filter.1 hz).1
  | true =>
    obtain ⟨z, hz, rfl⟩ := hasL_iff.1 h
    rw [Bool.true_and]
    by_cases e : x = z.id
    · subst e
      rw [decide_eq_true rfl, Bool.not_true, hasL_no]
      intro q hq e
      have := (List.mem_filter.1 hq).2
      simp [e] at this
    · rw [decide_eq_false e, Bool.not_false, hasL_iff]
      exact ⟨z, List.mem_filter.2 ⟨hz, by rw [decide_eq_false fun h => e (Eq.symm h)]; rfl⟩, rfl⟩

theorem HasE.del {E : DataW Value} {l : List Hp} (h : HasE E l) (hp : l.Pairwise fun a b => a.id ≠ b.id) {y : Hp} (hy : y ∈ l) : HasE (E.del (idLit y.id)) (strike l y.id) where
  tidy := h.tidy.del _
  has := fun z => by
    rw [hasL_strike]
    by_cases e : y.id = z
    · subst e
      rw [Maps.has_del_same, decide_eq_true rfl, Bool.not_true, Bool.and_false]
    · rw [Maps.has_del_other (idLit_ne fun h => e h.symm), h.has, decide_eq_false e, Bool.not_false, Bool.and_true]
  size := by
    have h1 := Maps.size_del (k := idLit y.id) h.tidy
    rw [h.has, hasL_iff.2 ⟨y, hy, rfl⟩, if_pos rfl, h.size] at h1
    have h2 := (strike_one hp hy).1
    omega

/-- Those that stay, or are still to come. -/
def stays (fl : List Nat) (left : Lit → Bool) (l : List Hp) : List Hp := l.filter fun h => keptB fl h || left (idLit h.id)
theorem keptB_id {fl : List Nat} {a b : Hp} (h : a.id = b.id) : keptB fl a = keptB fl b := by unfold keptB; rw [h]
theorem stays_keep {fl : List Nat} {left : Lit → Bool} {l : List Hp} {y : Hp} (h : keptB fl y = true) : stays fl (fun z => left z && !z.sameKey (idLit y.id)) l = stays fl left l := by
  unfold stays
  refine List.filter_congr fun a _ => ?_
  show (keptB fl a || (left (idLit a.id) && !(idLit a.id).sameKey (idLit y.id))) = _
  rw [idLit_same]
  by_cases e : a.id = y.id
  · rw [keptB_id e, h]; simp
  · rw [decide_eq_false e]; simp
theorem stays_gone {fl : List Nat} {left : Lit → Bool} {l : List Hp} {y : Hp} (h : keptB fl y = false) : stays fl (fun z => left z && !z.sameKey (idLit y.id)) l = strike (stays fl left l) y.id := by
  unfold stays strike
  rw [List.filter_filter]
  refine List.filter_congr fun a _ => ?_
  show (keptB fl a || (left (idLit a.id) && !(idLit a.id).sameKey (idLit y.id))) = _
  rw [idLit_same]
  by_cases e : a.id = y.id
  · rw [keptB_id e, h, decide_eq_true e]; simp
  · rw [decide_eq_false e]; simp

/-- The loop under way: l' are those that are there. -/
structure RelS (m : Sm) (base g mb fb : Nat) (D : Nat → Prop) (w : World) (left : Lit → Bool) (cnt : Nat) (l' : List Hp) (us : Nat) (E : DataW Value) (wr : World) : Prop where
  rng : wr.ranges Try.prog 33 slR mb w.heap.size m.l.length E left cnt
  has : HasE E l'
  pay : ∀ h ∈ l', PayAt wr D E h
  sub : l'.Sublist m.l
  box : wr.heap[g]? = some (.cells #[.map (some mb), .slice (some ⟨fb, 0, none⟩) m.n m.n, .int .i64 (m.room : Int), .int .i64 (us : Int)] 56 (0, 0))
  row : wr.ownsRow base 31 1 (.slice (some ⟨fb, 0, none⟩) m.n m.n) m.n (uvs m.fl)
  only : OnlyE w wr (own3 g mb fb)

section
variable {w wr w' : World} {base g mb fb : Nat} {m : Sm} {D : Nat → Prop} {left left' : Lit → Bool} {cnt cnt' us : Nat} {l' : List Hp} {E : DataW Value}
theorem RelS.on (h : RelS m base g mb fb D w left cnt l' us E wr) (hb : RowKit.Below wr.heap.size wr w') : RelS m base g mb fb D w left cnt l' us E w' where
  rng := h.rng.kept (grown_of_below hb) (by simp) (by simp)
  has := h.has
  pay := fun y hy => (h.pay y hy).kept (OnlyE.of_below hb)
  sub := h.sub
  box := (hb.block g (Array.getElem?_eq_some_iff.1 h.box).1).trans h.box
  row := own_below h.row hb
  only := h.only.trans (OnlyE.of_below hb)
theorem RelS.next (h : RelS m base g mb fb D w left cnt l' us E wr) (H : StAt w base g mb fb m D) (hr : w'.ranges Try.prog 33 slR mb w.heap.size m.l.length E left' cnt') (hg : wr.grownBy w' (some w.heap.size)) : RelS m base g mb fb D w left' cnt' l' us E w' := by
  have ho : OnlyE wr w' (fun k => k = w.heap.size) := OnlyE.of_grown (D := fun k => k = w.heap.size) hg rfl
  have hlt : ∀ b, D b → ¬ b = w.heap.size := fun b hb e => by have := (H.din b hb).2; omega
  exact {
    rng := hr, has := h.has, sub := h.sub
    pay := fun y hy => by
      obtain ⟨A, c, a1, a2, a3, a4, a5⟩ := h.pay y hy
      refine ⟨A, c, a1, a2, a3, a4, fun hn => ?_⟩
      obtain ⟨b, off, e, hb1, hb2, hc⟩ := a5 hn
      by_cases hbr : b = w.heap.size
      · exfalso
        subst hbr
        obtain ⟨es, clock, since, seen, c0, -, -, -, -, hit, -⟩ := h.rng
        obtain ⟨z, hz⟩ : ∃ z, (bvs y.b)[0]? = some z := ⟨_, List.getElem?_eq_getElem (List.length_pos_iff.2 hn)⟩
        have := hc 0 z hz
        simp only [World.cell?, hit] at this
        cases this
      · exact ⟨b, off, e, Nat.lt_of_lt_of_le hb1 ho.size, hb2, fun i u hu => (ho.cell hb1 hbr).trans (hc i u hu)⟩
    box := (ho.same g (Array.getElem?_eq_some_iff.1 h.box).1 (hlt g H.dg)).trans h.box
    row := own_only h.row ho fun b hb => by
      simp only [Value.ownBlock, Option.some.injEq] at hb
      subst hb
      exact hlt _ H.df
    only := h.only.andNew ho fun j hj => .inl (by omega) }
theorem RelS.gone (h : RelS m base g mb fb D w left cnt l' us E wr) (H : StAt w base g mb fb m D) {y : Hp} (hy : y ∈ l') (hr : w'.ranges Try.prog 33 slR mb w.heap.size m.l.length (E.del (idLit y.id)) left' cnt') (ht : wr.mapTurned w' mb) : RelS m base g mb fb D w left' cnt' (strike l' y.id) us (E.del (idLit y.id)) w' := by
  have ho : OnlyE wr w' (fun k => k = mb) := turned_only ht rfl
  have hp : l'.Pairwise fun a b => a.id ≠ b.id := H.ok.apart.sublist h.sub
  exact {
    rng := hr, has := h.has.del hp hy, sub := List.filter_sublist.trans h.sub
    pay := fun z hz => by
      obtain ⟨h1, h2⟩ := List.mem_filter.1 hz
      have hne : z.id ≠ y.id := by simpa using h2
      obtain ⟨A, c, a1, a2, a3, a4, a5⟩ := h.pay z h1
      exact ⟨A, c, fun q => by rw [Maps.atKey_del_other (idLit_ne hne)]; exact a1 q, a2, a3, a4, a5.kept (ho.mono fun k hk => hk ▸ H.dm)⟩
    box := (ho.same g (Array.getElem?_eq_some_iff.1 h.box).1 H.ne.1).trans h.box
    row := own_only h.row ho fun b hb => by
      simp only [Value.ownBlock, Option.some.injEq] at hb
      subst hb
      exact fun e => H.ne.2.2 e.symm
    only := h.only.trans (ho.mono fun k hk => .inr (.inl hk)) }
theorem RelS.used (h : RelS m base g mb fb D w left cnt l' us E wr) (H : StAt w base g mb fb m D) {u : Int} {us' : Nat} (hu : u = (us' : Int)) : RelS m base g mb fb D w left cnt l' us' E (wr.setCell ⟨g, 3, none⟩ (.int .i64 u)) := by
  subst hu
  have ho : OnlyE wr (wr.setCell ⟨g, 3, none⟩ (.int .i64 (us' : Int))) (fun k => k = g) := onlyE_set (D := fun k => k = g) rfl 3 _
  exact {
    rng := h.rng.kept (grown_setCell wr g 3 _) (fun e => H.ne.1 (by injection e with e; exact e.symm)) (fun e => by injection e with e; have := H.lt; omega)
    has := h.has, sub := h.sub
    pay := fun y hy => (h.pay y hy).kept (ho.mono fun k hk => hk ▸ H.dg)
    box := by
      rw [heap_setCell_same wr g 3 _ _ _ h.box]
      rfl
    row := own_only h.row ho fun b hb => by
      simp only [Value.ownBlock, Option.some.injEq] at hb
      subst hb
      exact fun e => H.ne.2.1 e.symm
    only := h.only.trans (ho.mono fun k hk => .inl hk) }
theorem RelS.done (h : RelS m base g mb fb D w left cnt l' us E wr) (H : StAt w base g mb fb m D) (hu : us = useL l') : StAt wr base g mb fb { m with l := l' } D where
  box := by
    subst hu
    exact h.box
  row := h.row
  map := ⟨E, by
    have := ownsMap_tight h.rng.owns
    rw [h.has.size] at this
    exact this, h.has, h.pay⟩
  dg := H.dg
  dm := H.dm
  df := H.df
  ne := H.ne
  din := fun b hb => ⟨(H.din b hb).1, Nat.lt_of_lt_of_le (H.din b hb).2 h.only.size⟩
  ok := {
    n1 := H.ok.n1, n2 := H.ok.n2, fl := H.ok.fl, top := H.ok.top, room := H.ok.room
    each := fun y hy => H.ok.each y (h.sub.subset hy)
    apart := H.ok.apart.sublist h.sub
    use := by
      have := useL_sub h.sub
      have h2 := H.ok.use
      show useL l' ≤ m.room
      omega }
end

end Go.Proofs.Ytnpdjlcekmpmoaa
