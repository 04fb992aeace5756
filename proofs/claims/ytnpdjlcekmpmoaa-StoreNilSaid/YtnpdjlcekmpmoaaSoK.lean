/- Stage 14: what a payload that is put in does to the store in memory. -/
import Derived.Test.YtnpdjlcekmpmoaaSoJ
set_option maxRecDepth 20000
namespace Go.Proofs.Ytnpdjlcekmpmoaa
open Go.RowKit Go.Sort Go.Maps

theorem wp_mapUpdate_step {P : Program} {o : Oper} {a : Act} {w w' : World} {vm vx vv : Value} {ys : Nat → Option Bool} {K : Act → World → Prop} {Q : Exit → Act → World → Prop} {x y z : Operand} {t : TypeId} (hgd : o.guard = none) (ho : o.op = .mapUpdate t x y z)
    (hm : a.eval x = vm) (hx : a.eval y = vx) (hv : a.eval z = vv) (hrun : (Instr.mapUpdate t vm vx vv).run P w = .ok () w') (hk : K (a.put o.dst undef) w') :
    if Region.wanted o ys = true then Oper.wp P o a w K Q else K (a.put o.dst undef) w := by
  rw [if_pos (by simp [Region.wanted, hgd])]
  unfold Oper.wp execOp
  simp only [ho, Sem.run_bind, Sem.run_pure, Result.andThen_ok, hm, hx, hv, hrun]
  exact hk

theorem HasE.put {E : DataW Value} {l : List Hp} (h : HasE E l) {x : Id} {b : List UInt8} (hn : hasL l x = false) (d : DataW Value) : HasE (E.put (idLit x) d) (l ++ [⟨x, b⟩]) where
  tidy := h.tidy.put (idLit_key x) d
  has := fun y => by
    have e : hasL (l ++ [⟨x, b⟩]) y = (hasL l y || decide (x = y)) := by
      unfold hasL
      rw [hasS_append]
      congr 1
      simp only [hasS, List.any_cons, List.any_nil, Bool.or_false]
      by_cases hxy : x = y
      · subst hxy; simp
      · rw [decide_eq_false hxy]
        exact decide_eq_false fun h => hxy (Id.same h.1 h.2)
    rw [e]
    by_cases hxy : x = y
    · subst hxy
      rw [Maps.has_put_same h.tidy.isMap (idLit_key x), decide_eq_true rfl, Bool.or_true]
    · rw [Maps.has_put_other (idLit_ne fun h => hxy h.symm), h.has, decide_eq_false hxy, Bool.or_false]
  size := by
    rw [Maps.size_put h.tidy, h.has, hn, h.size]
    simp

section
variable {w w' : World} {base g mb fb : Nat} {m : Sm} {D : Nat → Prop}

theorem StAt.own (h : StAt w base g mb fb m D) {b : Nat} (hb : own3 g mb fb b) : D b := by
  rcases hb with rfl | rfl | rfl
  · exact h.dg
  · exact h.dm
  · exact h.df

/-- The map's store, and what stands behind the count. -/
theorem StAt.putIn (h : StAt w base g mb fb m D) (x : Id) (b : List UInt8) (ht : m.takes x b = true) (hlen : m.l.length ≤ 1000) (hbl : b.length ≤ 1000) {A : Option Addr} {n c : Nat} (hn : b.length = n) (hnc : n ≤ c) (hcm : c ≤ maxLen)
    (hb : RowKit.Below w.heap.size w w') (ho : w'.ownsRow w.heap.size 5 1 (.slice A n c) n (bvs b)) :
    ∃ w4, (Instr.mapUpdate 54 (.map (some mb)) (valId x) (.slice A n c)).run Try.prog w' = .ok () w4 ∧
      w4.cell? ⟨g, 3, none⟩ = some (.int .i64 (useL m.l : Int)) ∧ w4.frozen? ⟨g, 3, none⟩ = false ∧
      StAt (w4.setCell ⟨g, 3, none⟩ (.int .i64 ((useL m.l : Int) + (n : Int)))) base g mb fb (m.put x b) D ∧ OnlyE w (w4.setCell ⟨g, 3, none⟩ (.int .i64 ((useL m.l : Int) + (n : Int)))) (own3 g mb fb) := by
  have k := h.on hb
  obtain ⟨h1, h2, h3, h4⟩ := Sm.takes_iff.1 ht
  obtain ⟨E, e1, e2, e3⟩ := k.map
  obtain ⟨w4, hrun, own4, turn⟩ := e1.store keyLaw uMap (by unfold maxLen; omega) (key_id x) (slR_mk A n c)
  have ho4 : OnlyE w' w4 (fun k => k = mb) := turned_only turn rfl
  have b4 : w4.heap[g]? = some (.cells (stCells mb fb m) 56 (0, 0)) := (ho4.same g k.lt k.ne.1).trans k.box
  have hO : OnlyE w (w4.setCell ⟨g, 3, none⟩ (.int .i64 ((useL m.l : Int) + (n : Int)))) (own3 g mb fb) :=
    ((OnlyE.of_below hb).trans (ho4.mono fun k hk => .inr (.inl hk))).trans (onlyE_set (D := own3 g mb fb) (.inl rfl) 3 _)
  have hO2 : OnlyE w4 (w4.setCell ⟨g, 3, none⟩ (.int .i64 ((useL m.l : Int) + (n : Int)))) (fun k => k = g) := onlyE_set (D := fun k => k = g) rfl 3 _
  have ep : m.put x b = { m with l := m.l ++ [⟨x, b⟩] } := by unfold Sm.put; rw [if_pos ht]
  have hal : m.l.length + 1 = (m.l ++ [(⟨x, b⟩ : Hp)]).length := by simp
  refine ⟨w4, hrun, cell_of_row w4 g 3 _ _ _ b4, frozen_of_row w4 g 3 _ _ b4, ?_, hO⟩
  have hOK := h.ok.put x b
  rw [ep] at hOK ⊢
  exact {
    box := by
      rw [heap_setCell_same w4 g 3 _ _ _ b4]
      unfold stCells
      simp only [List.setIfInBounds_toArray, List.set_cons_succ, List.set_cons_zero]
      rw [useL_append, useL_one, hn]
      simp
    row := own_only (own_only k.row ho4 fun q hq => by
      simp only [Value.ownBlock, Option.some.injEq] at hq
      subst hq
      exact fun e => k.ne.2.2 e.symm) hO2 fun q hq => by
      simp only [Value.ownBlock, Option.some.injEq] at hq
      subst hq
      exact fun e => k.ne.2.1 e.symm
    map := by
      refine ⟨E.put (idLit x) (.held (.slice A n c)), ?_, e2.put h3 _, fun y hy => ?_⟩
      · rw [← hal]
        exact ownsMap_only own4 hO2 fun e => k.ne.1 e.symm
      · rcases List.mem_append.1 hy with hy | hy
        · obtain ⟨A1, c1, a1, a2, a3, a4, a5⟩ := e3 y hy
          refine ⟨A1, c1, fun z => ?_, a2, a3, a4, (a5.kept (ho4.mono fun q hq => hq ▸ h.dm)).kept (hO2.mono fun q hq => hq ▸ h.dg)⟩
          rw [Maps.atKey_put_other (idLit_ne (hasL_no.1 h3 y hy))]
          exact a1 z
        · obtain rfl := List.mem_singleton.1 hy
          subst hn
          refine ⟨A, c, fun z => Maps.atKey_put_same e2.tidy.isMap (idLit_key x) _ _, hnc, hcm, hbl, ?_⟩
          have hX : LiesX w' D A (bvs b) := LiesX.of_own ho fun q hq => (h.din q hq).2
          exact (hX.kept (ho4.mono fun q hq => hq ▸ h.dm)).kept (hO2.mono fun q hq => hq ▸ h.dg)
    dg := h.dg, dm := h.dm, df := h.df, ne := h.ne
    din := fun q hq => ⟨(h.din q hq).1, Nat.lt_of_lt_of_le (h.din q hq).2 hO.size⟩
    ok := hOK }
end

end Go.Proofs.Ytnpdjlcekmpmoaa
