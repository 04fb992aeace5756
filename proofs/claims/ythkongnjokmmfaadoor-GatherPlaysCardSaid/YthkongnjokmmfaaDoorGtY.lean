/- Stage 13: a chunk is copied to its place and noted. -/
import Derived.Test.YthkongnjokmmfaaDoorGtX
import Derived.Laws.CopyRow
import Derived.Laws.IdiomCopy
set_option maxRecDepth 20000
namespace Go.Proofs.YthkongnjokmmfaaDoor
open Go.RowKit Go.Sort

theorem wp_copy_step {P : Program} {o : Oper} {a : Act} {w w' : World} {v vx v' : Value} {ys : Nat → Option Bool} {K : Act → World → Prop} {Q : Exit → Act → World → Prop} {s x : Operand} {t : TypeId} (hgd : o.guard = none) (ho : o.op = .call { callee := .builtin .copy, args := #[s, x], argTypes := #[t, t] })
    (hs : a.eval s = v) (hx : a.eval x = vx) (hrun : (Builtin.copy_ #[t, t] o.type #[v, vx]).run P w = .ok v' w') (hk : K (a.put o.dst v') w') :
    if Region.wanted o ys = true then Oper.wp P o a w K Q else K (a.put o.dst undef) w := by
  rw [if_pos (by simp [Region.wanted, hgd])]
  unfold Oper.wp execOp
  simp only [ho, resolve, invoke, builtin, Sem.run_bind, Sem.run_pure, Result.andThen_ok, List.map_toArray, List.map_cons, List.map_nil, hs, hx, hrun]
  exact hk

theorem cellB : (Tryd.prog.info? 5).map (·.size) = some 1 := by kernel_rfl

/-- A chunk goes into a payload of the own. -/
theorem pay_copy {W : World} {base b size o : Nat} {pl d : List UInt8} {A : Option Addr} {ty : TypeId} (h : W.ownsRow base 5 1 (.slice (some ⟨b, 0, none⟩) size size) size (bvs pl)) (ho : o + d.length ≤ size) (hs : Lies W W.heap.size A (bvs d)) (a' : Addr) (c1 c2 : Nat) (ha : d ≠ [] → a' = ⟨b, o, none⟩) :
    ∃ W', (Builtin.copy_ #[39, 39] ty #[.slice (some a') (size - o) c1, .slice A d.length c2]).run Tryd.prog W = .ok (goInt d.length) W' ∧ W'.ownsRow base 5 1 (.slice (some ⟨b, 0, none⟩) size size) size (bvs (laidAt pl o d)) ∧ W.grownBy W' (some b) := by
  have hlen := h.1
  have hpl : pl.length = size := by rw [bvs_length] at hlen; omega
  by_cases h0 : d = []
  · subst h0
    refine ⟨W, ?_, ?_, World.grownBy.refl W _⟩
    · have := run_copy_none (P := Tryd.prog) W 39 39 ty 5 (some a') A (size - o) c1 0 c2 Tryd.underlying39 cellB (Nat.zero_min _)
      exact this
    · have e : laidAt pl o [] = pl := by simp [laidAt]
      rw [e]; exact h
  · obtain rfl := ha h0
    have hne : bvs d ≠ [] := by intro e; apply h0; have := congrArg List.length e; rw [bvs_length] at this; exact List.eq_nil_of_length_eq_zero this
    obtain ⟨b2, off, rfl, hb2, hc⟩ := hs hne
    rcases h.2 with ⟨hn, _⟩ | ⟨g', cap, cur, hv, hbg, hg, hnc, hcm, hcs, htake⟩
    · simp at hn
    simp only [Value.slice.injEq, Option.some.injEq, Addr.mk.injEq, and_true, true_and] at hv
    obtain ⟨rfl, rfl⟩ := hv
    have hcs' : cur.size = size := by omega
    have hcur : cur.toList = bvs pl := by rw [← htake, List.take_of_length_le (by rw [Array.length_toList]; omega)]
    have hrun := run_copy_row (P := Tryd.prog) W 39 39 ty 5 b o (size - o) c1 ⟨b2, off, none⟩ d.length c2 cur 5 (bvs d) Tryd.underlying39 cellB hg (by rw [bvs_length]; show d.length = min d.length (size - o); omega) (fun j v hj => by rw [add_plain]; exact hc j v hj) (by rw [bvs_length]; omega) (bvs_one d)
    rw [bvs_length, hcur] at hrun
    refine ⟨_, hrun, ⟨?_, .inr ⟨b, size, _, rfl, hbg, setRow_heap W b cur _ 5 (0, 0) hg, Nat.le_refl _, hcm, ?_, ?_⟩⟩, grown_setRow W b _⟩
    · rw [bvs_length, laidAt_len pl o d (by omega)]; omega
    · simp [bvs_length]; omega
    · simp only []
      have e : (bvs pl).take o ++ bvs d ++ (bvs pl).drop (o + d.length) = bvs (laidAt pl o d) := by
        unfold laidAt bvs
        rw [List.map_append, List.map_append, List.map_take, List.map_drop, List.append_assoc]
      rw [e, List.take_of_length_le (by rw [bvs_length, laidAt_len pl o d (by omega)]; omega)]

theorem putS_one (m : List Bool) (a : Nat) : putS m [(a : Int)] = m.set a true := by
  unfold putS
  rw [List.foldl_cons, List.foldl_nil]
  unfold addS
  rw [if_pos (by omega), Int.toNat_natCast]
theorem full_cnt (m : List Bool) : ((cntS m : Int) == (m.length : Int)) = m.all fun b => b := by
  rw [Bool.eq_iff_iff, beq_iff_eq, List.all_eq_true]
  unfold cntS
  constructor
  · intro h b hb
    have := List.count_eq_length.1 (show m.count true = m.length by omega) b hb
    exact this.symm
  · intro h
    have := List.count_eq_length.2 (show ∀ b ∈ m, true = b from fun b hb => (h b hb).symm)
    omega

section
variable {w w' : World} {base gp : Nat} {T : Value} {L : List Pz} {g : Gm} {D : Nat → Prop}
def Pz.putCut (z : Pz) (a : Nat) (d : List UInt8) : Pz := { z with x := z.x.putCut a d }
theorem map_set : ∀ (L : List Pz) (i : Nat) (z : Pz), (L.set i z).map Pz.x = (L.map Pz.x).set i z.x
  | [], _, _ => rfl
  | _ :: _, 0, _ => rfl
  | y :: r, i + 1, z => by
    rw [List.set_cons_succ, List.map_cons, List.map_cons, List.set_cons_succ, map_set r i z]

/-- The chunk is in its part. -/
theorem GtAt.putCut {w1 w2 : World} (h : GtAt w base gp T L g D) {i : Nat} (hi : i < L.length) {a : Nat} {d : List UInt8} (ha : a < L[i].x.has.length) (hd : d.length = lenZ (L[i].x.size : Int) (g.chunk : Int) (a : Int)) {pl : List UInt8}
    (hcut : HasCuts g.chunk L[i].x pl) (ho1 : OnlyE w w1 (fun k => k = L[i].b)) (hp : w1.ownsRow 0 5 1 (.slice (some ⟨L[i].b, 0, none⟩) L[i].x.size L[i].x.size) L[i].x.size (bvs (laidAt pl (a * g.chunk) d))) (hpl : pl.length = L[i].x.size)
    (ho2 : OnlyE w1 w2 (DS L[i].s L[i].q)) (hS : SetAt w2 L[i].s L[i].q (L[i].x.has.set a true)) :
    GtAt w2 base gp T (L.set i (L[i].putCut a d)) { g with l := g.l.set i (L[i].x.putCut a d) } D ∧ OnlyE w w2 (fun k => L[i].has k) := by
  have hm := List.getElem_mem hi
  have hO : OnlyE w w2 (fun k => L[i].has k) := (ho1.mono fun k hk => .inr (.inr (.inr hk))).trans (ho2.mono fun k hk => hk.elim (fun e => .inr (.inl e)) fun e => .inr (.inr (.inl e)))
  have hda := fun b hb => h.da _ hm b hb
  have hz := h.parts _ hm
  have hgi := h.at_ hi
  have hgl : i < g.l.length := by rw [h.len]; exact hi
  have hpa := h.ok.parts _ (List.getElem_mem hgl)
  rw [hgi] at hpa
  refine ⟨?_, hO⟩
  have hplt := hz.lt (.inl rfl)
  have hblt := hz.lt (.inr (.inr (.inr rfl)))
  have hmem : ∀ y, y ∈ L.set i (L[i].putCut a d) → (y ∈ L ∧ y.Disj L[i]) ∨ y = L[i].putCut a d := fun y hy => by
    obtain ⟨j, hj, rfl⟩ := List.getElem_of_mem hy
    rw [List.length_set] at hj
    rw [List.getElem_set]
    split
    · exact .inr rfl
    · rename_i e
      left
      refine ⟨List.getElem_mem hj, ?_⟩
      have hp := List.pairwise_iff_getElem.1 h.apart
      rcases Nat.lt_or_gt_of_ne e with hlt | hlt
      · intro k h1 h2
        exact hp i j hi hj hlt k h2 h1
      · exact hp j i hj hi hlt
  exact
  { box := (hO.same gp h.lt fun e => (hda gp e).2.1 rfl).trans h.box
    row := by
      rw [List.length_set]
      have e : flat encPz (L.set i (L[i].putCut a d)) = flat encPz L := by
        rw [← pz_set L i (L[i].putCut a d) hi]
        refine List.ext_getElem? fun j => ?_
        by_cases ej : i = j
        · subst ej
          rw [List.getElem?_set_self (by rw [flat_length encPz_len]; omega), pz_at hi]
          rfl
        · rw [List.getElem?_set_ne ej]
      rw [e]
      exact own_only h.row hO fun b hb hh => (hda b hh).2.2 hb
    gl := by
      show g.l.set i _ = _
      rw [map_set, ← h.gl]
      rfl
    parts := fun y hy => by
      rcases hmem y hy with ⟨hy, hdis⟩ | rfl
      · exact (h.parts y hy).kept hO fun b hb => hdis b hb
      · exact
        { row := ((ho2.same L[i].p (Nat.lt_of_lt_of_le hplt ho1.size) (fun e => e.elim hz.np.1 hz.np.2.1)).trans (ho1.same L[i].p hplt hz.np.2.2)).trans hz.row
          set := hS
          pay := ⟨laidAt pl (a * g.chunk) d, own_only hp ho2 fun b hb e => by
            injection hb with hb
            subst hb
            rcases e with e | e
            · exact hz.nb.1 e.symm
            · exact hz.nb.2 e.symm, hcut.put h.ok.chunk1 h.ok.chunk2 hpa.1 hpl hpa.2.1 hpa.2.2.2 ha hd⟩
          np := hz.np, nb := hz.nb }
    apart := by
      have hp := List.pairwise_iff_getElem.1 h.apart
      refine List.pairwise_iff_getElem.2 fun j k hj hk hjk => ?_
      rw [List.length_set] at hj hk
      have e : ∀ j, (hj : j < L.length) → ∀ b, ((L.set i (L[i].putCut a d))[j]'(by rw [List.length_set]; exact hj)).has b → L[j].has b := fun j hj b hb => by
        rw [List.getElem_set] at hb
        split at hb
        · rename_i e; subst e; exact hb
        · exact hb
      intro b h1 h2
      exact hp j k hj hk hjk b (e j hj b h1) (e k hk b h2)
    dg := h.dg, dt := h.dt
    da := fun y hy b hb => by
      rcases hmem y hy with ⟨hy, -⟩ | rfl
      · exact h.da y hy b hb
      · exact hda b hb
    din := fun b hb => ⟨(h.din b hb).1, Nat.lt_of_lt_of_le (h.din b hb).2 hO.size⟩
    ne := h.ne
    ok := by
      have := h.ok.set hgl (a := a) (d := d) (by rw [hgi]; exact ha) (by rw [hgi]; exact hd)
      rw [hgi] at this
      exact this
    rm := h.rm }
end

end Go.Proofs.YthkongnjokmmfaaDoor
