/- Two links, in one another's reach. -/
import Derived.Test.YtbkkpimhoeagdaaLkK
namespace Go.Proofs.Ytbkkpimhoeagdaa
open Go.RowKit Go.Sort
set_option maxRecDepth 20000

/-- Where a link lies. -/
structure Pl where
  p : Nat
  pw : Nat
  pg : Nat

/-- Two links that write into blocks of their own. -/
structure Duo (w : World) (a b : Pl) (T : Value) (l : List Pf) (s : Ls) (T' : Value) (l' : List Pf) (s' : Ls) (D : Nat → Prop) (W : World) : Prop where
  la : LinkB W w.heap.size a.p a.pw a.pg T l s D
  lb : LinkB W w.heap.size b.p b.pw b.pg T' l' s' D
  ap : ∀ k, LD a.p a.pw a.pg T k → ¬ LD b.p b.pw b.pg T' k
  below : RowKit.Below w.heap.size w W

section
variable {w W W' : World} {a b : Pl} {T T' : Value} {l l' : List Pf} {s s' : Ls} {D : Nat → Prop}

theorem Duo.symm (h : Duo w a b T l s T' l' s' D W) : Duo w b a T' l' s' T l s D W := ⟨h.lb, h.la, fun k hb ha => h.ap k ha hb, h.below⟩
theorem Duo.on (h : Duo w a b T l s T' l' s' D W) (hb : RowKit.Below W.heap.size W W') : Duo w a b T l s T' l' s' D W' := ⟨h.la.on hb, h.lb.on hb, h.ap, h.below.trans (hb.mono h.below.size)⟩

/-- Blocks that are added to D. -/
theorem WinAt.grow {base p : Nat} {width last : Nat} {D' : Nat → Prop} (h : WinAt W base p T width last l D) (h1 : ∀ b, D b → D' b) (h2 : ∀ b, D' b → D b ∨ W.heap.size ≤ b) {X : Nat → Prop} (ho : OnlyE W W' X) (hX : ∀ b, WD p T b → ¬ X b) (hXD : ∀ b, X b → D b) (h3 : ∀ b, D' b → base ≤ b ∧ b < W'.heap.size) : WinAt W' base p T width last l D' :=
  { box := (ho.same p h.plt (hX p (.inl rfl))).trans h.box
    row := own_only h.row ho fun b hb => hX b (.inr hb)
    frs := fun x hx => ((h.frs x hx).widen fun k hk => (h2 k hk).symm).kept (ho.mono fun k hk => h1 k (hXD k hk))
    oks := h.oks, seqs := h.seqs, dw := fun b hb => h1 b (h.dw b hb), din := h3
    fit := h.fit, fit2 := h.fit2, wid1 := h.wid1, wid2 := h.wid2, low := h.low }

/-- A call on the first one. -/
theorem Duo.stepA {s1 : Ls} (h : Duo w a b T l s T' l' s' D W) (ht : LkTo W w.heap.size a.p a.pw a.pg T D s1 W') :
    ∃ T1 l1 D1, Duo w a b T1 l1 s1 T' l' s' D1 W' ∧ (∀ k, D1 k → D k ∨ W.heap.size ≤ k) ∧ OnlyE W W' D := by
  obtain ⟨T1, l1, D1, hL, ho, hd, hd2, hT⟩ := ht
  have hld : ∀ k, LD a.p a.pw a.pg T k → D k := h.la.ld
  have hbn : ∀ k, LD b.p b.pw b.pg T' k → ¬ LD a.p a.pw a.pg T k := fun k hb ha => h.ap k ha hb
  refine ⟨T1, l1, D1, ⟨hL, ?_, fun k hk hb => ?_, h.below.trans (h.la.below ho)⟩, hd, ho.mono hld⟩
  · have hB := h.lb
    exact
    { box := (ho.same b.p hB.plt (hbn _ (.inl rfl))).trans hB.box
      win := hB.win.grow hd2 hd ho (fun k hk => hbn k (.inr (.inr hk))) hld (fun k hk => hL.win.din k hk)
      gate := hB.gate.kept ho (hbn _ (.inr (.inl rfl)))
      fs := hB.fs, dp := hd2 _ hB.dp, dg := hd2 _ hB.dg, me8 := hB.me8, peer8 := hB.peer8, sent1 := hB.sent1, tick1 := hB.tick1, asked1 := hB.asked1, again1 := hB.again1, again2 := hB.again2 }
  · have hbl := h.lb.ldlt hb
    rcases hk with e | e | e | e
    · exact h.ap k (.inl e) hb
    · exact h.ap k (.inr (.inl e)) hb
    · exact h.ap k (.inr (.inr (.inl e))) hb
    · rcases hT k e with e | e
      · exact h.ap k (.inr (.inr (.inr e))) hb
      · omega
theorem Duo.stepB {s1 : Ls} (h : Duo w a b T l s T' l' s' D W) (ht : LkTo W w.heap.size b.p b.pw b.pg T' D s1 W') :
    ∃ T1 l1 D1, Duo w a b T l s T1 l1 s1 D1 W' ∧ (∀ k, D1 k → D k ∨ W.heap.size ≤ k) ∧ OnlyE W W' D := by
  obtain ⟨T1, l1, D1, h1, h2, h3⟩ := h.symm.stepA ht
  exact ⟨T1, l1, D1, h1.symm, h2, h3⟩

/-- The second one is made. -/
theorem Duo.start {w1 w2 : World} {p pw pg p' pw' pg' : Nat} {r again : Int} {me peer me' peer' : Nat} {D : Nat → Prop} (h1 : LinkB w1 w.heap.size p pw pg (.slice none 0 0) [] (newLs me peer r again) D) (hb1 : RowKit.Below w.heap.size w w1)
    (h2 : LinkB w2 w.heap.size p' pw' pg' (.slice none 0 0) [] (newLs me' peer' r again) (fun k => D k ∨ k = p' ∨ k = pw' ∨ k = pg')) (hb2 : RowKit.Below w1.heap.size w1 w2) (e1 : w1.heap.size ≤ p') (e2 : w1.heap.size ≤ pw') (e3 : w1.heap.size ≤ pg') :
    Duo w ⟨p, pw, pg⟩ ⟨p', pw', pg'⟩ (.slice none 0 0) [] (newLs me peer r again) (.slice none 0 0) [] (newLs me' peer' r again) (fun k => D k ∨ k = p' ∨ k = pw' ∨ k = pg') w2 := by
  refine ⟨?_, h2, fun k hk hk' => ?_, hb1.trans (hb2.mono hb1.size)⟩
  · exact
    { box := (hb2.block p h1.plt).trans h1.box
      win := h1.win.grow (X := fun _ => False) (fun b => .inl) (fun b hb => hb.imp id fun e => by omega) (OnlyE.of_below hb2) (fun _ _ => id) (fun _ h => h.elim) (fun b hb => h2.win.din b hb)
      gate := h1.gate.on hb2, fs := h1.fs, dp := .inl h1.dp, dg := .inl h1.dg, me8 := h1.me8, peer8 := h1.peer8, sent1 := h1.sent1, tick1 := h1.tick1, asked1 := h1.asked1, again1 := h1.again1, again2 := h1.again2 }
  · have hlt : k < w1.heap.size := h1.ldlt hk
    rcases hk' with e | e | e | e
    · have e' : k = p' := e
      omega
    · have e' : k = pg' := e
      omega
    · have e' : k = pw' := e
      omega
    · simp [Value.ownBlock] at e

/-- Two lists lie in blocks of their own. -/
def Apart (v u : Value) : Prop := ∀ b, v.ownBlock = some b → u.ownBlock ≠ some b
theorem Apart.symm {v u : Value} (h : Apart v u) : Apart u v := fun b hb hv => h b hv hb

/-- A list of frames that nobody else writes into. -/
structure Row (w : World) (v : Value) (ys : List Pf) (D : Nat → Prop) (W : World) : Prop where
  own : W.ownsRow w.heap.size 44 16 v ys.length (flat encPf ys)
  out : ∀ b, v.ownBlock = some b → ¬ D b
theorem Row.step {v : Value} {ys : List Pf} {D1 : Nat → Prop} (h : Row w v ys D W) (ho : OnlyE W W' D) (hd : ∀ k, D1 k → D k ∨ W.heap.size ≤ k) : Row w v ys D1 W' :=
  ⟨own_only h.own ho h.out, fun b hb hd1 => (hd b hd1).elim (h.out b hb) fun e => by have := (h.own.lt b hb).2; omega⟩
theorem Row.on {v : Value} {ys : List Pf} (h : Row w v ys D W) (hb : RowKit.Below W.heap.size W W') : Row w v ys D W' := ⟨own_below h.own hb, h.out⟩
end

end Go.Proofs.Ytbkkpimhoeagdaa
