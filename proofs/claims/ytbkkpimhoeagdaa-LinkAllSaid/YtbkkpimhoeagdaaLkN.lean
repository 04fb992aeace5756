/- First in, first out: what LinkFifo keeps, in memory. -/
import Derived.Test.YtbkkpimhoeagdaaLkM
namespace Go.Proofs.Ytbkkpimhoeagdaa
open Go.RowKit Go.Sort
set_option maxRecDepth 20000

/-- A link stays where others' blocks are written into, if its chunks have no lists. -/
theorem LinkB.keptBare {w w' : World} {base p pw pg : Nat} {T : Value} {l : List Pf} {s : Ls} {D X : Nat → Prop} (h : LinkB w base p pw pg T l s D) (hb : ∀ F ∈ s.fs, Bare F) (ho : OnlyE w w' X) (hX : ∀ k, LD p pw pg T k → ¬ X k) : LinkB w' base p pw pg T l s D :=
  { box := (ho.same p h.plt (hX _ (.inl rfl))).trans h.box
    win :=
    { box := (ho.same pw h.win.plt (hX _ (.inr (.inr (.inl rfl))))).trans h.win.box
      row := own_only h.win.row ho fun b hb => hX b (.inr (.inr (.inr hb)))
      frs := fun x hx => (hb x.F (h.fs ▸ List.mem_map_of_mem hx)).X
      oks := h.win.oks, seqs := h.win.seqs, dw := h.win.dw
      din := fun b hb => ⟨(h.win.din b hb).1, Nat.lt_of_lt_of_le (h.win.din b hb).2 ho.size⟩
      fit := h.win.fit, fit2 := h.win.fit2, wid1 := h.win.wid1, wid2 := h.win.wid2, low := h.win.low }
    gate := h.gate.kept ho (hX _ (.inr (.inl rfl)))
    fs := h.fs, dp := h.dp, dg := h.dg, me8 := h.me8, peer8 := h.peer8, sent1 := h.sent1, tick1 := h.tick1, asked1 := h.asked1, again1 := h.again1, again2 := h.again2 }

def PkRow (g : Nat) (x : Pk) (W : World) : Prop := W.heap[g]? = some (.cells (encPk x).toArray 65 (0, 0))
theorem PkRow.on {g : Nat} {x : Pk} {W W' : World} {X : Nat → Prop} (h : PkRow g x W) (ho : OnlyE W W' X) (hg : ¬ X g) : PkRow g x W' := (ho.same g (Array.getElem?_eq_some_iff.1 h).1 hg).trans h

/-- What stands while a pick is done: the two links, what is on its way forth, and back, the pick in its box. -/
structure FfS (w : World) (a b : Pl) (g : Nat) (x : Pk) (vf vb : Value) (sent lt N M : Nat) (T : Value) (l : List Pf) (s : Ls) (T' : Value) (l' : List Pf) (s' : Ls) (D : Nat → Prop) (fw bk : List Pf) (W : World) : Prop where
  duo : Duo w a b T l s T' l' s' D W
  sa : SideA s sent
  sb : SideB s' lt N
  rf : Row w vf fw D W
  rb : Row w vb bk D W
  ap : Apart vf vb
  cf : ∀ y ∈ fw, Chk sent y.F
  cb : ∀ y ∈ bk, Wrd lt y.F
  lf : fw.length ≤ M
  lb : bk.length ≤ M
  pk : PkRow g x W
  gd : ¬ D g

section
variable {w W W' : World} {a b : Pl} {g : Nat} {x : Pk} {vf vb : Value} {sent lt N M : Nat} {T : Value} {l : List Pf} {s : Ls} {T' : Value} {l' : List Pf} {s' : Ls} {D : Nat → Prop} {fw bk : List Pf}

theorem FfS.on (h : FfS w a b g x vf vb sent lt N M T l s T' l' s' D fw bk W) (hb : RowKit.Below W.heap.size W W') : FfS w a b g x vf vb sent lt N M T l s T' l' s' D fw bk W' :=
  ⟨h.duo.on hb, h.sa, h.sb, h.rf.on hb, h.rb.on hb, h.ap, h.cf, h.cb, h.lf, h.lb, h.pk.on (X := fun _ => False) (OnlyE.of_below hb) id, h.gd⟩
theorem FfS.glt (h : FfS w a b g x vf vb sent lt N M T l s T' l' s' D fw bk W) : g < W.heap.size := (Array.getElem?_eq_some_iff.1 h.pk).1
theorem FfS.fsA (h : FfS w a b g x vf vb sent lt N M T l s T' l' s' D fw bk W) : ∀ F ∈ s.fs, Bare F := fun F hF => (h.sa.fs F hF).bare
theorem FfS.fsB (h : FfS w a b g x vf vb sent lt N M T l s T' l' s' D fw bk W) : ∀ F ∈ s'.fs, Bare F := fun F hF => by rw [h.sb.fs] at hF; simp at hF

/-- A call on the one that sends. -/
theorem FfS.opA {s1 : Ls} {sent1 : Nat} (h : FfS w a b g x vf vb sent lt N M T l s T' l' s' D fw bk W) (ht : LkTo W w.heap.size a.p a.pw a.pg T D s1 W') (hs : SideA s1 sent1) (hm : sent ≤ sent1) :
    ∃ T1 l1 D1, FfS w a b g x vf vb sent1 lt N M T1 l1 s1 T' l' s' D1 fw bk W' := by
  obtain ⟨T1, l1, D1, hd, h1, h2⟩ := h.duo.stepA ht
  exact ⟨T1, l1, D1, hd, hs, h.sb, h.rf.step h2 h1, h.rb.step h2 h1, h.ap, fun y hy => (h.cf y hy).mono hm, h.cb, h.lf, h.lb, h.pk.on h2 h.gd, fun e => (h1 g e).elim h.gd fun e => by have := h.glt; omega⟩
/-- .. on the other one. -/
theorem FfS.opB {s1 : Ls} {lt1 N1 : Nat} (h : FfS w a b g x vf vb sent lt N M T l s T' l' s' D fw bk W) (ht : LkTo W w.heap.size b.p b.pw b.pg T' D s1 W') (hs : SideB s1 lt1 N1) (hm : lt ≤ lt1) :
    ∃ T1 l1 D1, FfS w a b g x vf vb sent lt1 N1 M T l s T1 l1 s1 D1 fw bk W' := by
  obtain ⟨T1, l1, D1, hd, h1, h2⟩ := h.duo.stepB ht
  exact ⟨T1, l1, D1, hd, h.sa, hs, h.rf.step h2 h1, h.rb.step h2 h1, h.ap, h.cf, fun y hy => (h.cb y hy).mono hm, h.lf, h.lb, h.pk.on h2 h.gd, fun e => (h1 g e).elim h.gd fun e => by have := h.glt; omega⟩

/-- Blocks that are no link's, nor the pick's: the two links and the pick stay. -/
theorem FfS.duoKept (h : FfS w a b g x vf vb sent lt N M T l s T' l' s' D fw bk W) {X : Nat → Prop} (ho : OnlyE W W' X) (hX : ∀ k, X k → ¬ D k) (hw : ∀ k, X k → w.heap.size ≤ k) : Duo w a b T l s T' l' s' D W' :=
  ⟨h.duo.la.keptBare h.fsA ho (fun k hk e => hX k e (h.duo.la.ld k hk)), h.duo.lb.keptBare h.fsB ho (fun k hk e => hX k e (h.duo.lb.ld k hk)), h.duo.ap, h.duo.below.trans (ho.below hw h.duo.below.size)⟩
theorem pk_apart {v : Value} {ys : List Pf} (hr : Row w v ys D W) (hp : PkRow g x W) : v.ownBlock ≠ some g := fun e => by
  obtain ⟨cur, hc⟩ := own_heap hr.own e
  unfold PkRow at hp
  rw [hp] at hc
  injection hc with hc
  injection hc with _ hc
  exact absurd hc (by decide)

/-- A row grows: another one that lies apart stays. -/
theorem Row.app {v u : Value} {ys zs us : List Pf} {A : Option Addr} {n c B : Nat} (h : Row w v ys D W) (hu : Row w u us D W) (hap : Apart v u) (hl : zs.length = n) (hL : Lies W B A (flat encPf zs)) (hD : ∀ k, D k → k < W.heap.size) (hlen : ys.length + n ≤ 10000) (hw : w.heap.size ≤ W.heap.size) :
    ∃ A' c' W', (Builtin.append_ #[26, 26] 26 #[v, .slice A n c]).run Try.prog W = .ok (.slice A' (ys.length + n) c') W' ∧ Row w (.slice A' (ys.length + n) c') (ys ++ zs) D W' ∧ Row w u us D W' ∧ Apart (.slice A' (ys.length + n) c') u ∧
      OnlyE W W' (fun k => v.ownBlock = some k) := by
  obtain ⟨A', c', W', hrun, ho, hg, hblk, -, -⟩ := app_frame (c := c) h.own hl hL hw (by omega)
  have hO := OnlyE.of_grownO hg
  refine ⟨A', c', W', hrun, ⟨?_, fun b hb hd => ?_⟩, ⟨own_only hu.own hO fun b hb e => hap b e hb, hu.out⟩, fun b hb hub => ?_, hO⟩
  · rw [List.length_append, hl, flat_append]
    exact ho
  · rcases hblk with e | e
    · exact h.out b (e ▸ hb) hd
    · rw [e] at hb
      injection hb with hb
      have := hD b hd
      omega
  · rcases hblk with e | e
    · exact hap b (e ▸ hb) hub
    · rw [e] at hb
      injection hb with hb
      have := (hu.own.lt b hub).2
      omega

theorem FfS.dlt (h : FfS w a b g x vf vb sent lt N M T l s T' l' s' D fw bk W) : ∀ k, D k → k < W.heap.size := fun k hk => (h.duo.la.win.din k hk).2

/-- What goes out is on its way. -/
theorem FfS.addF (h : FfS w a b g x vf vb sent lt N M T l s T' l' s' D fw bk W) {base n c : Nat} {A : Option Addr} {Fs : List Fr} (hO : FrsOwn W base Fs (.slice A n c)) (hn : Fs.length = n) (hc : ∀ F ∈ Fs, Chk sent F) (hM : M + n ≤ 10000) {nf : Nat} (hnf : fw.length = nf) :
    ∃ A' c' W' fw', (Builtin.append_ #[26, 26] 26 #[vf, .slice A n c]).run Try.prog W = .ok (.slice A' (nf + n) c') W' ∧ FfS w a b g x (.slice A' (nf + n) c') vb sent lt N (M + n) T l s T' l' s' D fw' bk W' ∧ fw'.length = nf + n := by
  subst hnf
  obtain ⟨zs, z1, z2, -⟩ := hO
  have hl : zs.length = n := by rw [← hn, ← z1, List.length_map]
  rw [hn] at z2
  have hlf := h.lf
  have hlb := h.lb
  obtain ⟨A', c', W', hrun, hr, hr2, hap, ho⟩ := h.rf.app h.rb h.ap hl (Lies.of_ownK z2) h.dlt (by omega) h.duo.below.size
  refine ⟨A', c', W', fw ++ zs, hrun, ⟨h.duoKept ho (fun k hk => h.rf.out k hk) (fun k hk => (h.rf.own.lt k hk).1), h.sa, h.sb, hr, hr2, hap, fun y hy => ?_, h.cb, by rw [List.length_append, hl]; omega, by omega, h.pk.on ho (pk_apart h.rf h.pk), h.gd⟩, by rw [List.length_append, hl]⟩
  rcases List.mem_append.1 hy with hy | hy
  · exact h.cf y hy
  · exact hc y.F (z1 ▸ List.mem_map_of_mem hy)
theorem FfS.addB (h : FfS w a b g x vf vb sent lt N M T l s T' l' s' D fw bk W) {base n c : Nat} {A : Option Addr} {Fs : List Fr} (hO : FrsOwn W base Fs (.slice A n c)) (hn : Fs.length = n) (hc : ∀ F ∈ Fs, Wrd lt F) (hM : M + n ≤ 10000) {nb : Nat} (hnb : bk.length = nb) :
    ∃ A' c' W' bk', (Builtin.append_ #[26, 26] 26 #[vb, .slice A n c]).run Try.prog W = .ok (.slice A' (nb + n) c') W' ∧ FfS w a b g x vf (.slice A' (nb + n) c') sent lt N (M + n) T l s T' l' s' D fw bk' W' ∧ bk'.length = nb + n := by
  subst hnb
  obtain ⟨zs, z1, z2, -⟩ := hO
  have hl : zs.length = n := by rw [← hn, ← z1, List.length_map]
  rw [hn] at z2
  have hlf := h.lf
  have hlb := h.lb
  obtain ⟨A', c', W', hrun, hr, hr2, hap, ho⟩ := h.rb.app h.rf h.ap.symm hl (Lies.of_ownK z2) h.dlt (by omega) h.duo.below.size
  refine ⟨A', c', W', bk ++ zs, hrun, ⟨h.duoKept ho (fun k hk => h.rb.out k hk) (fun k hk => (h.rb.own.lt k hk).1), h.sa, h.sb, hr2, hr, hap.symm, h.cf, fun y hy => ?_, by omega, by rw [List.length_append, hl]; omega, h.pk.on ho (pk_apart h.rb h.pk), h.gd⟩, by rw [List.length_append, hl]⟩
  rcases List.mem_append.1 hy with hy | hy
  · exact h.cb y hy
  · exact hc y.F (z1 ▸ List.mem_map_of_mem hy)
end

end Go.Proofs.Ytbkkpimhoeagdaa
