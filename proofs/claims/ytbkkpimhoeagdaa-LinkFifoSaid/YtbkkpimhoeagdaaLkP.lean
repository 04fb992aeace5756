/- First in, first out: at a pick's head, and at its ends. -/
import Derived.Test.YtbkkpimhoeagdaaLkO
namespace Go.Proofs.Ytbkkpimhoeagdaa
open Go.RowKit Go.Sort
set_option maxRecDepth 20000

/-- What holds between picks: whichever pick is boxed next. -/
def FfH (w : World) (a b : Pl) (vf vb : Value) (nf nb sent lt N M : Nat) (W : World) : Prop :=
  ∃ T l s T' l' s' D fw bk, RowKit.Below w.heap.size w W ∧ fw.length = nf ∧ bk.length = nb ∧ lt ≤ sent ∧ ∀ W' g x, RowKit.Below W.heap.size W W' → W.heap.size ≤ g → PkRow g x W' → FfS w a b g x vf vb sent lt N M T l s T' l' s' D fw bk W'

/-- .. inside a pick. -/
def FfP (w : World) (a b : Pl) (g : Nat) (x : Pk) (vf vb : Value) (nf nb sent lt N M : Nat) (W : World) : Prop :=
  ∃ T l s T' l' s' D fw bk, FfS w a b g x vf vb sent lt N M T l s T' l' s' D fw bk W ∧ fw.length = nf ∧ bk.length = nb ∧ lt ≤ sent

theorem FfP.head {w W : World} {a b : Pl} {g : Nat} {x : Pk} {vf vb : Value} {nf nb sent lt N M : Nat} (h : FfP w a b g x vf vb nf nb sent lt N M W) {N1 M1 : Nat} (hN : N ≤ N1) (hM : M ≤ M1) : FfH w a b vf vb nf nb sent lt N1 M1 W := by
  obtain ⟨T, l, s, T', l', s', D, fw, bk, hS, h1, h2, h3⟩ := h
  refine ⟨T, l, s, T', l', s', D, fw, bk, hS.duo.below, h1, h2, h3, fun W' g' x' hb hg hp => ?_⟩
  have h4 := hS.on hb
  exact ⟨h4.duo, h4.sa, ⟨h4.sb.me, h4.sb.peer, h4.sb.fs, h4.sb.last, h4.sb.sent, h4.sb.u, Nat.le_trans h4.sb.sum hN⟩, h4.rf, h4.rb, h4.ap, h4.cf, h4.cb, Nat.le_trans h4.lf hM, Nat.le_trans h4.lb hM, hp, fun e => by have := hS.dlt g' e; omega⟩

theorem FfP.more {w W : World} {a b : Pl} {g : Nat} {x : Pk} {vf vb : Value} {nf nb sent lt N M M1 : Nat} (h : FfP w a b g x vf vb nf nb sent lt N M W) (hM : M ≤ M1) : FfP w a b g x vf vb nf nb sent lt N M1 W := by
  obtain ⟨T, l, s, T', l', s', D, fw, bk, hS, h1, h2, h3⟩ := h
  exact ⟨T, l, s, T', l', s', D, fw, bk, ⟨hS.duo, hS.sa, hS.sb, hS.rf, hS.rb, hS.ap, hS.cf, hS.cb, Nat.le_trans hS.lf hM, Nat.le_trans hS.lb hM, hS.pk, hS.gd⟩, h1, h2, h3⟩

theorem FfH.start {w w1 w2 V1 : World} {p pw pg p' pw' pg' : Nat} {r again : Int} {D : Nat → Prop} (h1 : LinkB w1 w.heap.size p pw pg (.slice none 0 0) [] (newLs 0 1 r again) D) (hb1 : RowKit.Below w.heap.size w w1)
    (h2 : LinkB w2 w.heap.size p' pw' pg' (.slice none 0 0) [] (newLs 1 0 r again) (fun k => D k ∨ k = p' ∨ k = pw' ∨ k = pg')) (hb2 : RowKit.Below w1.heap.size w1 w2) (e1 : w1.heap.size ≤ p') (e2 : w1.heap.size ≤ pw') (e3 : w1.heap.size ≤ pg')
    (hV : w2.alloc (.cells #[] 44) = V1) {z8 z9 : Nat} (q8 : z8 = w2.heap.size) (q9 : z9 = w2.heap.size + 1) :
    FfH w ⟨p, pw, pg⟩ ⟨p', pw', pg'⟩ (.slice (some ⟨z8, 0, none⟩) 0 0) (.slice (some ⟨z9, 0, none⟩) 0 0) 0 0 0 0 0 0 (V1.alloc (.cells #[] 44)) := by
  subst q8 q9
  have hd : Duo w ⟨p, pw, pg⟩ ⟨p', pw', pg'⟩ (.slice none 0 0) [] (newLs 0 1 r again) (.slice none 0 0) [] (newLs 1 0 r again) (fun k => D k ∨ k = p' ∨ k = pw' ∨ k = pg') w2 := Duo.start h1 hb1 h2 hb2 e1 e2 e3
  have hbA : RowKit.Below w2.heap.size w2 V1 := by rw [← hV]; exact (RowKit.Below.refl _ _).alloc (Nat.le_refl _) _
  have hbB : RowKit.Below V1.heap.size V1 (V1.alloc (.cells #[] 44)) := (RowKit.Below.refl _ _).alloc (Nat.le_refl _) _
  have hz : V1.heap.size = w2.heap.size + 1 := by rw [← hV]; simp
  have hw2 := hd.below.size
  have hD : ∀ k, (D k ∨ k = p' ∨ k = pw' ∨ k = pg') → k < w2.heap.size := fun k hk => (h2.win.din k hk).2
  have r8 : Row w (.slice (some ⟨w2.heap.size, 0, none⟩) 0 0) [] (fun k => D k ∨ k = p' ∨ k = pw' ∨ k = pg') V1 := by
    rw [← hV]
    exact ⟨World.ownsRow_lit w2 #[] 0 hw2 (Nat.zero_le _) rfl, fun b hb hd => by simp only [Value.ownBlock, Option.some.injEq] at hb; have := hD b hd; omega⟩
  have r9 : Row w (.slice (some ⟨w2.heap.size + 1, 0, none⟩) 0 0) [] (fun k => D k ∨ k = p' ∨ k = pw' ∨ k = pg') (V1.alloc (.cells #[] 44)) := by
    rw [← hz]
    exact ⟨World.ownsRow_lit V1 #[] 0 (by omega) (Nat.zero_le _) rfl, fun b hb hd => by simp only [Value.ownBlock, Option.some.injEq] at hb; have := hD b hd; omega⟩
  refine ⟨.slice none 0 0, [], newLs 0 1 r again, .slice none 0 0, [], newLs 1 0 r again, fun k => D k ∨ k = p' ∨ k = pw' ∨ k = pg', [], [], hd.below.trans ((hbA.trans (hbB.mono hbA.size)).mono hw2), rfl, rfl, Nat.le_refl _, fun W' g x hb hg hp => ?_⟩
  have hbC := hbA.trans ((hbB.trans (hb.mono hbB.size)).mono hbA.size)
  exact ⟨hd.on hbC, sideA_new r again, sideB_new r again, (r8.on hbB).on hb, r9.on hb, fun b hb hb' => by simp only [Value.ownBlock, Option.some.injEq] at hb hb'; omega, by simp, by simp, Nat.zero_le _, Nat.zero_le _, hp, fun e => by have := hD g e; have := hbA.size; have := hbB.size; omega⟩

end Go.Proofs.Ytbkkpimhoeagdaa
