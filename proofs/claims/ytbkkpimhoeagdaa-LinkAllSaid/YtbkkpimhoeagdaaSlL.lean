/- Waiting. -/
import Derived.Test.YtbkkpimhoeagdaaSlK
namespace Go.Proofs.Ytbkkpimhoeagdaa
open Go.RowKit Go.Sort
set_option maxRecDepth 20000

/-- What waits, from a number on, at most so many. -/
def waitF (Fs : List Fr) (first from_ : Nat) (most : Int) : List Fr := (Fs.drop (from_ - first)).take most.toNat

/-- A list of frames of the call's own. -/
def FrsOwn (w : World) (base : Nat) (Fs : List Fr) (v : Value) : Prop :=
  ∃ ys : List Pf, ys.map Pf.F = Fs ∧ w.ownsRow base 44 16 v Fs.length (flat encPf ys) ∧ ∀ y ∈ ys, y.Own w base

theorem FrsOwn.on {w w' : World} {base : Nat} {Fs : List Fr} {v : Value} (h : FrsOwn w base Fs v) (hb : RowKit.Below w.heap.size w w') : FrsOwn w' base Fs v := by
  obtain ⟨ys, h1, h2, h3⟩ := h
  exact ⟨ys, h1, own_below h2 hb, fun y hy => (h3 y hy).on hb⟩
theorem FrsOwn.nil (w : World) (base : Nat) : FrsOwn w base [] (.slice none 0 0) := ⟨[], rfl, World.ownsRow_nil _ _ _ _, by simp⟩

/-- What Waiting answers. -/
def Waited (w : World) (Fs : List Fr) (e : Ending) (w' : World) : Prop := ∃ A n c, e = .returned (.slice A n c) ∧ Hid (Fs.length = n) ∧ FrsOwn w' w.heap.size Fs (.slice A n c) ∧ RowKit.Below w.heap.size w w'

theorem own_apart {w : World} {base base' k k' : Nat} {e e' : TypeId} {v v' : Value} {n n' : Nat} {xs xs' : List Value} (h : w.ownsRow base e k v n xs) (h' : w.ownsRow base' e' k' v' n' xs') (hne : e ≠ e') {b : Nat} (hb : v.ownBlock = some b) : v'.ownBlock ≠ some b := fun hb' => by
  obtain ⟨cur, hc⟩ := own_heap h hb
  obtain ⟨cur', hc'⟩ := own_heap h' hb'
  rw [hc] at hc'
  injection hc' with hc'
  injection hc' with _ hc'
  exact hne hc'

/-- A list of frames grows: frames of the call's own stay. -/
theorem Pf.Own.grow {w w' : World} {base base' : Nat} {z : Pf} {v : Value} {n : Nat} {xs : List Value} (h : z.Own w base) (hr : w.ownsRow base' 44 16 v n xs) (hg : w.grownBy w' v.ownBlock) : z.Own w' base := by
  have ho := OnlyE.of_grownO hg
  exact ⟨own_only h.1 ho fun b h1 h2 => own_apart h.1 hr (by decide) h1 h2, own_only h.2.1 ho fun b h1 h2 => own_apart h.2.1 hr (by decide) h1 h2, own_only h.2.2.1 ho fun b h1 h2 => own_apart h.2.2.1 hr (by decide) h1 h2,
    own_only h.2.2.2.1 ho fun b h1 h2 => own_apart h.2.2.2.1 hr (by decide) h1 h2, own_only h.2.2.2.2 ho fun b h1 h2 => own_apart h.2.2.2.2 hr (by decide) h1 h2⟩

/-- One more. -/
theorem FrsOwn.step {w wr W : World} {Fs : List Fr} {An : Option Addr} {k cn : Nat} {y : Pf} (hk : Fs.length = k) (h : FrsOwn wr w.heap.size Fs (.slice An k cn)) (hw : w.heap.size ≤ wr.heap.size) (hb : RowKit.Below wr.heap.size wr W) (hy : y.Own W w.heap.size) (hlen : k ≤ 100) :
    ∃ A' c' w2, (Builtin.append_ #[26, 26] 26 #[.slice An k cn, .slice (some ⟨W.heap.size, 0, none⟩) 1 1]).run Try.prog (W.alloc (.cells y.cs 44)) = .ok (.slice A' (k + 1) c') w2 ∧
      FrsOwn w2 w.heap.size (Fs ++ [y.F]) (.slice A' (k + 1) c') ∧ RowKit.Below w.heap.size wr w2 := by
  obtain ⟨ys, h1, h2, h3⟩ := h
  have hs := hb.size
  have hA := (own_below h2 hb).alloc (.cells y.cs 44)
  have hL := lies_new W y.cs 44
  rw [← flat_single] at hL
  obtain ⟨A', c', w2, hrun, hown, hg, hblk, -, -⟩ := app_frame (m := 1) (c := 1) hA (List.length_singleton : [y].length = 1) hL (by simp; omega) (by omega)
  have hbA : RowKit.Below W.heap.size W (W.alloc (.cells y.cs 44)) := (RowKit.Below.refl _ _).alloc (Nat.le_refl _) _
  rw [hk] at hrun hown hblk
  refine ⟨A', c', w2, hrun, ⟨ys ++ [y], by rw [List.map_append, h1]; rfl, ?_, ?_⟩, ?_⟩
  · rw [List.length_append, flat_append, hk]
    exact hown
  · have hg' := hg
    intro z hz
    rcases List.mem_append.1 hz with hz | hz
    · exact (((h3 z hz).on hb).on hbA).grow hA hg'
    · simp only [List.mem_cons, List.not_mem_nil, or_false] at hz
      subst hz
      exact (hy.on hbA).grow hA hg'
  · have h4 : RowKit.Below w.heap.size W w2 := ((RowKit.Below.refl _ _).alloc (by omega) _).grown hg (by simp; omega) (fun k e => (hA.lt k e).1)
    exact (hb.mono hw).trans h4

end Go.Proofs.Ytbkkpimhoeagdaa
