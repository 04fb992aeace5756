/- The document's link as a value: what Out keeps. -/
import Derived.Test.YtbkkpimhoeagdaaLpD
namespace Go.Proofs.Ytbkkpimhoeagdaa
open Go.RowKit Go.Sort
set_option maxRecDepth 20000

/-- The boxes of Out: the link, the answer. -/
structure OBx (w : World) (ls rl : Array Value) (W : World) : Prop where
  below : RowKit.Below w.heap.size w W
  l : W.heap[w.heap.size]? = some (.cells ls 34 (0, 0))
  r : W.heap[w.heap.size + 1]? = some (.cells rl 34 (0, 0))
section
variable {w W W' : World} {ls rl : Array Value}
theorem OBx.start (h : (w.alloc (.cells ls 34)).alloc (.cells rl 34) = W) : OBx w ls rl W := by
  obtain ⟨h1, h2, hb⟩ := alloc2_blocks w _ _ h
  exact ⟨hb, h1, h2⟩
theorem OBx.lt (h : OBx w ls rl W) : w.heap.size + 2 ≤ W.heap.size := (Array.getElem?_eq_some_iff.1 h.r).1
theorem OBx.up (h : OBx w ls rl W) (hb : RowKit.Below (w.heap.size + 2) W W') : OBx w ls rl W' :=
  ⟨h.below.trans (hb.mono (by omega)), (hb.block _ (by omega)).trans h.l, (hb.block _ (by omega)).trans h.r⟩
theorem OBx.on (h : OBx w ls rl W) (hb : RowKit.Below W.heap.size W W') : OBx w ls rl W' := h.up (hb.mono h.lt)
theorem OBx.set (h : OBx w ls rl W) (i : Nat) (u : Value) : OBx w (ls.setIfInBounds i u) rl (W.setCell ⟨w.heap.size, i, none⟩ u) :=
  ⟨h.below.setCell (p := ⟨w.heap.size, i, none⟩) (Nat.le_refl _) u, heap_setCell_same W _ i _ _ u h.l, (heap_setCell_other W ⟨w.heap.size, i, none⟩ (w.heap.size + 1) u (by simp)).trans h.r⟩
theorem OBx.setR (h : OBx w ls rl W) (cs : Array Value) : OBx w ls cs (W.setRow (w.heap.size + 1) cs) := by
  have hg := grown_setRow W (w.heap.size + 1) cs
  have hlt := h.lt
  have hne : ∀ k, k ≠ w.heap.size + 1 → k < W.heap.size → (W.setRow (w.heap.size + 1) cs).heap[k]? = W.heap[k]? := fun k hk hl => hg.block k hl fun e => hk (Option.some.inj e).symm.symm
  exact ⟨Below.setRow h.below (by omega) _, (hne _ (by omega) (by omega)).trans h.l, setRow_heap _ _ _ _ _ _ h.r⟩
theorem OBx.cell (h : OBx w ls rl W) (i : Nat) : W.cell? ⟨w.heap.size, i, none⟩ = ls[i]? := cell_of_row W _ i _ _ _ h.l
theorem OBx.fr (h : OBx w ls rl W) (i : Nat) : W.frozen? ⟨w.heap.size, i, none⟩ = false := frozen_of_row W _ i _ _ h.l
end

/-- A list of frames of the call's own, behind the boxes. -/
def OwnR (w : World) (v : Value) (l : List Pf) (W : World) : Prop := W.ownsRow (w.heap.size + 2) 44 16 v l.length (flat encPf l)
/-- Two lists lie in blocks of their own. -/
def Apart (v u : Value) : Prop := ∀ b, v.ownBlock = some b → u.ownBlock ≠ some b
theorem Apart.symm {v u : Value} (h : Apart v u) : Apart u v := fun b hb hv => h b hv hb

section
variable {w W W' : World} {v u : Value} {l m : List Pf}
theorem OwnR.on (h : OwnR w v l W) (hb : RowKit.Below W.heap.size W W') : OwnR w v l W' := own_below h hb
theorem OwnR.set (h : OwnR w v l W) {g : Nat} (hg : g < w.heap.size + 2) (i : Nat) (x : Value) : OwnR w v l (W.setCell ⟨g, i, none⟩ x) :=
  own_only h (onlyE_set (D := fun k => k = g) rfl i x) fun b hb e => by have := (h.lt b hb).1; omega
theorem OwnR.setRow (h : OwnR w v l W) {g : Nat} (hg : g < w.heap.size + 2) (cs : Array Value) : OwnR w v l (W.setRow g cs) :=
  own_only h (onlyE_setRow (D := fun k => k = g) rfl cs) fun b hb e => by have := (h.lt b hb).1; omega
/-- A new empty list. -/
theorem OwnR.made {A : Nat} (hA : A = W.heap.size) (hw : w.heap.size + 2 ≤ W.heap.size) : OwnR w (.slice (some ⟨A, 0, none⟩) 0 0) [] (W.alloc (.cells #[] 44)) := by
  subst hA
  exact World.ownsRow_lit W #[] 0 hw (Nat.zero_le _) rfl
theorem Apart.new {A : Nat} (h : OwnR w u m W) (hA : W.heap.size ≤ A) (n c : Nat) : Apart (.slice (some ⟨A, 0, none⟩) n c) u := fun b hb hu => by
  simp only [Value.ownBlock, Option.some.injEq] at hb
  have := (h.lt b hu).2
  omega

/-- Frames are appended to a list of the own: others that lie apart stay. -/
theorem OwnR.app {ls rl : Array Value} (hB : OBx w ls rl W) (h : OwnR w v l W) {B n c : Nat} {A : Option Addr} (hn : m.length = n) (hL : Lies W B A (flat encPf m)) (hlen : l.length + n ≤ 1000) :
    ∃ A' c' W', (Builtin.append_ #[26, 26] 26 #[v, .slice A n c]).run Try.prog W = .ok (.slice A' (l.length + n) c') W' ∧ OwnR w (.slice A' (l.length + n) c') (l ++ m) W' ∧ OBx w ls rl W' ∧ RowKit.Below (w.heap.size + 2) W W' ∧
      (∀ u k, OwnR w u k W → Apart v u → OwnR w u k W' ∧ Apart (.slice A' (l.length + n) c') u) := by
  have hlt := hB.lt
  obtain ⟨A', c', W', hrun, ho, hg, hblk, -, -⟩ := app_frame (c := c) h hn hL (by omega) (by omega)
  have hbl : RowKit.Below (w.heap.size + 2) W W' := (RowKit.Below.refl _ _).grown hg hlt (fun k e => (h.lt k e).1)
  refine ⟨A', c', W', hrun, ?_, hB.up hbl, hbl, fun u k hu hap => ⟨own_only hu (OnlyE.of_grownO hg) fun b hb e => hap b e hb, fun b hb hub => ?_⟩⟩
  · show W'.ownsRow _ _ _ _ (l ++ m).length _
    rw [List.length_append, hn, flat_append]
    exact ho
  · rcases hblk with e | e
    · exact hap b (e ▸ hb) hub
    · rw [e] at hb
      injection hb with hb
      have := (hu.lt b hub).2
      omega
end

/-- What stands while those that wait are told apart. -/
structure OS (w : World) (ls : Array Value) (wp os fs : List Pf) (v6 v8 v9 : Value) (W : World) : Prop where
  bx : OBx w ls dlZero W
  r6 : OwnR w v6 wp W
  r8 : OwnR w v8 os W
  r9 : OwnR w v9 fs W
  n68 : Apart v6 v8
  n69 : Apart v6 v9
  n89 : Apart v8 v9

section
variable {w W W' : World} {ls : Array Value} {wp os fs : List Pf} {v6 v8 v9 : Value}
theorem OS.on (h : OS w ls wp os fs v6 v8 v9 W) (hb : RowKit.Below W.heap.size W W') : OS w ls wp os fs v6 v8 v9 W' := ⟨h.bx.on hb, h.r6.on hb, h.r8.on hb, h.r9.on hb, h.n68, h.n69, h.n89⟩
theorem OS.set (h : OS w ls wp os fs v6 v8 v9 W) (i : Nat) (u : Value) : OS w (ls.setIfInBounds i u) wp os fs v6 v8 v9 (W.setCell ⟨w.heap.size, i, none⟩ u) :=
  ⟨h.bx.set i u, h.r6.set (by omega) i u, h.r8.set (by omega) i u, h.r9.set (by omega) i u, h.n68, h.n69, h.n89⟩
/-- The two lists are made. -/
theorem OS.start {V1 : World} (hB : OBx w ls dlZero W) (h6 : OwnR w v6 wp W) (h1 : W.alloc (.cells #[] 44) = V1) {z8 z9 : Nat} (e8 : z8 = W.heap.size) (e9 : z9 = W.heap.size + 1) :
    OS w ls wp [] [] v6 (.slice (some ⟨z8, 0, none⟩) 0 0) (.slice (some ⟨z9, 0, none⟩) 0 0) (V1.alloc (.cells #[] 44)) := by
  subst e8 e9
  have hbA : RowKit.Below W.heap.size W V1 := by rw [← h1]; exact (RowKit.Below.refl _ _).alloc (Nat.le_refl _) _
  have hbB : RowKit.Below V1.heap.size V1 (V1.alloc (.cells #[] 44)) := (RowKit.Below.refl _ _).alloc (Nat.le_refl _) _
  have hz : V1.heap.size = W.heap.size + 1 := by rw [← h1]; simp
  have hlt := hB.lt
  have h8 : OwnR w (.slice (some ⟨W.heap.size, 0, none⟩) 0 0) [] V1 := by rw [← h1]; exact OwnR.made rfl hlt
  have h9 : OwnR w (.slice (some ⟨W.heap.size + 1, 0, none⟩) 0 0) [] (V1.alloc (.cells #[] 44)) := OwnR.made hz.symm (by omega)
  have h6a := h6.on hbA
  exact ⟨(hB.on hbA).on hbB, h6a.on hbB, h8.on hbB, h9, (Apart.new h6 (Nat.le_refl _) 0 0).symm, (Apart.new h6a (by omega) 0 0).symm, (Apart.new h8 (by omega) 0 0).symm⟩
end

/-- How many that wait were sent. -/
def sentN (s : Ls) : Nat := s.sent + 1 - firstN s.last s.fs.length
/-- Are those sent again, that were sent (the document's own tick: dt)? -/
def resend (s : Ls) (dt : Nat) : Bool := decide (0 < sentN s) && decide ((s.again : Int) ≤ (s.asked : Int) - (dt : Int))
/-- The document's tick, behind it. -/
def dtN (s : Ls) (dt : Nat) : Nat := if 0 < sentN s then (if (s.again : Int) ≤ (s.asked : Int) - (dt : Int) then s.asked else dt) else (if 0 < s.fs.length then s.asked else dt)

/-- What the document's Out answers. -/
def DOut (w : World) (A : Option Addr) (lm : List Pf) (B : Option Addr) (ks : List Nat) (s' : Ls) (dt' : Nat) (zs : List Pf) (en : Ending) (w' : World) : Prop :=
  ∃ v C k e, en = .returned (.tuple #[v, .slice C k e]) ∧ Hid (zs.length = k) ∧ w'.ownsRow w.heap.size 44 16 (.slice C k e) k (flat encPf zs) ∧ DL w A lm B ks s' dt' lm ks v w'

end Go.Proofs.Ytbkkpimhoeagdaa
