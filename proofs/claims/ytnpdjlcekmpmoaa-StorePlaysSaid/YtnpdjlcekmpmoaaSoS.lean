/- Stage 14: two stores at once. -/
import Derived.Test.YtnpdjlcekmpmoaaSoR
set_option maxRecDepth 20000
namespace Go.Proofs.Ytnpdjlcekmpmoaa
open Go.RowKit Go.Sort Go.Maps

section
variable {w w' wr : World} {base base' g mb fb g2 mb2 fb2 : Nat} {m m0 m1 m2 : Sm} {D D' : Nat → Prop}
theorem StAt.rebase (h : StAt w base g mb fb m D) (hb : base' ≤ base) : StAt w base' g mb fb m D :=
  { h with row := own_base h.row hb, din := fun b hd => ⟨Nat.le_trans hb (h.din b hd).1, (h.din b hd).2⟩ }
theorem StAt.widenNil (h : StAt w base g mb fb m D) (hl : m.l = []) (h1 : ∀ b, D b → D' b) (h2 : ∀ b, D' b → base ≤ b ∧ b < w.heap.size) : StAt w base g mb fb m D' := by
  obtain ⟨E, e1, e2, -⟩ := h.map
  exact { h with
    map := ⟨E, e1, e2, fun y hy => by rw [hl] at hy; cases hy⟩
    dg := h1 _ h.dg, dm := h1 _ h.dm, df := h1 _ h.df, din := h2 }

def bothD (g mb fb g2 mb2 fb2 : Nat) (b : Nat) : Prop := own3 g mb fb b ∨ own3 g2 mb2 fb2 b

/-- Two stores that were made alike, into which the same number of ids were put. -/
structure TwoS (w : World) (g mb fb g2 mb2 fb2 : Nat) (m0 m1 m2 : Sm) (l1 l2 : List Id) (wr : World) : Prop where
  s1 : StAt wr w.heap.size g mb fb m1 (bothD g mb fb g2 mb2 fb2)
  s2 : StAt wr w.heap.size g2 mb2 fb2 m2 (bothD g mb fb g2 mb2 fb2)
  dis : ∀ b, own3 g mb fb b → ¬ own3 g2 mb2 fb2 b
  o1 : OneS m0 m1 l1
  o2 : OneS m0 m2 l2
  below : RowKit.Below w.heap.size w wr
section
variable {l1 l2 : List Id}
theorem TwoS.on (h : TwoS w g mb fb g2 mb2 fb2 m0 m1 m2 l1 l2 wr) (hb : RowKit.Below wr.heap.size wr w') : TwoS w g mb fb g2 mb2 fb2 m0 m1 m2 l1 l2 w' :=
  { h with s1 := h.s1.on hb, s2 := h.s2.on hb, below := h.below.trans (hb.mono h.below.size) }
theorem TwoS.put1 (h : TwoS w g mb fb g2 mb2 fb2 m0 m1 m2 l1 l2 wr) (x : Id) (hl : l1.length < m0.room) (hf : ∀ i, num m0.fl i = 0) (hs : StAt w' w.heap.size g mb fb (m1.put x [1]) (bothD g mb fb g2 mb2 fb2)) (ho : OnlyE wr w' (own3 g mb fb)) :
    TwoS w g mb fb g2 mb2 fb2 m0 (m1.put x [1]) m2 (l1 ++ [x]) l2 w' where
  s1 := hs
  s2 := h.s2.kept ho fun b hb => .inr ⟨.inl hb, fun e => h.dis b hb (.inl e), fun e => h.dis b hb (.inr (.inl e)), fun e => h.dis b hb (.inr (.inr e))⟩
  dis := h.dis
  o1 := h.o1.step x hl hf
  o2 := h.o2
  below := h.below.trans (ho.below (fun b hb => (h.s1.din b (.inl hb)).1) h.below.size)
theorem TwoS.put2 (h : TwoS w g mb fb g2 mb2 fb2 m0 m1 m2 l1 l2 wr) (x : Id) (hl : l2.length < m0.room) (hf : ∀ i, num m0.fl i = 0) (hs : StAt w' w.heap.size g2 mb2 fb2 (m2.put x [1]) (bothD g mb fb g2 mb2 fb2)) (ho : OnlyE wr w' (own3 g2 mb2 fb2)) :
    TwoS w g mb fb g2 mb2 fb2 m0 m1 (m2.put x [1]) l1 (l2 ++ [x]) w' where
  s1 := h.s1.kept ho fun b hb => .inr ⟨.inr hb, fun e => h.dis b (.inl e) hb, fun e => h.dis b (.inr (.inl e)) hb, fun e => h.dis b (.inr (.inr e)) hb⟩
  s2 := hs
  dis := h.dis
  o1 := h.o1
  o2 := h.o2.step x hl hf
  below := h.below.trans (ho.below (fun b hb => (h.s1.din b (.inr hb)).1) h.below.size)
theorem TwoS.start (h1 : StAt wr w.heap.size g mb fb m0 (own3 g mb fb)) (hb : RowKit.Below w.heap.size w wr) (h2 : StAt w' wr.heap.size g2 mb2 fb2 m0 (own3 g2 mb2 fb2)) (hb2 : RowKit.Below wr.heap.size wr w') (hl : m0.l = []) : TwoS w g mb fb g2 mb2 fb2 m0 m0 m0 [] [] w' where
  s1 := h1.grow hb2 (fun b hb => .inl hb) fun b hd => by
    rcases hd with hd | hd
    · exact ⟨(h1.din b hd).1, Nat.lt_of_lt_of_le (h1.din b hd).2 hb2.size, .inl hd⟩
    · exact ⟨Nat.le_trans hb.size (h2.din b hd).1, (h2.din b hd).2, .inr (h2.din b hd).1⟩
  s2 := (h2.rebase hb.size).widenNil hl (fun b hb => .inr hb) fun b hd => by
    rcases hd with hd | hd
    · exact ⟨(h1.din b hd).1, Nat.lt_of_lt_of_le (h1.din b hd).2 hb2.size⟩
    · exact ⟨Nat.le_trans hb.size (h2.din b hd).1, (h2.din b hd).2⟩
  dis := fun b h3 h4 => by
    have := (h1.din b h3).2
    have := (h2.din b h4).1
    omega
  o1 := OneS.start hl
  o2 := OneS.start hl
  below := hb.trans (hb2.mono hb.size)
end
end

theorem bytes_new (w : World) (c : UInt8) : Lies (w.alloc (.cells #[bv c] 5)) (w.alloc (.cells #[bv c] 5)).heap.size (some ⟨w.heap.size, 0, none⟩) (bvs [c]) := (lies_new w #[bv c] 5).more (by simp)

end Go.Proofs.Ytnpdjlcekmpmoaa
