/- Stage 12: what ChunkCuts holds when its frames are looked at. -/
import Derived.Test.YtgkkobnoegggaaaCkK
import Derived.Test.YtgkkobnoegggaaaCkC
set_option maxRecDepth 20000
namespace Go.Proofs.Ytgkkobnoegggaaa
open Go.RowKit Go.Sort

section
variable {id : Id} {l : List UInt8} {k N i : Nat}
theorem frAt_ok (hl : l.length ≤ 2000) (hN : N ≤ 2001) (hi : i < N) : (frAt id l k N i).Ok := by
  have h1 : (chL l k i).length ≤ 4000 := by rw [chL_len]; omega
  exact ⟨(by decide : 0 < 256), (by decide : 0 < 256), (by decide : 0 < 256), (by decide : 0 < 18446744073709551616), (by show i < 4294967296; omega), (by show N < 4294967296; omega), (by show l.length < 4294967296; omega), (by decide : 0 < 18446744073709551616), (by decide : 0 < 18446744073709551616), Nat.zero_le _, Nat.zero_le _, Nat.zero_le _, Nat.zero_le _, h1, by simp [frAt], by simp [frAt]⟩
theorem frAt_wf (hl : l.length ≤ 2000) (hN : N ≤ 2001) (hi : i < N) : (frAt id l k N i).Wf := by
  have h := frAt_ok (id := id) (k := k) hl hN hi
  exact ⟨h.kind, h.src, h.dst, h.seq, h.at_, h.of_, h.size, h.inst, h.rnd, h.doneN, h.heldN⟩
theorem frAt_right (hl : l.length ≤ 2000) (hk : 1 ≤ k) (hk2 : k ≤ 65536) (hN : N = cntN l.length k) (hi : i < N) : rightZ (frAt id l k N i) (k : Int) (l.length : Int) = true := by
  unfold rightZ
  show (decide ((l.length : Int) ≤ (l.length : Int)) && decide ((N : Int) = (cntZ (l.length : Int) (k : Int) : Int)) && decide (i < N) && decide (((chL l k i).length : Int) = (lenZ (l.length : Int) (k : Int) (i : Int) : Int))) = true
  rw [cntZ_yes (by omega) hk hk2, lenZ_ch (by omega) hk hk2 (by omega), hN]
  simp
  omega
theorem frAt_wrong : rightZ (frAt id l k N i) (k : Int) ((l.length : Int) - 1) = false := by
  unfold rightZ
  show (decide ((l.length : Int) ≤ (l.length : Int) - 1) && decide ((N : Int) = (cntZ (l.length : Int) (k : Int) : Int)) && decide (i < N) && decide (((chL l k i).length : Int) = (lenZ (l.length : Int) (k : Int) (i : Int) : Int))) = false
  rw [decide_eq_false (by omega)]
  rfl
theorem chP_frl {w : World} {A : Option Addr} {c : Nat} (h : Lies w w.heap.size A (bvs (chL l k i))) : FrL w (frAt id l k N i) (chP id l k N i A c).cs :=
  ⟨(chP id l k N i A c).p, rfl, fun h => absurd rfl h, fun h => absurd rfl h, fun h => absurd rfl h, fun h => absurd rfl h, h⟩
end

/-- A frame is stored whole, in a region that draws its order. -/
theorem wp_store_Fs {o : Oper} {a : Act} {w : World} {ys : Nat → Option Bool} {K : Act → World → Prop} {Q : Exit → Act → World → Prop} {x y : Operand} {g : Nat} {cs old : Array Value} (hgd : o.guard = none) (ho : o.op = .store 42 x y)
    (hx : a.eval x = .pointer (some ⟨g, 0, none⟩)) (hy : a.eval y = .agg cs) (hg : w.heap[g]? = some (.cells old 42 (0, 0))) (hold : old.size = 16) (hs : cs.size = 16) (h1 : cs.all (·.oneCell') = true)
    (hk : K (a.put o.dst undef) (w.setRow g cs)) : if Region.wanted o ys = true then Oper.wp Try.prog o a w K Q else K (a.put o.dst undef) w := by
  rw [if_pos (by simp [Region.wanted, hgd])]
  exact wp_store_row _ x y ho g cs hx hy _ old hg (info33 hs) (by omega) h1 hk

/-- The box of the id, the cuts (gc), the frames (gl). -/
structure CutsS (g0 gc gl : Nat) (id : Id) (l : List UInt8) (k N : Nat) (W : World) : Prop where
  box : W.heap[g0]? = some (.cells (idCells id) 28 (0, 0))
  cut : ∀ j, j < N → ∃ A c, W.cell? ⟨gc, j, none⟩ = some (.slice A (chL l k j).length c) ∧ Lies W W.heap.size A (bvs (chL l k j))
  frs : ∀ j, j < N → ∃ y : Pf, y.F = frAt id l k N j ∧ W.rangeAt gl (j * 16) (encPf y) ∧ FrL W y.F y.cs
section
variable {g0 gc gl : Nat} {id : Id} {l : List UInt8} {k N : Nat} {W W' : World}
theorem CutsS.on (h : CutsS g0 gc gl id l k N W) (hb : RowKit.Below W.heap.size W W') : CutsS g0 gc gl id l k N W' where
  box := (hb.block _ (Array.getElem?_eq_some_iff.1 h.box).1).trans h.box
  cut := fun j hj => by
    obtain ⟨A, c, h1, h2⟩ := h.cut j hj
    exact ⟨A, c, (hb.cell (p := ⟨gc, j, none⟩) (World.block_lt_of_cell? _ _ h1)).trans h1, h2.later hb⟩
  frs := fun j hj => by
    obtain ⟨y, h1, h2, h3⟩ := h.frs j hj
    exact ⟨y, h1, fun q v hv => (hb.cell (p := ⟨gl, j * 16 + q, none⟩) (World.block_lt_of_cell? _ _ (h2 q v hv))).trans (h2 q v hv), h3.on hb⟩
theorem CutsS.c0 (h : CutsS g0 gc gl id l k N W) : W.cell? ⟨g0, 0, none⟩ = some (.int .u8 (id.f : Int)) := cell_of_row W _ 0 _ _ _ h.box
theorem CutsS.c1 (h : CutsS g0 gc gl id l k N W) : W.cell? ⟨g0, 1, none⟩ = some (.int .u64 (id.s : Int)) := cell_of_row W _ 1 _ _ _ h.box
/-- It is made of what stands behind All. -/
theorem CutsS.of {W2 W3 : World} {cc cl : Nat} (hbox : W.heap[g0]? = some (.cells (idCells id) 28 (0, 0)))
    (hR : RowsOut W2 (chs l k N) (.slice (some ⟨gc, 0, none⟩) N cc) W3) (h3 : RowKit.Below W3.heap.size W3 W) {base : Nat} (hF : FrsOwn W base (allF id l k N) (.slice (some ⟨gl, 0, none⟩) N cl)) : CutsS g0 gc gl id l k N W where
  box := hbox
  cut := fun j hj => by
    obtain ⟨vs, ho, hv, hb⟩ := hR
    rw [chs_len] at ho
    have hl : vs.length = N := own_len ho
    obtain ⟨A, n, c, e, h1, h2, h4, h5⟩ := hv.2 j (by omega) (by rw [chs_len]; exact hj)
    rw [chs_at] at h1 h5
    subst h1
    have hc : W3.cell? ⟨gc, j, none⟩ = some (.slice A (chL l k j).length c) := by
      rw [ho.cellAt j (by omega), List.getElem?_eq_getElem (by omega), e]
    exact ⟨A, c, (h3.cell (p := ⟨gc, j, none⟩) (World.block_lt_of_cell? _ _ hc)).trans hc, (((h5.below hb).more hb.size).later h3)⟩
  frs := fun j hj => by
    obtain ⟨g, y, e, h1, h2, -, -, h3⟩ := hF.at_ j (by rw [allF_len]; exact hj)
    injection e with e
    injection e with e1
    subst e1
    rw [allF_at] at h1
    have hX : y.X W (fun _ => False) := h2.X fun _ h => h.elim
    exact ⟨y, h1, h3, hX.frl⟩
end

end Go.Proofs.Ytgkkobnoegggaaa
