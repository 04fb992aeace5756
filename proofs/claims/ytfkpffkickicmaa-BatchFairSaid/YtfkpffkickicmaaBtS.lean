/- The walk of the statements' own example (awake). -/
import Derived.Test.YtfkpffkickicmaaBtQ
import Derived.Test.YtfkpffkickicmaaBtI
namespace Go.Proofs.Ytfkpffkickicmaa
open Go.RowKit Go.Sort

def exA : Rn := ⟨0, 1, 2, by decide, by decide, by decide⟩
def exB : Rn := ⟨1, 1, 1, by decide, by decide, by decide⟩
def exI (f s : Nat) (hf : f < 256) (hs : s < 18446744073709551616) : Id := ⟨f, s, hf, hs⟩

theorem next_example : nextL [0, 0] [3, 1] 3 = [exA, exB] := by
  unfold nextL endN
  rw [passes_end (k := 3) (by decide +kernel) (by decide)]
  decide +kernel
theorem order_example : orderL [exA, exB] = [exI 0 1 (by decide) (by decide), exI 1 1 (by decide) (by decide), exI 0 2 (by decide) (by decide)] := by decide +kernel

set_option maxHeartbeats 1600000 in
theorem awake_any (w : World) : Calls Try.prog 7 #[] w fun e w' => e = .returned (.bool true) ∧ RowKit.Below w.heap.size w w' := by
  have hGd := guardId
  go_enter Try.func7, Try.ntmps7
  go_wp2_with fail
  generalize hw0 : (World.alloc (World.alloc w _) _) = w0
  obtain ⟨hs0, hG, hc1, hc2⟩ := box2 w w0 _ _ _ _ hw0
  have hb0 : RowKit.Below w.heap.size w w0 := hG.below
  have hL1 : Lies w0 w0.heap.size (some ⟨w.heap.size, 0, none⟩) (uvs [0, 0]) := fun _ => ⟨_, _, rfl, by omega, fun i u hu => by
    rw [Nat.zero_add]
    refine hc1 i u ?_
    rw [← hu]
    rcases i with _ | _ | i <;> simp [uvs, uv]⟩
  have hL2 : Lies w0 w0.heap.size (some ⟨w.heap.size + 1, 0, none⟩) (uvs [3, 1]) := fun _ => ⟨_, _, rfl, by omega, fun i u hu => by
    rw [Nat.zero_add]
    refine hc2 i u ?_
    rw [← hu]
    rcases i with _ | _ | i <;> simp [uvs, uv]⟩
  have hnx := next_any (some ⟨w.heap.size, 0, none⟩) 2 2 [0, 0] (some ⟨w.heap.size + 1, 0, none⟩) 2 2 [3, 1] 3 w0 (by decide) rfl hL1 (by simp) rfl hL2
  rw [show roomN 3 = 3 from rfl, next_example] at hnx
  clear hw0 hs0 hG hc1 hc2 hL1 hL2
  refine hnx.mono ?_
  rintro e w1 ⟨A1, n1, c1, rfl, hn1, _, _, hown1, hb1⟩
  obtain rfl : n1 = 2 := hn1.out.symm
  have hb01 : RowKit.Below w.heap.size w w1 := hb0.trans (hb1.mono hb0.size)
  have hLl := Lies.of_ownK hown1
  have hor := order_any A1 2 c1 [exA, exB] w1 rfl (by decide) hLl
  rw [order_example] at hor
  clear hnx hown1 hn1 hb1
  go_wp2_with fail
  refine hor.mono ?_
  rintro e w2 ⟨A2, n2, c2, rfl, hn2, _, _, hown2, hb2⟩
  obtain rfl : n2 = 3 := hn2.out.symm
  have hb02 : RowKit.Below w.heap.size w w2 := hb01.trans (hb2.mono hb01.size)
  have hLl2 := hLl.on hb2
  obtain ⟨g, cap, hv, _, hgl⟩ := hown2.form (by decide)
  obtain ⟨rfl, rfl⟩ : A2 = some ⟨g, 0, none⟩ ∧ c2 = cap := by injection hv with e1 _ e3; exact ⟨e1, e3⟩
  have a2 := hown2.cellAt 2 (by decide)
  have a3 := hown2.cellAt 3 (by decide)
  simp [flat, encId, exI] at a2 a3
  clear hor hown2 hn2 hb2 hv hLl
  go_wp2_with fail
  generalize hw3 : World.alloc w2 _ = w3
  obtain ⟨hs3, hG3, hc3⟩ := box1 w2 w3 _ _ hw3
  have hb03 : RowKit.Below w.heap.size w w3 := hb02.trans (hG3.below.mono hb02.size)
  have hLy : Lies w3 w3.heap.size (some ⟨w2.heap.size, 0, none⟩) (flat encRn [exA, exB]) := fun _ => ⟨_, _, rfl, by omega, fun i u hu => by
    rw [Nat.zero_add]
    refine hc3 i u ?_
    rw [← hu]
    rcases i with _ | _ | _ | _ | _ | _ | i <;> simp [flat, encRn, exA, exB]⟩
  have hsm := sameRns_any A1 (some ⟨w2.heap.size, 0, none⟩) 2 c1 2 2 [exA, exB] [exA, exB] w3 rfl rfl (by decide) (hLl2.on hG3.below) hLy
  rw [decide_eq_true rfl] at hsm
  have a2' := (hG3.below.cell (p := ⟨g, 2, none⟩) hgl).trans a2
  have a3' := (hG3.below.cell (p := ⟨g, 3, none⟩) hgl).trans a3
  have hgl3 : g < w3.heap.size := by omega
  clear hw3 hs3 hG3 hc3 hLy hLl2 a2 a3
  refine hsm.mono ?_
  rintro e w4 ⟨rfl, hb4⟩
  have a4 := (hb4.cell (p := ⟨g, 2, none⟩) hgl3).trans a2'
  have a5 := (hb4.cell (p := ⟨g, 3, none⟩) hgl3).trans a3'
  have hb04 : RowKit.Below w.heap.size w w4 := hb03.trans (hb4.mono hb03.size)
  clear hsm a2' a3'
  go_wp2
  go_ret
  exact ⟨rfl, hb04⟩

end Go.Proofs.Ytfkpffkickicmaa
