/- Stage 11: the document's example; a slice of numbers that is handed in. -/
import Derived.Test.YtjkolneonhfjnaaDoorBsI
import Derived.OpenShut
import Derived.Deep.Slices
set_option maxRecDepth 20000
namespace Go.Proofs.YtjkolneonhfjnaaDoor
open Go.RowKit Go.Sort Go.ChangeShapes Go.WideShapes Go.ChangeAt

theorem Tab.pos {w : World} (h : Tab w) : 0 < w.heap.size := World.block_lt_of_cell? w _ (h 0 (by decide))

theorem awake_put : putS (List.replicate 3 false) [1] = [false, true, false] := by decide
theorem awake_cnt : cntS [false, true, false] - cntS (List.replicate 3 false) = 1 := by decide
theorem awake_miss : missL [false, true, false] 0 9 = [0, 2] := by decide

set_option maxHeartbeats 1600000 in
theorem awake_any (w : World) (hT : Tab w) : Calls Tryd.prog 7 #[] w fun e w' => e = .returned (.bool true) ∧ RowKit.Below w.heap.size w w' := by
  have HT := Lib.hid hT
  have HPOS := Lib.hid hT.pos
  have HN := Lib.hid (new_any 3 3 rfl w (by decide))
  clear hT
  go_enter Tryd.func7, Tryd.ntmps7
  go_wp2_with fail
  refine HN.out.mono ?_
  rintro e w1 ⟨p, q, rfl, hS, hp, hq, hb1⟩
  have hb1' : RowKit.Below w1.heap.size w1 (w1.alloc (.cells #[.int .i64 1] 3)) := (RowKit.Below.refl _ _).alloc (Nat.le_refl _) _
  have hlt := hS.lt
  have hP := put_any (hS.on hb1') (some ⟨w1.heap.size, 0, none⟩) 1 1 [1] rfl (by decide) (LiesX.of_new #[.int .i64 1] 3 (by rintro (h | h) <;> omega))
  rw [awake_put, awake_cnt] at hP
  have HP := Lib.hid hP
  have HB := Lib.hid (hb1.trans (hb1'.mono hb1.size))
  clear hP hS hb1 hb1' hlt
  generalize hW : World.alloc w1 _ = w2 at HP HB
  go_wp2_with fail
  refine HP.out.mono ?_
  rintro e w3 ⟨rfl, hS3, hO3⟩
  have hT3 : Tab w3 := (HT.out.on HB.out).kept hO3 (by rintro (h | h) <;> have := HPOS.out <;> omega)
  have HM := Lib.hid (missing_any hS3 hT3 0 0 rfl 9)
  have HB3 := Lib.hid (HB.out.trans (hO3.below (B := w.heap.size) (by rintro k (h | h) <;> omega) HB.out.size))
  clear hS3 hO3 hT3 HP HB hW
  go_wp2_with fail
  refine HM.out.mono ?_
  rintro e w4 ⟨A, n, c, rfl, hn, hc1, hc2, ho, hb⟩
  rw [awake_miss] at hn ho
  obtain rfl : 2 = n := hn.out
  obtain ⟨b, off, rfl, hlt, x0⟩ := (Lies.of_own ho).at_ (kvs_at (l := [0, 2]) (k := 0) (by decide))
  obtain ⟨b', off', e', -, x1⟩ := (Lies.of_own ho).at_ (kvs_at (l := [0, 2]) (k := 1) (by decide))
  injection e' with e'
  injection e' with e1 e2
  subst e1 e2
  have y0 : w4.cell? ⟨b, off, none⟩ = some (.int .i64 0) := x0
  have y1 : w4.cell? ⟨b, off + 1, none⟩ = some (.int .i64 2) := x1
  have HB4 := Lib.hid (HB3.out.trans (hb.mono HB3.out.size))
  clear ho hb x0 x1 hn hlt HM HB3
  go_wp2_with fail
  go_ret
  exact ⟨rfl, HB4.out⟩

/-- A slice of numbers that is handed in. -/
theorem open_zs {H : Type} {enc : TypeId × Value → H} {P : Program} {w : World} {base : Nat} {spare : Nat → Bool} {held : Bool} {t e : TypeId} {fuel : Nat} {v : Value} {x : DataW H × List MemPlace} (ht : P.underlying t = some (.slice e)) (he : P.underlying e = some (.int .i64)) (hc : P.cellsOf e = 1)
    (h : DataW.trod enc P w base spare held fuel t [v] = some x) : ∃ l A n c, v = .slice A n c ∧ l.length = n ∧ n ≤ c ∧ c ≤ maxLen ∧ Lies w w.heap.size A (zvs l) := by
  rcases open_ints ht he hc h with ⟨hcs, _⟩ | ⟨a, len, cap, zs, hcs, _, hl, hm, hz, _, hcell, hwz⟩
  · injection hcs with hcs
    subst hcs
    exact ⟨[], none, 0, 0, rfl, rfl, Nat.le_refl _, Nat.zero_le _, Lies.nil⟩
  · injection hcs with hcs
    subst hcs
    have hlz : len ≤ zs.length := by rw [hz]; split <;> omega
    refine ⟨zs.take len, some a, len, cap, rfl, by simp; omega, hl, hm, ?_⟩
    exact lies_ints hcell

end Go.Proofs.YtjkolneonhfjnaaDoor
