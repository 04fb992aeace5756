/- Stage 15: Next, the program's and the document's; Same; the document's example. -/
import Derived.Test.YtjpahccpkonjkaaRnD
set_option maxRecDepth 20000
namespace Go.Proofs.Ytjpahccpkonjkaa
open Go.RowKit Go.Sort

theorem next_no (n p : Int) (v : Value) (h : ¬ (n ≤ 64 ∧ 0 ≤ p ∧ p < n)) (w : World) : Calls Try.prog 7 #[.int .i64 n, .int .i64 p, v] w fun e w' => e = .returned (.int .i64 (-1)) ∧ w = w' := by
  have H1 := fun W => has_no n p h W
  clear h
  go_enter Try.func7, Try.ntmps7
  go_wp2_with fail
  refine (H1 _).mono ?_
  rintro e w' ⟨rfl, rfl⟩
  go_wp2
  go_ret
  exact ⟨rfl, rfl⟩

theorem next_any (n p : Nat) (hp : p < n) (hn : n ≤ 64) (A : Option Addr) (m c : Nat) (l : List Int) (w : World) (hl : l.length = m) (hm : m ≤ 1000) (hL : Lies w w.heap.size A (zvs l)) :
    Calls Try.prog 7 #[.int .i64 (n : Int), .int .i64 (p : Int), .slice A m c] w fun e w' => e = .returned (.int .i64 (nextR n p l : Int)) ∧ RowKit.Below w.heap.size w w' := by
  have HH := fun W => has_yes n p hp hn W
  have HW := way_any n p hp hn A m c l w hl hm hL
  have HE : Hid ((wayR n p l (n - 1)).headD p = nextR n p l) := rfl
  generalize wayR n p l (n - 1) = L at HW HE
  generalize nextR n p l = r at HE
  clear hL hl
  go_enter Try.func7, Try.ntmps7
  go_wp2_with fail
  refine (HH _).mono ?_
  rintro e w' ⟨rfl, rfl⟩
  go_wp2_with fail
  refine HW.mono ?_
  rintro e w1 ⟨A1, j, c1, rfl, HN, hc1, hc2, ho, hb⟩
  have HB := Lib.hid hb
  clear HH HW hb
  cases L with
  | nil =>
    obtain rfl : 0 = j := HN.out
    have hr : Hid (p = r) := HE.out
    clear HE ho
    go_wp2
    go_ret
    exact ⟨by rw [← hr.out]; rfl, HB.out⟩
  | cons x t =>
    have hj : 0 < j := by have := HN.out; simp at this; omega
    have hj0 : ((j : Int) == 0) = false := by simp; omega
    obtain ⟨b, off, rfl, -, hc⟩ := (Lies.of_own ho).at_ (kvs_at (l := x :: t) (k := 0) (by simp))
    have hx : w1.cell? ⟨b, off, none⟩ = some (.int .i64 (x : Int)) := hc
    have hr : Hid (x = r) := HE.out
    clear HE ho hc HN
    go_wp2
    go_ret
    exact ⟨by rw [← hr.out]; rfl, HB.out⟩

theorem refNext_no (n p : Int) (v : Value) (h : ¬ (n ≤ 64 ∧ 0 ≤ p ∧ p < n)) (w : World) : Calls Try.prog 8 #[.int .i64 n, .int .i64 p, v] w fun e w' => e = .returned (.int .i64 (-1)) ∧ w = w' := by
  have H1 := fun W => of_no n p h W
  clear h
  go_enter Try.func8, Try.ntmps8
  go_wp2_with fail
  refine (H1 _).mono ?_
  rintro e w' ⟨rfl, rfl⟩
  go_wp2
  go_ret
  exact ⟨rfl, rfl⟩

theorem refNext_any (n p : Nat) (hp : p < n) (hn : n ≤ 64) (A : Option Addr) (m c : Nat) (l : List Int) (w : World) (hl : l.length = m) (hm : m ≤ 1000) (hL : Lies w w.heap.size A (zvs l)) :
    Calls Try.prog 8 #[.int .i64 (n : Int), .int .i64 (p : Int), .slice A m c] w fun e w' => e = .returned (.int .i64 (nextR n p l : Int)) ∧ RowKit.Below w.heap.size w w' := by
  have HH := fun W => of_yes n p hp hn W
  have HW := refWay_any n p hp hn A m c l w hl hm hL
  have HE : Hid ((wayR n p l (n - 1)).headD p = nextR n p l) := rfl
  generalize wayR n p l (n - 1) = L at HW HE
  generalize nextR n p l = r at HE
  clear hL hl
  go_enter Try.func8, Try.ntmps8
  go_wp2_with fail
  refine (HH _).mono ?_
  rintro e w' ⟨rfl, rfl⟩
  go_wp2_with fail
  refine HW.mono ?_
  rintro e w1 ⟨A1, j, c1, rfl, HN, hc1, hc2, ho, hb⟩
  have HB := Lib.hid hb
  clear HH HW hb
  cases L with
  | nil =>
    obtain rfl : 0 = j := HN.out
    have hr : Hid (p = r) := HE.out
    clear HE ho
    go_wp2
    go_ret
    exact ⟨by rw [← hr.out]; rfl, HB.out⟩
  | cons x t =>
    have hj : 0 < j := by have := HN.out; simp at this; omega
    have hj0 : ((j : Int) == 0) = false := by simp; omega
    obtain ⟨b, off, rfl, -, hc⟩ := (Lies.of_own ho).at_ (kvs_at (l := x :: t) (k := 0) (by simp))
    have hx : w1.cell? ⟨b, off, none⟩ = some (.int .i64 (x : Int)) := hc
    have hr : Hid (x = r) := HE.out
    clear HE ho hc HN
    go_wp2
    go_ret
    exact ⟨by rw [← hr.out]; rfl, HB.out⟩

set_option maxHeartbeats 800000 in
theorem refSame_any (A A2 : Option Addr) (n c c2 : Nat) (l : List Nat) (w : World) (hl : l.length = n) (hn : n ≤ 2000) (hL : Lies w w.heap.size A (kvs l)) (hL2 : Lies w w.heap.size A2 (kvs l)) :
    Calls Try.prog 9 #[.slice A n c, .slice A2 n c2] w fun e w' => e = .returned (.bool true) ∧ RowKit.Below w.heap.size w w' := by
  have HL := Lib.hid hl
  have H := Lib.hid hL
  have H2 := Lib.hid hL2
  clear hl hL hL2
  go_enter Try.func9, Try.ntmps9
  go_wp2_with fail
  go_loopw [13] (fun s13 wr => ∃ k : Nat, s13 = .int .i64 (k : Int) ∧ k ≤ n ∧ RowKit.Below w.heap.size w wr) (fun s13 _ => n - (Lib.intOf s13).toNat)
  case atStart => exact ⟨0, rfl, Nat.zero_le _, RowKit.Below.refl _ _⟩
  case round =>
    obtain ⟨k, rfl, hk, hb⟩ := hrel
    by_cases hkn : k < n
    · have hkl : k < l.length := by have := HL.out; omega
      obtain ⟨b, off, eA, hlt, hc⟩ := (H.out.below hb).at_ (kvs_at hkl)
      obtain ⟨b2, off2, eA2, hlt2, hc2⟩ := (H2.out.below hb).at_ (kvs_at hkl)
      subst eA eA2
      generalize l[k] = x at hc hc2
      have HB := Lib.hid hb
      clear hb hlt hlt2 hkl
      go_wp2_with fail
      go_region
      go_wp2_with fail
      exact ⟨⟨k + 1, rfl, hkn, HB.out.trans (RowKit.Below.refl _ _).drew⟩, by simp [Lib.intOf]; omega⟩
    · obtain rfl : n = k := by omega
      have HB := Lib.hid hb
      clear hb
      go_wp2_with fail
      go_ret
      exact ⟨rfl, HB.out⟩

theorem next_423 : nextR 4 2 [3] = 0 := by decide
theorem next_42 : nextR 4 2 [] = 3 := by decide
theorem next_10 : nextR 1 0 [] = 0 := by decide

theorem awake_any (w : World) : Calls Try.prog 6 #[] w fun e w' => e = .returned (.bool true) ∧ RowKit.Below w.heap.size w w' := by
  have hb0 : RowKit.Below w.heap.size w (w.alloc (.cells #[.int .i64 3] 3)) := (RowKit.Below.refl _ _).alloc (Nat.le_refl _) _
  have h1 := next_any 4 2 (by omega) (by omega) (some ⟨w.heap.size, 0, none⟩) 1 1 [3] (w.alloc (.cells #[.int .i64 3] 3)) rfl (by omega) ((lies_new w #[.int .i64 3] 3).more (by simp))
  have h2 := fun W => next_any 4 2 (by omega) (by omega) none 0 0 [] W rfl (by omega) Lies.nil
  have h3 := fun W => next_any 1 0 (by omega) (by omega) none 0 0 [] W rfl (by omega) Lies.nil
  rw [next_423] at h1
  rw [next_42] at h2
  rw [next_10] at h3
  have HB0 := Lib.hid hb0
  go_enter Try.func6, Try.ntmps6
  go_wp2_with fail
  refine h1.mono ?_
  rintro e w1 ⟨rfl, hb1⟩
  have HB1 := Lib.hid (HB0.out.trans (hb1.mono HB0.out.size))
  clear hb0 hb1 h1 HB0
  go_wp2_with fail
  refine (h2 _).mono ?_
  rintro e w2 ⟨rfl, hb2⟩
  have HB2 := Lib.hid (HB1.out.trans (hb2.mono HB1.out.size))
  clear hb2 h2 HB1
  go_wp2_with fail
  refine (h3 _).mono ?_
  rintro e w3 ⟨rfl, hb3⟩
  have HB3 := Lib.hid (HB2.out.trans (hb3.mono HB2.out.size))
  clear hb3 h3 HB2
  go_wp2_with fail
  go_ret
  exact ⟨rfl, HB3.out⟩

end Go.Proofs.Ytjpahccpkonjkaa
