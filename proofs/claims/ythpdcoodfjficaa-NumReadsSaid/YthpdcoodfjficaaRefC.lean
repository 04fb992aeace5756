/- The walks of the document's own reader: Row and End. -/
import Derived.Test.YthpdcoodfjficaaRefB
namespace Go.Proofs.Ythpdcoodfjficaa
open Go.RowKit

/-- The answer of the reference's Row: a row, and the reader behind it. -/
def RRow (w : World) (B : Nat) (row l : List UInt8) (er : Nat) (e : Ending) (w' : World) : Prop :=
  ∃ Ar nr cr A n c, e = .returned (.tuple #[.slice Ar nr cr, .agg #[.slice A n c, .int .i64 er]]) ∧ Hid (row.length = nr) ∧ Lies w' B Ar (bvs row) ∧ Hid (l.length = n) ∧ n ≤ c ∧ Lies w' B A (bvs l) ∧ Below w.heap.size w w'

theorem two_blocks' {w w7 : World} {x y u v : Value} {T : TypeId} (hb : Below ((w.alloc (.cells #[x, y] T)).alloc (.cells #[u, v] T)).heap.size ((w.alloc (.cells #[x, y] T)).alloc (.cells #[u, v] T)) w7) :
    w7.heap[w.heap.size]? = some (.cells #[x, y] T (0, 0)) ∧ w7.heap[w.heap.size + 1]? = some (.cells #[u, v] T (0, 0)) ∧ w.heap.size + 1 < w7.heap.size := by
  have := two_blocks (w := w) (w7 := w7.drew) (x := x) (y := y) (u := u) (v := v) (T := T) ⟨hb.os, hb.tape, hb.output, hb.size, hb.block⟩
  exact this

/-- What is known of the world behind the inner call. -/
theorem inner_facts {w w7 : World} {x y u v : Value} {T : TypeId} (hb : Below ((w.alloc (.cells #[x, y] T)).alloc (.cells #[u, v] T)).heap.size ((w.alloc (.cells #[x, y] T)).alloc (.cells #[u, v] T)) w7) :
    w7.cell? ⟨w.heap.size, 0, none⟩ = some x ∧ w7.cell? ⟨w.heap.size, 1, none⟩ = some y ∧ w7.cell? ⟨w.heap.size + 1, 0, none⟩ = some u ∧ w7.cell? ⟨w.heap.size + 1, 1, none⟩ = some v ∧
    w7.frozen? ⟨w.heap.size, 0, none⟩ = false ∧ w7.frozen? ⟨w.heap.size, 1, none⟩ = false ∧ w7.frozen? ⟨w.heap.size + 1, 0, none⟩ = false ∧ w7.frozen? ⟨w.heap.size + 1, 1, none⟩ = false ∧
    w.heap.size < w7.heap.size ∧ w.heap.size + 1 < w7.heap.size ∧ Below w.heap.size w w7 := by
  obtain ⟨q1, q2, q3⟩ := two_blocks' hb
  refine ⟨cell_of_row _ _ 0 _ _ _ q1, cell_of_row _ _ 1 _ _ _ q1, cell_of_row _ _ 0 _ _ _ q2, cell_of_row _ _ 1 _ _ _ q2, row_frozen q1 0, row_frozen q1 1, row_frozen q2 0, row_frozen q2 1, by omega, q3, ?_⟩
  exact (((Below.refl _ _).alloc (Nat.le_refl _) _).alloc (by simp) _).trans (hb.mono (by simp; omega))

theorem size_setCell (w : World) (p : Addr) (u : Value) : (w.setCell p u).heap.size = w.heap.size := by simp [World.setCell]

theorem below_end {w w7 : World} {B : Nat} (hb : Below B w w7) (hs : B ≤ w7.heap.size) (g1 g2 i1 i2 i3 : Nat) (u1 u2 u3 : Value) (o1 o2 : Obj) (h1 : B ≤ g1) (h2 : B ≤ g2) :
    Below B w (((((w7.setCell ⟨g1, i1, none⟩ u1).setCell ⟨g2, i2, none⟩ u2).setCell ⟨g2, i3, none⟩ u3).alloc o1).alloc o2).drew := by
  refine (((((hb.setCell (p := ⟨g1, i1, none⟩) h1 u1).setCell (p := ⟨g2, i2, none⟩) h2 u2).setCell (p := ⟨g2, i3, none⟩) h2 u3).alloc ?_ o1).alloc ?_ o2).drew
  · rw [size_setCell, size_setCell, size_setCell]; exact hs
  · simp only [World.size_alloc, size_setCell]; omega

theorem end_cells {w7 : World} {g T : Nat} {u v u1 u2 u3 : Value} {o1 o2 : Obj} {i : Nat} (h : w7.heap[g + 1]? = some (.cells #[u, v] T (0, 0))) (hs : g + 1 < w7.heap.size) :
    (((((w7.setCell ⟨g, i, none⟩ u1).setCell ⟨g + 1, 0, none⟩ u2).setCell ⟨g + 1, 1, none⟩ u3).alloc o1).alloc o2).cell? ⟨g + 1, 0, none⟩ = some u2 ∧
    (((((w7.setCell ⟨g, i, none⟩ u1).setCell ⟨g + 1, 0, none⟩ u2).setCell ⟨g + 1, 1, none⟩ u3).alloc o1).alloc o2).cell? ⟨g + 1, 1, none⟩ = some u3 := by
  have h1 : (w7.setCell ⟨g, i, none⟩ u1).heap[g + 1]? = some (.cells #[u, v] T (0, 0)) := (Below.heap_setCell w7 _ u1 (g + 1) (by simp)).trans h
  have h2 := heap_setCell_row h1 0 u2
  have h3 := heap_setCell_row h2 1 u3
  have h4 : (((((w7.setCell ⟨g, i, none⟩ u1).setCell ⟨g + 1, 0, none⟩ u2).setCell ⟨g + 1, 1, none⟩ u3).alloc o1).alloc o2).heap[g + 1]? = some (.cells #[u2, u3] T (0, 0)) := by
    rw [Below.heap_alloc _ _ _ (by simp only [World.size_alloc, size_setCell]; omega), Below.heap_alloc _ _ _ (by simp only [size_setCell]; omega), h3]
    rfl
  exact ⟨cell_of_row _ _ 0 _ _ _ h4, cell_of_row _ _ 1 _ _ _ h4⟩

set_option maxHeartbeats 800000 in
theorem refRRow_bad (A : Option Addr) (B n c er : Nat) (most : Int) (l : List UInt8) (w : World) (m e2 : Nat) (l2 : List UInt8) (hl : l.length = n) (hnc : n ≤ c) (hLs : Lies w B A (bvs l)) (hB : B ≤ w.heap.size) (hn : n ≤ 1000000)
    (hrn : rnum l er top = (m, l2, e2)) (he2 : 0 < e2) :
    Calls Try.prog 16 #[.agg #[.slice A n c, .int .i64 er], .int .i64 most] w (RRow w B [] l e2) := by
  have HL := Lib.hid hl
  have HN : Hid (∀ W : World, Below w.heap.size w W → Calls Try.prog 18 #[.agg #[.slice A n c, .int .i64 er], .int .u64 18446744073709551615] W (RNum W B m l2 e2)) := by
    intro W hW
    have := refRNum_any A B n c er top l W hl hnc (hLs.below (hW.mono hB)) (Nat.le_trans hB hW.size) hn
    rw [hrn] at this
    exact this
  have hne : ((e2 : Int) != 0) = true := by simp; omega
  have hne2 : ((e2 : Int) == 0) = false := by simp; omega
  have hbd := ((Below.refl w.heap.size w).alloc (Nat.le_refl _) (.cells #[.slice A n c, .int .i64 er] 38)).alloc (by simp) (.cells #[.slice none 0 0, .int .i64 0] 38)
  clear hl hrn
  by_cases hm : most < 0
  · skip
    go_enter Try.func16, Try.ntmps16
    go_wp2_with (go_at_call 18; refine (HN.out _ hbd).mono ?_; intro e w7 ho; obtain ⟨A7, n7, c7, rfl, hn7, hc7, hL7, hb7, _⟩ := ho; obtain ⟨p0, p1, r0, r1, f0, f1, f2, f3, s1, s2, hbJ⟩ := inner_facts hb7)
    go_region
    all_goals
      go_wp2
      obtain ⟨X0, X1⟩ := end_cells (i := 1) (u1 := .int .i64 e2) (u2 := .slice A n c) (u3 := .int .i64 e2) (o1 := .cells #[.slice A7 n7 c7, .int .i64 e2] 38) (o2 := .cells #[] 5) (two_blocks' hb7).2.1 s2
      refine bodyPost_ret (v := .tuple #[.slice (some ⟨w7.heap.size + 1, 0, none⟩) 0 0, .agg #[.slice A n c, .int .i64 e2]]) (by simp [results, Try.results16, go_sem, X0, X1]) rfl ?_
      have hbE := below_end hbJ hbJ.size w.heap.size (w.heap.size + 1) 1 0 1 (.int .i64 e2) (.slice A n c) (.int .i64 e2) (.cells #[.slice A7 n7 c7, .int .i64 e2] 38) (.cells #[] 5) (Nat.le_refl _) (Nat.le_succ _)
      exact ⟨_, _, _, _, _, _, rfl, rfl, Lies.nil, HL, hnc, hLs.below (hbE.mono hB), hbE⟩
  · skip
    go_enter Try.func16, Try.ntmps16
    go_wp2_with (go_at_call 18; refine (HN.out _ hbd).mono ?_; intro e w7 ho; obtain ⟨A7, n7, c7, rfl, hn7, hc7, hL7, hb7, _⟩ := ho; obtain ⟨p0, p1, r0, r1, f0, f1, f2, f3, s1, s2, hbJ⟩ := inner_facts hb7)
    go_region
    all_goals
      go_wp2
      obtain ⟨X0, X1⟩ := end_cells (i := 1) (u1 := .int .i64 e2) (u2 := .slice A n c) (u3 := .int .i64 e2) (o1 := .cells #[.slice A7 n7 c7, .int .i64 e2] 38) (o2 := .cells #[] 5) (two_blocks' hb7).2.1 s2
      refine bodyPost_ret (v := .tuple #[.slice (some ⟨w7.heap.size + 1, 0, none⟩) 0 0, .agg #[.slice A n c, .int .i64 e2]]) (by simp [results, Try.results16, go_sem, X0, X1]) rfl ?_
      have hbE := below_end hbJ hbJ.size w.heap.size (w.heap.size + 1) 1 0 1 (.int .i64 e2) (.slice A n c) (.int .i64 e2) (.cells #[.slice A7 n7 c7, .int .i64 e2] 38) (.cells #[] 5) (Nat.le_refl _) (Nat.le_succ _)
      exact ⟨_, _, _, _, _, _, rfl, rfl, Lies.nil, HL, hnc, hLs.below (hbE.mono hB), hbE⟩

set_option maxHeartbeats 800000 in
theorem refRRow_long (A : Option Addr) (B n c er : Nat) (most : Int) (l : List UInt8) (w : World) (m : Nat) (l2 : List UInt8) (hl : l.length = n) (hnc : n ≤ c) (hLs : Lies w B A (bvs l)) (hB : B ≤ w.heap.size) (hn : n ≤ 1000000)
    (hrn : rnum l er top = (m, l2, 0)) (hm : most.toNat < m) (hmost : most ≤ 9223372036854775807) :
    Calls Try.prog 16 #[.agg #[.slice A n c, .int .i64 er], .int .i64 most] w (RRow w B [] l 4) := by
  have HL := Lib.hid hl
  have HN : Hid (∀ W : World, Below w.heap.size w W → Calls Try.prog 18 #[.agg #[.slice A n c, .int .i64 er], .int .u64 18446744073709551615] W (RNum W B m l2 0)) := by
    intro W hW
    have := refRNum_any A B n c er top l W hl hnc (hLs.below (hW.mono hB)) (Nat.le_trans hB hW.size) hn
    rw [hrn] at this
    exact this
  have hbd := ((Below.refl w.heap.size w).alloc (Nat.le_refl _) (.cells #[.slice A n c, .int .i64 er] 38)).alloc (by simp) (.cells #[.slice none 0 0, .int .i64 0] 38)
  clear hl hrn
  by_cases hm0 : most < 0
  · have hm2 : 0 < m := by omega
    clear hm
    go_enter Try.func16, Try.ntmps16
    go_wp2_with (go_at_call 18; refine (HN.out _ hbd).mono ?_; intro e w7 ho; obtain ⟨A7, n7, c7, rfl, hn7, hc7, hL7, hb7, _⟩ := ho; obtain ⟨p0, p1, r0, r1, f0, f1, f2, f3, s1, s2, hbJ⟩ := inner_facts hb7)
    go_region
    all_goals
      go_wp2
      obtain ⟨X0, X1⟩ := end_cells (i := 1) (u1 := .int .i64 4) (u2 := .slice A n c) (u3 := .int .i64 4) (o1 := .cells #[.slice A7 n7 c7, .int .i64 4] 38) (o2 := .cells #[] 5) (two_blocks' hb7).2.1 s2
      refine bodyPost_ret (v := .tuple #[.slice (some ⟨w7.heap.size + 1, 0, none⟩) 0 0, .agg #[.slice A n c, .int .i64 4]]) (by simp [results, Try.results16, go_sem, X0, X1]) rfl ?_
      have hbE := below_end hbJ hbJ.size w.heap.size (w.heap.size + 1) 1 0 1 (.int .i64 4) (.slice A n c) (.int .i64 4) (.cells #[.slice A7 n7 c7, .int .i64 4] 38) (.cells #[] 5) (Nat.le_refl _) (Nat.le_succ _)
      exact ⟨_, _, _, _, _, _, rfl, rfl, Lies.nil, HL, hnc, hLs.below (hbE.mono hB), hbE⟩
  · have hm2 : most < (m : Int) := by omega
    clear hm
    go_enter Try.func16, Try.ntmps16
    go_wp2_with (go_at_call 18; refine (HN.out _ hbd).mono ?_; intro e w7 ho; obtain ⟨A7, n7, c7, rfl, hn7, hc7, hL7, hb7, _⟩ := ho; obtain ⟨p0, p1, r0, r1, f0, f1, f2, f3, s1, s2, hbJ⟩ := inner_facts hb7)
    go_region
    all_goals
      go_wp2
      obtain ⟨X0, X1⟩ := end_cells (i := 1) (u1 := .int .i64 4) (u2 := .slice A n c) (u3 := .int .i64 4) (o1 := .cells #[.slice A7 n7 c7, .int .i64 4] 38) (o2 := .cells #[] 5) (two_blocks' hb7).2.1 s2
      refine bodyPost_ret (v := .tuple #[.slice (some ⟨w7.heap.size + 1, 0, none⟩) 0 0, .agg #[.slice A n c, .int .i64 4]]) (by simp [results, Try.results16, go_sem, X0, X1]) rfl ?_
      have hbE := below_end hbJ hbJ.size w.heap.size (w.heap.size + 1) 1 0 1 (.int .i64 4) (.slice A n c) (.int .i64 4) (.cells #[.slice A7 n7 c7, .int .i64 4] 38) (.cells #[] 5) (Nat.le_refl _) (Nat.le_succ _)
      exact ⟨_, _, _, _, _, _, rfl, rfl, Lies.nil, HL, hnc, hLs.below (hbE.mono hB), hbE⟩

set_option maxHeartbeats 800000 in
theorem refRRow_short (A : Option Addr) (B n c er : Nat) (most : Int) (l : List UInt8) (w : World) (m : Nat) (l2 : List UInt8) (hl : l.length = n) (hnc : n ≤ c) (hLs : Lies w B A (bvs l)) (hB : B ≤ w.heap.size) (hn : n ≤ 1000000)
    (hrn : rnum l er top = (m, l2, 0)) (hm : ¬ most.toNat < m) (hmost : most ≤ 9223372036854775807) (hsh : l2.length < m) :
    Calls Try.prog 16 #[.agg #[.slice A n c, .int .i64 er], .int .i64 most] w (RRow w B [] l 2) := by
  have HL := Lib.hid hl
  have HN : Hid (∀ W : World, Below w.heap.size w W → Calls Try.prog 18 #[.agg #[.slice A n c, .int .i64 er], .int .u64 18446744073709551615] W (RNum W B m l2 0)) := by
    intro W hW
    have := refRNum_any A B n c er top l W hl hnc (hLs.below (hW.mono hB)) (Nat.le_trans hB hW.size) hn
    rw [hrn] at this
    exact this
  have hbd := ((Below.refl w.heap.size w).alloc (Nat.le_refl _) (.cells #[.slice A n c, .int .i64 er] 38)).alloc (by simp) (.cells #[.slice none 0 0, .int .i64 0] 38)
  clear hl hrn
  by_cases hm0 : most < 0
  · exfalso; omega
  · have hm2 : ¬ most < (m : Int) := by omega
    clear hm
    go_enter Try.func16, Try.ntmps16
    go_wp2_with (go_at_call 18; refine (HN.out _ hbd).mono ?_; intro e w7 ho; obtain ⟨A7, n7, c7, rfl, hn7, hc7, hL7, hb7, _⟩ := ho; obtain ⟨p0, p1, r0, r1, f0, f1, f2, f3, s1, s2, hbJ⟩ := inner_facts hb7; have hsh2 : n7 < m := by rw [← hn7.out]; exact hsh)
    go_region
    all_goals
      go_wp2
      obtain ⟨X0, X1⟩ := end_cells (i := 1) (u1 := .int .i64 2) (u2 := .slice A n c) (u3 := .int .i64 2) (o1 := .cells #[.slice A7 n7 c7, .int .i64 2] 38) (o2 := .cells #[] 5) (two_blocks' hb7).2.1 s2
      refine bodyPost_ret (v := .tuple #[.slice (some ⟨w7.heap.size + 1, 0, none⟩) 0 0, .agg #[.slice A n c, .int .i64 2]]) (by simp [results, Try.results16, go_sem, X0, X1]) rfl ?_
      have hbE := below_end hbJ hbJ.size w.heap.size (w.heap.size + 1) 1 0 1 (.int .i64 2) (.slice A n c) (.int .i64 2) (.cells #[.slice A7 n7 c7, .int .i64 2] 38) (.cells #[] 5) (Nat.le_refl _) (Nat.le_succ _)
      exact ⟨_, _, _, _, _, _, rfl, rfl, Lies.nil, HL, hnc, hLs.below (hbE.mono hB), hbE⟩

theorem lies_take {w : World} {B : Nat} {A : Option Addr} {l : List UInt8} (m : Nat) (h : Lies w B A (bvs l)) : Lies w B A (bvs (l.take m)) :=
  lies_front (t := l.drop m) (by rw [List.take_append_drop]; exact h)

theorem len_ge {l2 : List UInt8} {n7 m : Nat} (hn : Hid (l2.length = n7)) (h : ¬ l2.length < m) : ¬ n7 < m := by have := hn.out; omega
theorem len_le {l2 : List UInt8} {n7 m : Nat} (hn : Hid (l2.length = n7)) (h : l2.length ≤ m) : n7 ≤ m := by have := hn.out; omega

theorem below_end2 {w w7 : World} {B : Nat} (hb : Below B w w7) (hs : B ≤ w7.heap.size) (g2 i2 i3 : Nat) (u2 u3 : Value) (o1 : Obj) (h2 : B ≤ g2) :
    Below B w (((w7.setCell ⟨g2, i2, none⟩ u2).setCell ⟨g2, i3, none⟩ u3).alloc o1).drew := by
  refine (((hb.setCell (p := ⟨g2, i2, none⟩) h2 u2).setCell (p := ⟨g2, i3, none⟩) h2 u3).alloc ?_ o1).drew
  rw [size_setCell, size_setCell]; exact hs

theorem end_cells2 {w7 : World} {g T : Nat} {u v u2 u3 : Value} {o1 : Obj} (h : w7.heap[g + 1]? = some (.cells #[u, v] T (0, 0))) (hs : g + 1 < w7.heap.size) :
    (((w7.setCell ⟨g + 1, 0, none⟩ u2).setCell ⟨g + 1, 1, none⟩ u3).alloc o1).cell? ⟨g + 1, 0, none⟩ = some u2 ∧
    (((w7.setCell ⟨g + 1, 0, none⟩ u2).setCell ⟨g + 1, 1, none⟩ u3).alloc o1).cell? ⟨g + 1, 1, none⟩ = some u3 := by
  have h2 := heap_setCell_row h 0 u2
  have h3 := heap_setCell_row h2 1 u3
  have h4 : (((w7.setCell ⟨g + 1, 0, none⟩ u2).setCell ⟨g + 1, 1, none⟩ u3).alloc o1).heap[g + 1]? = some (.cells #[u2, u3] T (0, 0)) := by
    rw [Below.heap_alloc _ _ _ (by simp only [size_setCell]; omega), h3]
    rfl
  exact ⟨cell_of_row _ _ 0 _ _ _ h4, cell_of_row _ _ 1 _ _ _ h4⟩

/-- From the world of the inner call to the end nothing below B turns. -/
theorem end_below {w w7 : World} {B : Nat} {g2 i2 i3 : Nat} {u2 u3 : Value} {o1 : Obj} (hB : B ≤ w.heap.size) (h2 : w.heap.size ≤ g2) (hs : w.heap.size ≤ w7.heap.size) :
    Below B w7 (((w7.setCell ⟨g2, i2, none⟩ u2).setCell ⟨g2, i3, none⟩ u3).alloc o1).drew := by
  refine ((((Below.refl B w7).setCell (p := ⟨g2, i2, none⟩) (Nat.le_trans hB h2) u2).setCell (p := ⟨g2, i3, none⟩) (Nat.le_trans hB h2) u3).alloc ?_ o1).drew
  rw [size_setCell, size_setCell]; omega

theorem row_end {w w7 wE : World} {B m n7 c7 cE : Nat} {A A' : Option Addr} {l2 : List UInt8} (hn7 : Hid (l2.length = n7)) (hsh : ¬ l2.length < m) (hL : Lies w7 B A (bvs l2)) (hcut : Lies w7 B A' (bvs (l2.drop m)))
    (hs : w.heap.size ≤ w7.heap.size) (hE7 : w.heap.size ≤ w7.heap.size → Below B w7 wE) (hE : Below w.heap.size w wE) (hc : n7 - m ≤ cE) :
    RRow w B (l2.take m) (l2.drop m) 0 (.returned (.tuple #[.slice A m c7, .agg #[.slice A' (n7 - m) cE, .int .i64 0]])) wE := by
  refine ⟨A, m, c7, A', n7 - m, cE, rfl, ?_, (lies_take m hL).below (hE7 hs), ?_, hc, hcut.below (hE7 hs), hE⟩
  · show (l2.take m).length = m
    simp; omega
  · show (l2.drop m).length = n7 - m
    rw [List.length_drop, hn7.out]

set_option maxHeartbeats 1600000 in
theorem refRRow_ok (A : Option Addr) (B n c er : Nat) (most : Int) (l : List UInt8) (w : World) (m : Nat) (l2 : List UInt8) (hl : l.length = n) (hnc : n ≤ c) (hLs : Lies w B A (bvs l)) (hB : B ≤ w.heap.size) (hn : n ≤ 1000000)
    (hrn : rnum l er top = (m, l2, 0)) (hm : ¬ most.toNat < m) (hmost : most ≤ 9223372036854775807) (hsh : ¬ l2.length < m) (hl2 : l2.length ≤ 1000000) :
    Calls Try.prog 16 #[.agg #[.slice A n c, .int .i64 er], .int .i64 most] w (RRow w B (l2.take m) (l2.drop m) 0) := by
  have HL := Lib.hid hl
  have HN : Hid (∀ W : World, Below w.heap.size w W → Calls Try.prog 18 #[.agg #[.slice A n c, .int .i64 er], .int .u64 18446744073709551615] W (RNum W B m l2 0)) := by
    intro W hW
    have := refRNum_any A B n c er top l W hl hnc (hLs.below (hW.mono hB)) (Nat.le_trans hB hW.size) hn
    rw [hrn] at this
    exact this
  have hbd := ((Below.refl w.heap.size w).alloc (Nat.le_refl _) (.cells #[.slice A n c, .int .i64 er] 38)).alloc (by simp) (.cells #[.slice none 0 0, .int .i64 0] 38)
  clear hl hrn
  by_cases hm0 : most < 0
  · have hm2 : ¬ 0 < m := by omega
    clear hm
    go_enter Try.func16, Try.ntmps16
    go_wp2_with (go_at_call 18; refine (HN.out _ hbd).mono ?_; intro e w7 ho; obtain ⟨A7, n7, c7, rfl, hn7, hc7, hL7, hb7, hA7⟩ := ho; obtain ⟨b7, off7, rfl⟩ := hA7 rfl; clear hA7; obtain ⟨p0, p1, r0, r1, f0, f1, f2, f3, s1, s2, hbJ⟩ := inner_facts hb7; have hsh2 := len_ge hn7 hsh; have hn7b := len_le hn7 hl2)
    all_goals go_region
    all_goals go_wp2
    · have hck : c7 = m := by omega
      obtain ⟨X0, X1⟩ := end_cells2 (u2 := .slice (some ⟨b7, off7, none⟩) (n7 - m) 0) (u3 := .int .i64 0) (o1 := .cells #[.slice (some ⟨b7, off7, none⟩) (n7 - m) 0, .int .i64 0] 38) (two_blocks' hb7).2.1 s2
      refine bodyPost_ret (v := .tuple #[.slice (some ⟨b7, off7, none⟩) m m, .agg #[.slice (some ⟨b7, off7, none⟩) (n7 - m) 0, .int .i64 0]]) (by simp [results, Try.results16, go_sem, X0, X1]) rfl ?_
      have hbE := below_end2 hbJ hbJ.size (w.heap.size + 1) 0 1 (.slice (some ⟨b7, off7, none⟩) (n7 - m) 0) (.int .i64 0) (.cells #[.slice (some ⟨b7, off7, none⟩) (n7 - m) 0, .int .i64 0] 38) (Nat.le_succ _)
      have hcut := lies_cut (s := m) (c := c7) hL7 (by rw [hn7.out]; exact hc7)
      rw [if_pos hck] at hcut
      exact row_end hn7 hsh hL7 hcut hbJ.size (end_below hB (Nat.le_succ _)) hbE (by omega)
    · obtain ⟨X0, X1⟩ := end_cells2 (u2 := .slice (some ⟨b7, off7 + m, none⟩) (n7 - m) (c7 - m)) (u3 := .int .i64 0) (o1 := .cells #[.slice (some ⟨b7, off7 + m, none⟩) (n7 - m) (c7 - m), .int .i64 0] 38) (two_blocks' hb7).2.1 s2
      refine bodyPost_ret (v := .tuple #[.slice (some ⟨b7, off7, none⟩) m c7, .agg #[.slice (some ⟨b7, off7 + m, none⟩) (n7 - m) (c7 - m), .int .i64 0]]) (by simp [results, Try.results16, go_sem, X0, X1]) rfl ?_
      have hbE := below_end2 hbJ hbJ.size (w.heap.size + 1) 0 1 (.slice (some ⟨b7, off7 + m, none⟩) (n7 - m) (c7 - m)) (.int .i64 0) (.cells #[.slice (some ⟨b7, off7 + m, none⟩) (n7 - m) (c7 - m), .int .i64 0] 38) (Nat.le_succ _)
      have hcut := lies_cut (s := m) (c := c7) hL7 (by rw [hn7.out]; exact hc7)
      rw [if_neg (by omega)] at hcut
      exact row_end hn7 hsh hL7 hcut hbJ.size (end_below hB (Nat.le_succ _)) hbE (by omega)
  · have hm2 : ¬ most < (m : Int) := by omega
    clear hm
    go_enter Try.func16, Try.ntmps16
    go_wp2_with (go_at_call 18; refine (HN.out _ hbd).mono ?_; intro e w7 ho; obtain ⟨A7, n7, c7, rfl, hn7, hc7, hL7, hb7, hA7⟩ := ho; obtain ⟨b7, off7, rfl⟩ := hA7 rfl; clear hA7; obtain ⟨p0, p1, r0, r1, f0, f1, f2, f3, s1, s2, hbJ⟩ := inner_facts hb7; have hsh2 := len_ge hn7 hsh; have hn7b := len_le hn7 hl2)
    all_goals go_region
    all_goals go_wp2
    · have hck : c7 = m := by omega
      obtain ⟨X0, X1⟩ := end_cells2 (u2 := .slice (some ⟨b7, off7, none⟩) (n7 - m) 0) (u3 := .int .i64 0) (o1 := .cells #[.slice (some ⟨b7, off7, none⟩) (n7 - m) 0, .int .i64 0] 38) (two_blocks' hb7).2.1 s2
      refine bodyPost_ret (v := .tuple #[.slice (some ⟨b7, off7, none⟩) m m, .agg #[.slice (some ⟨b7, off7, none⟩) (n7 - m) 0, .int .i64 0]]) (by simp [results, Try.results16, go_sem, X0, X1]) rfl ?_
      have hbE := below_end2 hbJ hbJ.size (w.heap.size + 1) 0 1 (.slice (some ⟨b7, off7, none⟩) (n7 - m) 0) (.int .i64 0) (.cells #[.slice (some ⟨b7, off7, none⟩) (n7 - m) 0, .int .i64 0] 38) (Nat.le_succ _)
      have hcut := lies_cut (s := m) (c := c7) hL7 (by rw [hn7.out]; exact hc7)
      rw [if_pos hck] at hcut
      exact row_end hn7 hsh hL7 hcut hbJ.size (end_below hB (Nat.le_succ _)) hbE (by omega)
    · obtain ⟨X0, X1⟩ := end_cells2 (u2 := .slice (some ⟨b7, off7 + m, none⟩) (n7 - m) (c7 - m)) (u3 := .int .i64 0) (o1 := .cells #[.slice (some ⟨b7, off7 + m, none⟩) (n7 - m) (c7 - m), .int .i64 0] 38) (two_blocks' hb7).2.1 s2
      refine bodyPost_ret (v := .tuple #[.slice (some ⟨b7, off7, none⟩) m c7, .agg #[.slice (some ⟨b7, off7 + m, none⟩) (n7 - m) (c7 - m), .int .i64 0]]) (by simp [results, Try.results16, go_sem, X0, X1]) rfl ?_
      have hbE := below_end2 hbJ hbJ.size (w.heap.size + 1) 0 1 (.slice (some ⟨b7, off7 + m, none⟩) (n7 - m) (c7 - m)) (.int .i64 0) (.cells #[.slice (some ⟨b7, off7 + m, none⟩) (n7 - m) (c7 - m), .int .i64 0] 38) (Nat.le_succ _)
      have hcut := lies_cut (s := m) (c := c7) hL7 (by rw [hn7.out]; exact hc7)
      rw [if_neg (by omega)] at hcut
      exact row_end hn7 hsh hL7 hcut hbJ.size (end_below hB (Nat.le_succ _)) hbE (by omega)

theorem refREnd_any (A : Option Addr) (n c er : Nat) (w : World) :
    Calls Try.prog 23 #[.agg #[.slice A n c, .int .i64 er]] w fun e w' => e = .returned (.int .i64 (endOf er n)) ∧ Below w.heap.size w w' := by
  have hb : ∀ o : Obj, Below w.heap.size w (w.alloc o) := fun o => (Below.refl _ _).alloc (Nat.le_refl _) o
  by_cases her : er = 0
  · subst her
    by_cases hn : 0 < n
    · go_enter Try.func23, Try.ntmps23
      go_wp2
      go_ret
      exact ⟨by simp [endOf, hn], hb _⟩
    · go_enter Try.func23, Try.ntmps23
      go_wp2
      go_ret
      exact ⟨by simp [endOf, hn], hb _⟩
  · have h2 : ((er : Int) == 0) = false := by simp; omega
    go_enter Try.func23, Try.ntmps23
    go_wp2
    go_ret
    exact ⟨by simp [endOf, her], hb _⟩

theorem rnum_left (l : List UInt8) (er most : Nat) : (rnum l er most).2.1.length ≤ l.length := by
  unfold rnum
  split
  · exact Nat.le_refl _
  · split
    · exact Nat.le_refl _
    · simp

theorem refRRow_any (A : Option Addr) (B n c er : Nat) (most : Int) (l : List UInt8) (w : World) (hl : l.length = n) (hnc : n ≤ c) (hLs : Lies w B A (bvs l)) (hB : B ≤ w.heap.size) (hn : n ≤ 1000000) (hmost : most ≤ 9223372036854775807) :
    Calls Try.prog 16 #[.agg #[.slice A n c, .int .i64 er], .int .i64 most] w (RRow w B (rowOf l er most).1 (rowOf l er most).2.1 (rowOf l er most).2.2) := by
  rcases hrn : rnum l er top with ⟨m, l2, e2⟩
  by_cases he2 : e2 = 0
  · subst he2
    have her : er = 0 := by
      rcases Nat.eq_zero_or_pos er with h | h
      · exact h
      · have : er ≠ 0 := by omega
        simp [rnum, this] at hrn
    subst her
    have h0 : (rd l top).2.2 = 0 := by
      rcases Nat.eq_zero_or_pos (rd l top).2.2 with h | h
      · exact h
      · have : (rd l top).2.2 ≠ 0 := by omega
        simp [rnum, this] at hrn
    have hm' : m = (rd l top).1 ∧ l2 = l.drop (rd l top).2.1 := by
      simp [rnum, h0] at hrn
      exact ⟨hrn.1.symm, hrn.2.symm⟩
    obtain ⟨hm1, hm2⟩ := hm'
    have hl2 : l2.length = l.length - (rd l top).2.1 := by rw [hm2, List.length_drop]
    by_cases hm : most.toNat < m
    · have e : rowOf l 0 most = ([], l, 4) := by
        have : rrow l most = ([], 0, 4) := by unfold rrow; rw [h0, ← hm1]; simp [hm]
        simp [rowOf, this]
      rw [e]
      exact refRRow_long A B n c 0 most l w m l2 hl hnc hLs hB hn hrn hm hmost
    · by_cases hsh : l2.length < m
      · have e : rowOf l 0 most = ([], l, 2) := by
          have : rrow l most = ([], 0, 2) := by
            unfold rrow; rw [h0, ← hm1]
            simp only [ne_eq, not_true_eq_false, if_false]
            rw [if_neg hm, if_pos (by omega)]
          simp [rowOf, this]
        rw [e]
        exact refRRow_short A B n c 0 most l w m l2 hl hnc hLs hB hn hrn hm hmost hsh
      · have e : rowOf l 0 most = (l2.take m, l2.drop m, 0) := by
          have : rrow l most = (l2.take m, (rd l top).2.1 + m, 0) := by
            unfold rrow; rw [h0, ← hm1]
            simp only [ne_eq, not_true_eq_false, if_false]
            rw [if_neg hm, if_neg (by omega), hm2]
          simp only [rowOf, this, ne_eq, not_true_eq_false, if_false]
          rw [hm2, List.drop_drop]
        rw [e]
        have hle := rnum_left l 0 top
        rw [hrn] at hle
        exact refRRow_ok A B n c 0 most l w m l2 hl hnc hLs hB hn hrn hm hmost hsh (by simp only at hle; omega)
  · have e : rowOf l er most = ([], l, e2) := by
      by_cases her : er = 0
      · subst her
        have h0 : (rd l top).2.2 = e2 := by
          by_cases h : (rd l top).2.2 = 0
          · simp [rnum, h] at hrn; exact absurd hrn.2.2.symm he2
          · simp [rnum, h] at hrn; exact hrn.2.2
        have : rrow l most = ([], 0, e2) := by unfold rrow; rw [h0]; simp [he2]
        simp [rowOf, this, he2]
      · have h1 : rnum l er top = (0, l, er) := by simp [rnum, her]
        rw [h1] at hrn
        injection hrn with _ h2
        injection h2 with _ h3
        subst h3
        simp [rowOf, her]
    rw [e]
    exact refRRow_bad A B n c er most l w m e2 l2 hl hnc hLs hB hn hrn (by omega)

end Go.Proofs.Ythpdcoodfjficaa
