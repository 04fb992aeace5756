/- The document's reader: Row, End (picked). -/
import Derived.Test.YtbfjfidodpgohaaT04
import Derived.Test.YtbfjfidodpgohaaT03
import Derived.Deep.RegionWith
import Derived.RegionTactic
import Derived.Handy

namespace Go.Proofs.Ytbfjfidodpgohaa
open Go.RowKit

/-- The answer of the reference's Row: a row, and the reader behind it. -/
def RRow (w : World) (B : Nat) (row l : List UInt8) (er : Nat) (e : Ending) (w' : World) : Prop :=
  ∃ Ar nr cr A n c, e = .returned (.tuple #[.slice Ar nr cr, .agg #[.slice A n c, .int .i64 er]]) ∧ Hid (row.length = nr) ∧ Lies w' B Ar (bvs row) ∧ Hid (l.length = n) ∧ n ≤ c ∧ Lies w' B A (bvs l) ∧ Below w.heap.size w w'

theorem two_blocks' {w w7 : World} {x y u v : Value} {T : TypeId} (hb : Below ((w.alloc (.cells #[x, y] T)).alloc (.cells #[u, v] T)).heap.size ((w.alloc (.cells #[x, y] T)).alloc (.cells #[u, v] T)) w7) :
    w7.heap[w.heap.size]? = some (.cells #[x, y] T (0, 0)) ∧ w7.heap[w.heap.size + 1]? = some (.cells #[u, v] T (0, 0)) ∧ w.heap.size + 1 < w7.heap.size := by
  have := two_blocks (w := w) (w7 := w7.drew) (x := x) (y := y) (u := u) (v := v) (T := T) ⟨hb.os, hb.tape, hb.output, hb.size, hb.block⟩
  exact this

/-- What is known of the world behind the inner call. -/
theorem inner_facts {w w7 : World} {x y u v : Value} {T : TypeId} (hb : Below ((w.alloc (.cells #[x, y] T)).alloc (.cells #[u, v] T)).heap.size ((w.alloc (.cells #[x, y] T)).alloc (.cells #[u, v] T)) w7) :
    w7.cell? ⟨w.heap.size, 0, none⟩ = some x ∧ w7.cell? ⟨w.heap.size, 1, none⟩ = some y ∧ w7.cell? ⟨w.heap.size + 1, 0, none⟩ = some u ∧ w7.cell? ⟨w.heap.size + 1, 1, none⟩ = some v ∧
    w7.frozen? ⟨w.heap.size, 0, none⟩ = false ∧ w7.frozen? ⟨w.heap.size, 1, none⟩ = false ∧ w7.frozen? ⟨w.heap.size + 1, 0, none⟩ = false ∧ w7.frozen? ⟨w.heap.size + 1, 1, none⟩ = false ∧
    w.heap.size < w7.heap.size ∧ w.heap.size + 1 < w7.heap.size ∧ Below w.heap.size w w7 := by
  obtain ⟨q1, q2, q3⟩ := two_blocks' hb
  refine ⟨cell_of_row _ _ 0 _ _ _ q1, cell_of_row _ _ 1 _ _ _ q1, cell_of_row _ _ 0 _ _ _ q2, cell_of_row _ _ 1 _ _ _ q2, row_frozen q1 0, row_frozen q1 1, row_frozen q2 0, row_frozen q2 1, by omega, q3, ?_⟩
  exact (((Below.refl _ _).alloc (Nat.le_refl _) _).alloc (by simp) _).trans (hb.mono (by simp; omega))

theorem size_setCell (w : World) (p : Addr) (u : Value) : (w.setCell p u).heap.size = w.heap.size := by simp [World.setCell]

theorem below_end {w w7 : World} {B : Nat} (hb : Below B w w7) (hs : B ≤ w7.heap.size) (g1 g2 i1 i2 i3 : Nat) (u1 u2 u3 : Value) (o1 o2 : Obj) (h1 : B ≤ g1) (h2 : B ≤ g2) :
    Below B w (((((w7.setCell ⟨g1, i1, none⟩ u1).setCell ⟨g2, i2, none⟩ u2).setCell ⟨g2, i3, none⟩ u3).alloc o1).alloc o2).drew := by
  refine (((((hb.setCell (p := ⟨g1, i1, none⟩) h1 u1).setCell (p := ⟨g2, i2, none⟩) h2 u2).setCell (p := ⟨g2, i3, none⟩) h2 u3).alloc ?_ o1).alloc ?_ o2).drew
  · rw [size_setCell, size_setCell, size_setCell]; exact hs
  · simp only [World.size_alloc, size_setCell]; omega

theorem end_cells {w7 : World} {g T : Nat} {u v u1 u2 u3 : Value} {o1 o2 : Obj} {i : Nat} (h : w7.heap[g + 1]? = some (.cells #[u, v] T (0, 0))) (hs : g + 1 < w7.heap.size) :
    (((((w7.setCell ⟨g, i, none⟩ u1).setCell ⟨g + 1, 0, none⟩ u2).setCell ⟨g + 1, 1, none⟩ u3).alloc o1).alloc o2).cell? ⟨g + 1, 0, none⟩ = some u2 ∧
    (((((w7.setCell ⟨g, i, none⟩ u1).setCell ⟨g + 1, 0, none⟩ u2).setCell ⟨g + 1, 1, none⟩ u3).alloc o1).alloc o2).cell? ⟨g + 1, 1, none⟩ = some u3 := by
  have h1 : (w7.setCell ⟨g, i, none⟩ u1).heap[g + 1]? = some (.cells #[u, v] T (0, 0)) := (Below.heap_setCell w7 _ u1 (g + 1) (by simp)).trans h
  have h2 := heap_setCell_row h1 0 u2
  have h3 := heap_setCell_row h2 1 u3
  have h4 : (((((w7.setCell ⟨g, i, none⟩ u1).setCell ⟨g + 1, 0, none⟩ u2).setCell ⟨g + 1, 1, none⟩ u3).alloc o1).alloc o2).heap[g + 1]? = some (.cells #[u2, u3] T (0, 0)) := by
    rw [Below.heap_alloc _ _ _ (by simp only [World.size_alloc, size_setCell]; omega), Below.heap_alloc _ _ _ (by simp only [size_setCell]; omega), h3]
    rfl
  exact ⟨cell_of_row _ _ 0 _ _ _ h4, cell_of_row _ _ 1 _ _ _ h4⟩

set_option maxRecDepth 100000 in
set_option maxHeartbeats 800000 in
theorem refRRow_bad (A : Option Addr) (B n c er : Nat) (most : Int) (l : List UInt8) (w : World) (m e2 : Nat) (l2 : List UInt8) (hl : l.length = n) (hnc : n ≤ c) (hLs : Lies w B A (bvs l)) (hB : B ≤ w.heap.size) (hn : n ≤ 1000000)
    (hrn : rnum l er top = (m, l2, e2)) (he2 : 0 < e2) :
    Calls Try.prog 51 #[.agg #[.slice A n c, .int .i64 er], .int .i64 most] w (RRow w B [] l e2) := by
  have HL := Lib.hid hl
  have HN : Hid (∀ W : World, Below w.heap.size w W → Calls Try.prog 23 #[.agg #[.slice A n c, .int .i64 er], .int .u64 18446744073709551615] W (RNum W B m l2 e2)) := by
    intro W hW
    have := refRNum_any A B n c er top l W hl hnc (hLs.below (hW.mono hB)) (Nat.le_trans hB hW.size) hn
    rw [hrn] at this
    exact this
  have hne : ((e2 : Int) != 0) = true := by simp; omega
  have hne2 : ((e2 : Int) == 0) = false := by simp; omega
  have hbd := ((Below.refl w.heap.size w).alloc (Nat.le_refl _) (.cells #[.slice A n c, .int .i64 er] 59)).alloc (by simp) (.cells #[.slice none 0 0, .int .i64 0] 59)
  clear hl hrn
  by_cases hm : most < 0
  · skip
    go_enter Try.func51, Try.ntmps51
    go_wp2_with (go_at_call 23; refine (HN.out _ hbd).mono ?_; intro e w7 ho; obtain ⟨A7, n7, c7, rfl, hn7, hc7, hL7, hb7, _⟩ := ho; obtain ⟨p0, p1, r0, r1, f0, f1, f2, f3, s1, s2, hbJ⟩ := inner_facts hb7)
    go_region
    all_goals
      go_wp2
      obtain ⟨X0, X1⟩ := end_cells (i := 1) (u1 := .int .i64 e2) (u2 := .slice A n c) (u3 := .int .i64 e2) (o1 := .cells #[.slice A7 n7 c7, .int .i64 e2] 59) (o2 := .cells #[] 5) (two_blocks' hb7).2.1 s2
      refine bodyPost_ret (v := .tuple #[.slice (some ⟨w7.heap.size + 1, 0, none⟩) 0 0, .agg #[.slice A n c, .int .i64 e2]]) (by simp [results, Try.results51, go_sem, X0, X1]) rfl ?_
      have hbE := below_end hbJ hbJ.size w.heap.size (w.heap.size + 1) 1 0 1 (.int .i64 e2) (.slice A n c) (.int .i64 e2) (.cells #[.slice A7 n7 c7, .int .i64 e2] 59) (.cells #[] 5) (Nat.le_refl _) (Nat.le_succ _)
      exact ⟨_, _, _, _, _, _, rfl, rfl, Lies.nil, HL, hnc, hLs.below (hbE.mono hB), hbE⟩
  · skip
    go_enter Try.func51, Try.ntmps51
    go_wp2_with (go_at_call 23; refine (HN.out _ hbd).mono ?_; intro e w7 ho; obtain ⟨A7, n7, c7, rfl, hn7, hc7, hL7, hb7, _⟩ := ho; obtain ⟨p0, p1, r0, r1, f0, f1, f2, f3, s1, s2, hbJ⟩ := inner_facts hb7)
    go_region
    all_goals
      go_wp2
      obtain ⟨X0, X1⟩ := end_cells (i := 1) (u1 := .int .i64 e2) (u2 := .slice A n c) (u3 := .int .i64 e2) (o1 := .cells #[.slice A7 n7 c7, .int .i64 e2] 59) (o2 := .cells #[] 5) (two_blocks' hb7).2.1 s2
      refine bodyPost_ret (v := .tuple #[.slice (some ⟨w7.heap.size + 1, 0, none⟩) 0 0, .agg #[.slice A n c, .int .i64 e2]]) (by simp [results, Try.results51, go_sem, X0, X1]) rfl ?_
      have hbE := below_end hbJ hbJ.size w.heap.size (w.heap.size + 1) 1 0 1 (.int .i64 e2) (.slice A n c) (.int .i64 e2) (.cells #[.slice A7 n7 c7, .int .i64 e2] 59) (.cells #[] 5) (Nat.le_refl _) (Nat.le_succ _)
      exact ⟨_, _, _, _, _, _, rfl, rfl, Lies.nil, HL, hnc, hLs.below (hbE.mono hB), hbE⟩

set_option maxRecDepth 100000 in
set_option maxHeartbeats 800000 in
theorem refRRow_long (A : Option Addr) (B n c er : Nat) (most : Int) (l : List UInt8) (w : World) (m : Nat) (l2 : List UInt8) (hl : l.length = n) (hnc : n ≤ c) (hLs : Lies w B A (bvs l)) (hB : B ≤ w.heap.size) (hn : n ≤ 1000000)
    (hrn : rnum l er top = (m, l2, 0)) (hm : most.toNat < m) (hmost : most ≤ 9223372036854775807) :
    Calls Try.prog 51 #[.agg #[.slice A n c, .int .i64 er], .int .i64 most] w (RRow w B [] l 4) := by
  have HL := Lib.hid hl
  have HN : Hid (∀ W : World, Below w.heap.size w W → Calls Try.prog 23 #[.agg #[.slice A n c, .int .i64 er], .int .u64 18446744073709551615] W (RNum W B m l2 0)) := by
    intro W hW
    have := refRNum_any A B n c er top l W hl hnc (hLs.below (hW.mono hB)) (Nat.le_trans hB hW.size) hn
    rw [hrn] at this
    exact this
  have hbd := ((Below.refl w.heap.size w).alloc (Nat.le_refl _) (.cells #[.slice A n c, .int .i64 er] 59)).alloc (by simp) (.cells #[.slice none 0 0, .int .i64 0] 59)
  clear hl hrn
  by_cases hm0 : most < 0
  · have hm2 : 0 < m := by omega
    clear hm
    go_enter Try.func51, Try.ntmps51
    go_wp2_with (go_at_call 23; refine (HN.out _ hbd).mono ?_; intro e w7 ho; obtain ⟨A7, n7, c7, rfl, hn7, hc7, hL7, hb7, _⟩ := ho; obtain ⟨p0, p1, r0, r1, f0, f1, f2, f3, s1, s2, hbJ⟩ := inner_facts hb7)
    go_region
    all_goals
      go_wp2
      obtain ⟨X0, X1⟩ := end_cells (i := 1) (u1 := .int .i64 4) (u2 := .slice A n c) (u3 := .int .i64 4) (o1 := .cells #[.slice A7 n7 c7, .int .i64 4] 59) (o2 := .cells #[] 5) (two_blocks' hb7).2.1 s2
      refine bodyPost_ret (v := .tuple #[.slice (some ⟨w7.heap.size + 1, 0, none⟩) 0 0, .agg #[.slice A n c, .int .i64 4]]) (by simp [results, Try.results51, go_sem, X0, X1]) rfl ?_
      have hbE := below_end hbJ hbJ.size w.heap.size (w.heap.size + 1) 1 0 1 (.int .i64 4) (.slice A n c) (.int .i64 4) (.cells #[.slice A7 n7 c7, .int .i64 4] 59) (.cells #[] 5) (Nat.le_refl _) (Nat.le_succ _)
      exact ⟨_, _, _, _, _, _, rfl, rfl, Lies.nil, HL, hnc, hLs.below (hbE.mono hB), hbE⟩
  · have hm2 : most < (m : Int) := by omega
    clear hm
    go_enter Try.func51, Try.ntmps51
    go_wp2_with (go_at_call 23; refine (HN.out _ hbd).mono ?_; intro e w7 ho; obtain ⟨A7, n7, c7, rfl, hn7, hc7, hL7, hb7, _⟩ := ho; obtain ⟨p0, p1, r0, r1, f0, f1, f2, f3, s1, s2, hbJ⟩ := inner_facts hb7)
    go_region
    all_goals
      go_wp2
      obtain ⟨X0, X1⟩ := end_cells (i := 1) (u1 := .int .i64 4) (u2 := .slice A n c) (u3 := .int .i64 4) (o1 := .cells #[.slice A7 n7 c7, .int .i64 4] 59) (o2 := .cells #[] 5) (two_blocks' hb7).2.1 s2
      refine bodyPost_ret (v := .tuple #[.slice (some ⟨w7.heap.size + 1, 0, none⟩) 0 0, .agg #[.slice A n c, .int .i64 4]]) (by simp [results, Try.results51, go_sem, X0, X1]) rfl ?_
      have hbE := below_end hbJ hbJ.size w.heap.size (w.heap.size + 1) 1 0 1 (.int .i64 4) (.slice A n c) (.int .i64 4) (.cells #[.slice A7 n7 c7, .int .i64 4] 59) (.cells #[] 5) (Nat.le_refl _) (Nat.le_succ _)
      exact ⟨_, _, _, _, _, _, rfl, rfl, Lies.nil, HL, hnc, hLs.below (hbE.mono hB), hbE⟩

set_option maxRecDepth 100000 in
set_option maxHeartbeats 800000 in
theorem refRRow_short (A : Option Addr) (B n c er : Nat) (most : Int) (l : List UInt8) (w : World) (m : Nat) (l2 : List UInt8) (hl : l.length = n) (hnc : n ≤ c) (hLs : Lies w B A (bvs l)) (hB : B ≤ w.heap.size) (hn : n ≤ 1000000)
    (hrn : rnum l er top = (m, l2, 0)) (hm : ¬ most.toNat < m) (hmost : most ≤ 9223372036854775807) (hsh : l2.length < m) :
    Calls Try.prog 51 #[.agg #[.slice A n c, .int .i64 er], .int .i64 most] w (RRow w B [] l 2) := by
  have HL := Lib.hid hl
  have HN : Hid (∀ W : World, Below w.heap.size w W → Calls Try.prog 23 #[.agg #[.slice A n c, .int .i64 er], .int .u64 18446744073709551615] W (RNum W B m l2 0)) := by
    intro W hW
    have := refRNum_any A B n c er top l W hl hnc (hLs.below (hW.mono hB)) (Nat.le_trans hB hW.size) hn
    rw [hrn] at this
    exact this
  have hbd := ((Below.refl w.heap.size w).alloc (Nat.le_refl _) (.cells #[.slice A n c, .int .i64 er] 59)).alloc (by simp) (.cells #[.slice none 0 0, .int .i64 0] 59)
  clear hl hrn
  by_cases hm0 : most < 0
  · exfalso; omega
  · have hm2 : ¬ most < (m : Int) := by omega
    clear hm
    go_enter Try.func51, Try.ntmps51
    go_wp2_with (go_at_call 23; refine (HN.out _ hbd).mono ?_; intro e w7 ho; obtain ⟨A7, n7, c7, rfl, hn7, hc7, hL7, hb7, _⟩ := ho; obtain ⟨p0, p1, r0, r1, f0, f1, f2, f3, s1, s2, hbJ⟩ := inner_facts hb7; have hsh2 : n7 < m := by rw [← hn7.out]; exact hsh)
    go_region
    all_goals
      go_wp2
      obtain ⟨X0, X1⟩ := end_cells (i := 1) (u1 := .int .i64 2) (u2 := .slice A n c) (u3 := .int .i64 2) (o1 := .cells #[.slice A7 n7 c7, .int .i64 2] 59) (o2 := .cells #[] 5) (two_blocks' hb7).2.1 s2
      refine bodyPost_ret (v := .tuple #[.slice (some ⟨w7.heap.size + 1, 0, none⟩) 0 0, .agg #[.slice A n c, .int .i64 2]]) (by simp [results, Try.results51, go_sem, X0, X1]) rfl ?_
      have hbE := below_end hbJ hbJ.size w.heap.size (w.heap.size + 1) 1 0 1 (.int .i64 2) (.slice A n c) (.int .i64 2) (.cells #[.slice A7 n7 c7, .int .i64 2] 59) (.cells #[] 5) (Nat.le_refl _) (Nat.le_succ _)
      exact ⟨_, _, _, _, _, _, rfl, rfl, Lies.nil, HL, hnc, hLs.below (hbE.mono hB), hbE⟩

theorem lies_take8 {w : World} {B : Nat} {A : Option Addr} {l : List UInt8} (m : Nat) (h : Lies w B A (bvs l)) : Lies w B A (bvs (l.take m)) :=
  lies_front (t := l.drop m) (by rw [List.take_append_drop]; exact h)

theorem len_ge {l2 : List UInt8} {n7 m : Nat} (hn : Hid (l2.length = n7)) (h : ¬ l2.length < m) : ¬ n7 < m := by have := hn.out; omega

theorem len_le {l2 : List UInt8} {n7 m : Nat} (hn : Hid (l2.length = n7)) (h : l2.length ≤ m) : n7 ≤ m := by have := hn.out; omega

theorem below_end2 {w w7 : World} {B : Nat} (hb : Below B w w7) (hs : B ≤ w7.heap.size) (g2 i2 i3 : Nat) (u2 u3 : Value) (o1 : Obj) (h2 : B ≤ g2) :
    Below B w (((w7.setCell ⟨g2, i2, none⟩ u2).setCell ⟨g2, i3, none⟩ u3).alloc o1).drew := by
  refine (((hb.setCell (p := ⟨g2, i2, none⟩) h2 u2).setCell (p := ⟨g2, i3, none⟩) h2 u3).alloc ?_ o1).drew
  rw [size_setCell, size_setCell]; exact hs

theorem end_cells2 {w7 : World} {g T : Nat} {u v u2 u3 : Value} {o1 : Obj} (h : w7.heap[g + 1]? = some (.cells #[u, v] T (0, 0))) (hs : g + 1 < w7.heap.size) :
    (((w7.setCell ⟨g + 1, 0, none⟩ u2).setCell ⟨g + 1, 1, none⟩ u3).alloc o1).cell? ⟨g + 1, 0, none⟩ = some u2 ∧
    (((w7.setCell ⟨g + 1, 0, none⟩ u2).setCell ⟨g + 1, 1, none⟩ u3).alloc o1).cell? ⟨g + 1, 1, none⟩ = some u3 := by
  have h2 := heap_setCell_row h 0 u2
  have h3 := heap_setCell_row h2 1 u3
  have h4 : (((w7.setCell ⟨g + 1, 0, none⟩ u2).setCell ⟨g + 1, 1, none⟩ u3).alloc o1).heap[g + 1]? = some (.cells #[u2, u3] T (0, 0)) := by
    rw [Below.heap_alloc _ _ _ (by simp only [size_setCell]; omega), h3]
    rfl
  exact ⟨cell_of_row _ _ 0 _ _ _ h4, cell_of_row _ _ 1 _ _ _ h4⟩

/-- From the world of the inner call to the end nothing below B turns. -/
theorem end_below {w w7 : World} {B : Nat} {g2 i2 i3 : Nat} {u2 u3 : Value} {o1 : Obj} (hB : B ≤ w.heap.size) (h2 : w.heap.size ≤ g2) (hs : w.heap.size ≤ w7.heap.size) :
    Below B w7 (((w7.setCell ⟨g2, i2, none⟩ u2).setCell ⟨g2, i3, none⟩ u3).alloc o1).drew := by
  refine ((((Below.refl B w7).setCell (p := ⟨g2, i2, none⟩) (Nat.le_trans hB h2) u2).setCell (p := ⟨g2, i3, none⟩) (Nat.le_trans hB h2) u3).alloc ?_ o1).drew
  rw [size_setCell, size_setCell]; omega

theorem row_end {w w7 wE : World} {B m n7 c7 cE : Nat} {A A' : Option Addr} {l2 : List UInt8} (hn7 : Hid (l2.length = n7)) (hsh : ¬ l2.length < m) (hL : Lies w7 B A (bvs l2)) (hcut : Lies w7 B A' (bvs (l2.drop m)))
    (hs : w.heap.size ≤ w7.heap.size) (hE7 : w.heap.size ≤ w7.heap.size → Below B w7 wE) (hE : Below w.heap.size w wE) (hc : n7 - m ≤ cE) :
    RRow w B (l2.take m) (l2.drop m) 0 (.returned (.tuple #[.slice A m c7, .agg #[.slice A' (n7 - m) cE, .int .i64 0]])) wE := by
  refine ⟨A, m, c7, A', n7 - m, cE, rfl, ?_, (lies_take8 m hL).below (hE7 hs), ?_, hc, hcut.below (hE7 hs), hE⟩
  · show (l2.take m).length = m
    simp; omega
  · show (l2.drop m).length = n7 - m
    rw [List.length_drop, hn7.out]

set_option maxRecDepth 100000 in
set_option maxHeartbeats 1600000 in
theorem refRRow_ok (A : Option Addr) (B n c er : Nat) (most : Int) (l : List UInt8) (w : World) (m : Nat) (l2 : List UInt8) (hl : l.length = n) (hnc : n ≤ c) (hLs : Lies w B A (bvs l)) (hB : B ≤ w.heap.size) (hn : n ≤ 1000000)
    (hrn : rnum l er top = (m, l2, 0)) (hm : ¬ most.toNat < m) (hmost : most ≤ 9223372036854775807) (hsh : ¬ l2.length < m) (hl2 : l2.length ≤ 1000000) :
    Calls Try.prog 51 #[.agg #[.slice A n c, .int .i64 er], .int .i64 most] w (RRow w B (l2.take m) (l2.drop m) 0) := by
  have HL := Lib.hid hl
  have HN : Hid (∀ W : World, Below w.heap.size w W → Calls Try.prog 23 #[.agg #[.slice A n c, .int .i64 er], .int .u64 18446744073709551615] W (RNum W B m l2 0)) := by
    intro W hW
    have := refRNum_any A B n c er top l W hl hnc (hLs.below (hW.mono hB)) (Nat.le_trans hB hW.size) hn
    rw [hrn] at this
    exact this
  have hbd := ((Below.refl w.heap.size w).alloc (Nat.le_refl _) (.cells #[.slice A n c, .int .i64 er] 59)).alloc (by simp) (.cells #[.slice none 0 0, .int .i64 0] 59)
  clear hl hrn
  by_cases hm0 : most < 0
  · have hm2 : ¬ 0 < m := by omega
    clear hm
    go_enter Try.func51, Try.ntmps51
    go_wp2_with (go_at_call 23; refine (HN.out _ hbd).mono ?_; intro e w7 ho; obtain ⟨A7, n7, c7, rfl, hn7, hc7, hL7, hb7, hA7⟩ := ho; obtain ⟨b7, off7, rfl⟩ := hA7 rfl; clear hA7; obtain ⟨p0, p1, r0, r1, f0, f1, f2, f3, s1, s2, hbJ⟩ := inner_facts hb7; have hsh2 := len_ge hn7 hsh; have hn7b := len_le hn7 hl2)
    all_goals go_region
    all_goals go_wp2
    · have hck : c7 = m := by omega
      obtain ⟨X0, X1⟩ := end_cells2 (u2 := .slice (some ⟨b7, off7, none⟩) (n7 - m) 0) (u3 := .int .i64 0) (o1 := .cells #[.slice (some ⟨b7, off7, none⟩) (n7 - m) 0, .int .i64 0] 59) (two_blocks' hb7).2.1 s2
      refine bodyPost_ret (v := .tuple #[.slice (some ⟨b7, off7, none⟩) m m, .agg #[.slice (some ⟨b7, off7, none⟩) (n7 - m) 0, .int .i64 0]]) (by simp [results, Try.results51, go_sem, X0, X1]) rfl ?_
      have hbE := below_end2 hbJ hbJ.size (w.heap.size + 1) 0 1 (.slice (some ⟨b7, off7, none⟩) (n7 - m) 0) (.int .i64 0) (.cells #[.slice (some ⟨b7, off7, none⟩) (n7 - m) 0, .int .i64 0] 59) (Nat.le_succ _)
      have hcut := lies_cut (s := m) (c := c7) hL7 (by rw [hn7.out]; exact hc7)
      rw [if_pos hck] at hcut
      exact row_end hn7 hsh hL7 hcut hbJ.size (end_below hB (Nat.le_succ _)) hbE (by omega)
    · obtain ⟨X0, X1⟩ := end_cells2 (u2 := .slice (some ⟨b7, off7 + m, none⟩) (n7 - m) (c7 - m)) (u3 := .int .i64 0) (o1 := .cells #[.slice (some ⟨b7, off7 + m, none⟩) (n7 - m) (c7 - m), .int .i64 0] 59) (two_blocks' hb7).2.1 s2
      refine bodyPost_ret (v := .tuple #[.slice (some ⟨b7, off7, none⟩) m c7, .agg #[.slice (some ⟨b7, off7 + m, none⟩) (n7 - m) (c7 - m), .int .i64 0]]) (by simp [results, Try.results51, go_sem, X0, X1]) rfl ?_
      have hbE := below_end2 hbJ hbJ.size (w.heap.size + 1) 0 1 (.slice (some ⟨b7, off7 + m, none⟩) (n7 - m) (c7 - m)) (.int .i64 0) (.cells #[.slice (some ⟨b7, off7 + m, none⟩) (n7 - m) (c7 - m), .int .i64 0] 59) (Nat.le_succ _)
      have hcut := lies_cut (s := m) (c := c7) hL7 (by rw [hn7.out]; exact hc7)
      rw [if_neg (by omega)] at hcut
      exact row_end hn7 hsh hL7 hcut hbJ.size (end_below hB (Nat.le_succ _)) hbE (by omega)
  · have hm2 : ¬ most < (m : Int) := by omega
    clear hm
    go_enter Try.func51, Try.ntmps51
    go_wp2_with (go_at_call 23; refine (HN.out _ hbd).mono ?_; intro e w7 ho; obtain ⟨A7, n7, c7, rfl, hn7, hc7, hL7, hb7, hA7⟩ := ho; obtain ⟨b7, off7, rfl⟩ := hA7 rfl; clear hA7; obtain ⟨p0, p1, r0, r1, f0, f1, f2, f3, s1, s2, hbJ⟩ := inner_facts hb7; have hsh2 := len_ge hn7 hsh; have hn7b := len_le hn7 hl2)
    all_goals go_region
    all_goals go_wp2
    · have hck : c7 = m := by omega
      obtain ⟨X0, X1⟩ := end_cells2 (u2 := .slice (some ⟨b7, off7, none⟩) (n7 - m) 0) (u3 := .int .i64 0) (o1 := .cells #[.slice (some ⟨b7, off7, none⟩) (n7 - m) 0, .int .i64 0] 59) (two_blocks' hb7).2.1 s2
      refine bodyPost_ret (v := .tuple #[.slice (some ⟨b7, off7, none⟩) m m, .agg #[.slice (some ⟨b7, off7, none⟩) (n7 - m) 0, .int .i64 0]]) (by simp [results, Try.results51, go_sem, X0, X1]) rfl ?_
      have hbE := below_end2 hbJ hbJ.size (w.heap.size + 1) 0 1 (.slice (some ⟨b7, off7, none⟩) (n7 - m) 0) (.int .i64 0) (.cells #[.slice (some ⟨b7, off7, none⟩) (n7 - m) 0, .int .i64 0] 59) (Nat.le_succ _)
      have hcut := lies_cut (s := m) (c := c7) hL7 (by rw [hn7.out]; exact hc7)
      rw [if_pos hck] at hcut
      exact row_end hn7 hsh hL7 hcut hbJ.size (end_below hB (Nat.le_succ _)) hbE (by omega)
    · obtain ⟨X0, X1⟩ := end_cells2 (u2 := .slice (some ⟨b7, off7 + m, none⟩) (n7 - m) (c7 - m)) (u3 := .int .i64 0) (o1 := .cells #[.slice (some ⟨b7, off7 + m, none⟩) (n7 - m) (c7 - m), .int .i64 0] 59) (two_blocks' hb7).2.1 s2
      refine bodyPost_ret (v := .tuple #[.slice (some ⟨b7, off7, none⟩) m c7, .agg #[.slice (some ⟨b7, off7 + m, none⟩) (n7 - m) (c7 - m), .int .i64 0]]) (by simp [results, Try.results51, go_sem, X0, X1]) rfl ?_
      have hbE := below_end2 hbJ hbJ.size (w.heap.size + 1) 0 1 (.slice (some ⟨b7, off7 + m, none⟩) (n7 - m) (c7 - m)) (.int .i64 0) (.cells #[.slice (some ⟨b7, off7 + m, none⟩) (n7 - m) (c7 - m), .int .i64 0] 59) (Nat.le_succ _)
      have hcut := lies_cut (s := m) (c := c7) hL7 (by rw [hn7.out]; exact hc7)
      rw [if_neg (by omega)] at hcut
      exact row_end hn7 hsh hL7 hcut hbJ.size (end_below hB (Nat.le_succ _)) hbE (by omega)

set_option maxRecDepth 100000 in
theorem refREnd_any (A : Option Addr) (n c er : Nat) (w : World) :
    Calls Try.prog 26 #[.agg #[.slice A n c, .int .i64 er]] w fun e w' => e = .returned (.int .i64 (endOf er n)) ∧ Below w.heap.size w w' := by
  have hb : ∀ o : Obj, Below w.heap.size w (w.alloc o) := fun o => (Below.refl _ _).alloc (Nat.le_refl _) o
  by_cases her : er = 0
  · subst her
    by_cases hn : 0 < n
    · go_enter Try.func26, Try.ntmps26
      go_wp2
      go_ret
      exact ⟨by simp [endOf, hn], hb _⟩
    · go_enter Try.func26, Try.ntmps26
      go_wp2
      go_ret
      exact ⟨by simp [endOf, hn], hb _⟩
  · have h2 : ((er : Int) == 0) = false := by simp; omega
    go_enter Try.func26, Try.ntmps26
    go_wp2
    go_ret
    exact ⟨by simp [endOf, her], hb _⟩

theorem rnum_left (l : List UInt8) (er most : Nat) : (rnum l er most).2.1.length ≤ l.length := by
  unfold rnum
  split
  · exact Nat.le_refl _
  · split
    · exact Nat.le_refl _
    · simp

theorem refRRow_any (A : Option Addr) (B n c er : Nat) (most : Int) (l : List UInt8) (w : World) (hl : l.length = n) (hnc : n ≤ c) (hLs : Lies w B A (bvs l)) (hB : B ≤ w.heap.size) (hn : n ≤ 1000000) (hmost : most ≤ 9223372036854775807) :
    Calls Try.prog 51 #[.agg #[.slice A n c, .int .i64 er], .int .i64 most] w (RRow w B (rowOf l er most).1 (rowOf l er most).2.1 (rowOf l er most).2.2) := by
  rcases hrn : rnum l er top with ⟨m, l2, e2⟩
  by_cases he2 : e2 = 0
  · subst he2
    have her : er = 0 := by
      rcases Nat.eq_zero_or_pos er with h | h
      · exact h
      · have : er ≠ 0 := by omega
        simp [rnum, this] at hrn
    subst her
    have h0 : (rd l top).2.2 = 0 := by
      rcases Nat.eq_zero_or_pos (rd l top).2.2 with h | h
      · exact h
      · have : (rd l top).2.2 ≠ 0 := by omega
        simp [rnum, this] at hrn
    have hm' : m = (rd l top).1 ∧ l2 = l.drop (rd l top).2.1 := by
      simp [rnum, h0] at hrn
      exact ⟨hrn.1.symm, hrn.2.symm⟩
    obtain ⟨hm1, hm2⟩ := hm'
    have hl2 : l2.length = l.length - (rd l top).2.1 := by rw [hm2, List.length_drop]
    by_cases hm : most.toNat < m
    · have e : rowOf l 0 most = ([], l, 4) := by
        have : rrow l most = ([], 0, 4) := by unfold rrow; rw [h0, ← hm1]; simp [hm]
        simp [rowOf, this]
      rw [e]
      exact refRRow_long A B n c 0 most l w m l2 hl hnc hLs hB hn hrn hm hmost
    · by_cases hsh : l2.length < m
      · have e : rowOf l 0 most = ([], l, 2) := by
          have : rrow l most = ([], 0, 2) := by
            unfold rrow; rw [h0, ← hm1]
            simp only [ne_eq, not_true_eq_false, if_false]
            rw [if_neg hm, if_pos (by omega)]
          simp [rowOf, this]
        rw [e]
        exact refRRow_short A B n c 0 most l w m l2 hl hnc hLs hB hn hrn hm hmost hsh
      · have e : rowOf l 0 most = (l2.take m, l2.drop m, 0) := by
          have : rrow l most = (l2.take m, (rd l top).2.1 + m, 0) := by
            unfold rrow; rw [h0, ← hm1]
            simp only [ne_eq, not_true_eq_false, if_false]
            rw [if_neg hm, if_neg (by omega), hm2]
          simp only [rowOf, this, ne_eq, not_true_eq_false, if_false]
          rw [hm2, List.drop_drop]
        rw [e]
        have hle := rnum_left l 0 top
        rw [hrn] at hle
        exact refRRow_ok A B n c 0 most l w m l2 hl hnc hLs hB hn hrn hm hmost hsh (by simp only at hle; omega)
  · have e : rowOf l er most = ([], l, e2) := by
      by_cases her : er = 0
      · subst her
        have h0 : (rd l top).2.2 = e2 := by
          by_cases h : (rd l top).2.2 = 0
          · simp [rnum, h] at hrn; exact absurd hrn.2.2.symm he2
          · simp [rnum, h] at hrn; exact hrn.2.2
        have : rrow l most = ([], 0, e2) := by unfold rrow; rw [h0]; simp [he2]
        simp [rowOf, this, he2]
      · have h1 : rnum l er top = (0, l, er) := by simp [rnum, her]
        rw [h1] at hrn
        injection hrn with _ h2
        injection h2 with _ h3
        subst h3
        simp [rowOf, her]
    rw [e]
    exact refRRow_bad A B n c er most l w m e2 l2 hl hnc hLs hB hn hrn (by omega)

end Go.Proofs.Ytbfjfidodpgohaa

/- Words for layer 6: a frame as plain data, its cells in memory, and who is shown its fields. -/
namespace Go.Proofs.Ytbfjfidodpgohaa
open Go.RowKit Go.Sort

/-- Blocks among D alone have turned; new ones may be there. -/
structure OnlyE (w w' : World) (D : Nat → Prop) : Prop where
  size : w.heap.size ≤ w'.heap.size
  same : ∀ k, k < w.heap.size → ¬ D k → w'.heap[k]? = w.heap[k]?
  base : Below 0 w w'

theorem OnlyE.trans {a b c : World} {D : Nat → Prop} (h : OnlyE a b D) (k : OnlyE b c D) : OnlyE a c D :=
  ⟨Nat.le_trans h.1 k.1, fun i hi hn => (k.2 i (Nat.lt_of_lt_of_le hi h.1) hn).trans (h.2 i hi hn), h.3.trans k.3⟩
theorem OnlyE.of_below {a b : World} {D : Nat → Prop} (h : Below a.heap.size a b) : OnlyE a b D := ⟨h.size, fun i hi _ => h.block i hi, h.mono (Nat.zero_le _)⟩
theorem OnlyE.of_grown {a b : World} {D : Nat → Prop} {q : Nat} (h : a.grownBy b (some q)) (hq : D q) : OnlyE a b D :=
  ⟨h.size, fun i hi hn => h.block i hi (by rintro e; injection e with e; subst e; exact hn hq), below_of_grown h (Nat.zero_le _) (Nat.zero_le _)⟩
theorem OnlyE.mono {w w' : World} {D D' : Nat → Prop} (h : OnlyE w w' D) (hD : ∀ k, D k → D' k) : OnlyE w w' D' := ⟨h.1, fun k hk hn => h.2 k hk fun hd => hn (hD k hd), h.3⟩
theorem OnlyE.refl (w : World) (D : Nat → Prop) : OnlyE w w D := ⟨Nat.le_refl _, fun _ _ _ => rfl, Below.refl _ _⟩
theorem onlyE_set {w : World} {D : Nat → Prop} {g : Nat} (hg : D g) (i : Nat) (u : Value) : OnlyE w (w.setCell ⟨g, i, none⟩ u) D := OnlyE.of_grown (grown_setCell w g i u) hg
theorem onlyE_drew (w : World) (D : Nat → Prop) : OnlyE w w.drew D := ⟨Nat.le_refl _, fun _ _ _ => rfl, (Below.refl _ _).drew⟩
theorem OnlyE.below {w w' : World} {D : Nat → Prop} {B : Nat} (h : OnlyE w w' D) (hD : ∀ k, D k → B ≤ k) (hB : B ≤ w.heap.size) : Below B w w' :=
  ⟨h.3.os, h.3.tape, h.3.output, h.1, fun k hk => h.2 k (by omega) fun hd => by have := hD k hd; omega⟩

/-- A frame. -/
structure Fr where
  kind : Nat
  src : Nat
  dst : Nat
  id : Id
  seq : Nat
  at_ : Nat
  of_ : Nat
  size : Nat
  inst : Nat
  rnd : Nat
  est : List Rn
  aux : List Rn
  done : List Nat
  held : List Nat
  data : List UInt8

def zeroId : Id := ⟨0, 0, by decide, by decide⟩
def Fr.zero : Fr := ⟨0, 0, 0, zeroId, 0, 0, 0, 0, 0, 0, [], [], [], [], []⟩

/-- Its numbers are numbers of their kinds, and its lists are no longer than is gone through. -/
structure Fr.Ok (F : Fr) : Prop where
  kind : F.kind < 256
  src : F.src < 256
  dst : F.dst < 256
  seq : F.seq < 18446744073709551616
  at_ : F.at_ < 4294967296
  of_ : F.of_ < 4294967296
  size : F.size < 4294967296
  inst : F.inst < 18446744073709551616
  rnd : F.rnd < 18446744073709551616
  est : F.est.length ≤ 100
  aux : F.aux.length ≤ 100
  done : F.done.length ≤ 100
  held : F.held.length ≤ 100
  data : F.data.length ≤ 4000
  doneN : ∀ x ∈ F.done, x < 18446744073709551616
  heldN : ∀ x ∈ F.held, x < 18446744073709551616

/-- Its cells: the five slices are given as they are. -/
def frCells (F : Fr) (ve vx vn vh vd : Value) : Array Value :=
  #[.int .u8 (F.kind : Int), .int .u8 (F.src : Int), .int .u8 (F.dst : Int), .int .u8 (F.id.f : Int), .int .u64 (F.id.s : Int), .int .u64 (F.seq : Int), .int .u32 (F.at_ : Int), .int .u32 (F.of_ : Int), .int .u32 (F.size : Int),
    .int .u64 (F.inst : Int), .int .u64 (F.rnd : Int), ve, vx, vn, vh, vd]

/-- A slice of n elements that reads as these cells, in a block that is not among D. -/
def SlA (w : World) (D : Nat → Prop) (A : Option Addr) (n c : Nat) (xs : List Value) : Prop :=
  n ≤ c ∧ c ≤ maxLen ∧ (xs ≠ [] → ∃ b off, A = some ⟨b, off, none⟩ ∧ b < w.heap.size ∧ ¬ D b ∧ ∀ i u, xs[i]? = some u → w.cell? ⟨b, off + i, none⟩ = some u)

def Sl (w : World) (D : Nat → Prop) (v : Value) (n : Nat) (xs : List Value) : Prop := ∃ A c, v = .slice A n c ∧ SlA w D A n c xs

theorem SlA.lies {w : World} {D : Nat → Prop} {A : Option Addr} {n c : Nat} {xs : List Value} (h : SlA w D A n c xs) : Lies w w.heap.size A xs := fun hn => by
  obtain ⟨b, off, e, hb, _, hc⟩ := h.2.2 hn
  exact ⟨b, off, e, hb, hc⟩

theorem Sl.kept {w w' : World} {D : Nat → Prop} {v : Value} {n : Nat} {xs : List Value} (h : Sl w D v n xs) (ho : OnlyE w w' D) : Sl w' D v n xs := by
  obtain ⟨A, c, e, h1, h2, h3⟩ := h
  refine ⟨A, c, e, h1, h2, fun hn => ?_⟩
  obtain ⟨b, off, e2, hb, hd, hc⟩ := h3 hn
  refine ⟨b, off, e2, Nat.lt_of_lt_of_le hb ho.1, hd, fun i u hu => ?_⟩
  rw [World.cell?_of_block (w := w) (ho.2 b hb hd)]
  exact hc i u hu

theorem Sl.nil {w : World} {D : Nat → Prop} : Sl w D (.slice none 0 0) 0 [] := ⟨none, 0, rfl, Nat.le_refl _, by unfold maxLen; omega, fun h => absurd rfl h⟩

/-- Block g is this frame, its five slices lie in blocks that are not among D. -/
def FrIn (w : World) (D : Nat → Prop) (g : Nat) (F : Fr) : Prop :=
  ∃ ve vx vn vh vd, w.heap[g]? = some (.cells (frCells F ve vx vn vh vd) 33 (0, 0)) ∧ Sl w D ve F.est.length (flat encRn F.est) ∧ Sl w D vx F.aux.length (flat encRn F.aux) ∧
    Sl w D vn F.done.length (uvs F.done) ∧ Sl w D vh F.held.length (uvs F.held) ∧ Sl w D vd F.data.length (bvs F.data)

/-- What is done with each field: it answers what the field is from then on. -/
structure Vis (σ : Type) where
  number : Nat → σ → Nat × σ
  word : Nat → σ → Nat × σ
  id : Id → σ → Id × σ
  runs : List Rn → σ → List Rn × σ
  vector : List Nat → σ → List Nat × σ
  data : List UInt8 → σ → List UInt8 × σ

end Go.Proofs.Ytbfjfidodpgohaa

/- A frame's fields, one behind the other, shown to whoever is shown them: what is said of whoever is shown them, and a step for each field. -/
namespace Go.Proofs.Ytbfjfidodpgohaa
open Go.RowKit Go.Sort

/-- The functions that are called for the fields. -/
structure VisFns where
  num : FuncId
  wrd : FuncId
  idf : FuncId
  rns : FuncId
  vec : FuncId
  dat : FuncId

/-- The method of this name, of a value of this type, is that function. -/
def Meth (T : TypeId) (x : Value) (name : String) (k : FuncId) : Prop :=
  (∀ w, (nilAhead 252 T x name).run Try.prog w = .ok (some false) w) ∧ (∀ w, (method 252 T x name).run Try.prog w = .ok (k, x) w) ∧ ∀ args w, (callFunc k args).run Try.prog w = .ok (.enter k args) w

/-- Whoever is shown the fields: what each call answers, what it turns (blocks among Dv). -/
structure VisAt {σ : Type} (V : Vis σ) (f : VisFns) (T : TypeId) (x : Value) (D Dv : Nat → Prop) (g : Nat) (Inv : Nat → σ → World → Prop) : Prop where
  mNum : Meth T x "unison/wire.number" f.num
  mWrd : Meth T x "unison/wire.word" f.wrd
  mId : Meth T x "unison/wire.id" f.idf
  mRns : Meth T x "unison/wire.runs" f.rns
  mVec : Meth T x "unison/wire.vector" f.vec
  mDat : Meth T x "unison/wire.data" f.dat
  sub : ∀ k, Dv k → D k
  own : D g ∧ ¬ Dv g
  set : ∀ k s w i u, g < w.heap.size → Inv k s w → Inv k s (w.setCell ⟨g, i, none⟩ u)
  drew : ∀ k s w, Inv k s w → Inv k s w.drew
  number : ∀ k s w (n : Nat), n < 18446744073709551616 → Inv (k + 1) s w → Calls Try.prog f.num #[x, .int .u64 (n : Int)] w fun e w' => e = .returned (.int .u64 ((V.number n s).1 : Int)) ∧ (V.number n s).1 < 18446744073709551616 ∧ Inv k (V.number n s).2 w' ∧ OnlyE w w' Dv
  word : ∀ k s w (n : Nat), n < 4294967296 → Inv (k + 1) s w → Calls Try.prog f.wrd #[x, .int .u32 (n : Int)] w fun e w' => e = .returned (.int .u32 ((V.word n s).1 : Int)) ∧ (V.word n s).1 < 4294967296 ∧ Inv k (V.word n s).2 w' ∧ OnlyE w w' Dv
  id : ∀ k s w (y : Id), Inv (k + 1) s w → Calls Try.prog f.idf #[x, .agg #[.int .u8 (y.f : Int), .int .u64 (y.s : Int)]] w fun e w' => e = .returned (.agg #[.int .u8 ((V.id y s).1.f : Int), .int .u64 ((V.id y s).1.s : Int)]) ∧ Inv k (V.id y s).2 w' ∧ OnlyE w w' Dv
  runs : ∀ k s w A c (l : List Rn), l.length ≤ 100 → SlA w D A l.length c (flat encRn l) → Inv (k + 1) s w → Calls Try.prog f.rns #[x, .slice A l.length c] w fun e w' => ∃ A' c', e = .returned (.slice A' (V.runs l s).1.length c') ∧ SlA w' D A' (V.runs l s).1.length c' (flat encRn (V.runs l s).1) ∧ (V.runs l s).1.length ≤ 100 ∧ Inv k (V.runs l s).2 w' ∧ OnlyE w w' Dv
  vector : ∀ k s w A c (l : List Nat), l.length ≤ 100 → (∀ y ∈ l, y < 18446744073709551616) → SlA w D A l.length c (uvs l) → Inv (k + 1) s w → Calls Try.prog f.vec #[x, .slice A l.length c] w fun e w' => ∃ A' c', e = .returned (.slice A' (V.vector l s).1.length c') ∧ SlA w' D A' (V.vector l s).1.length c' (uvs (V.vector l s).1) ∧ ((V.vector l s).1.length ≤ 100 ∧ ∀ y ∈ (V.vector l s).1, y < 18446744073709551616) ∧ Inv k (V.vector l s).2 w' ∧ OnlyE w w' Dv
  data : ∀ k s w A c (l : List UInt8), l.length ≤ 4000 → SlA w D A l.length c (bvs l) → Inv (k + 1) s w → Calls Try.prog f.dat #[x, .slice A l.length c] w fun e w' => ∃ A' c', e = .returned (.slice A' (V.data l s).1.length c') ∧ SlA w' D A' (V.data l s).1.length c' (bvs (V.data l s).1) ∧ (V.data l s).1.length ≤ 4000 ∧ Inv k (V.data l s).2 w' ∧ OnlyE w w' Dv

theorem FrIn.call {w w' : World} {D Dv : Nat → Prop} {g : Nat} {F : Fr} (h : FrIn w D g F) (ho : OnlyE w w' Dv) (hs : ∀ k, Dv k → D k) (hg : ¬ Dv g) : FrIn w' D g F := by
  obtain ⟨ve, vx, vn, vh, vd, hb, h1, h2, h3, h4, h5⟩ := h
  have ho' := ho.mono hs
  refine ⟨ve, vx, vn, vh, vd, (ho.2 g (Array.getElem?_eq_some_iff.1 hb).1 hg).trans hb, h1.kept ho', h2.kept ho', h3.kept ho', h4.kept ho', h5.kept ho'⟩

theorem FrIn.frz {w : World} {D : Nat → Prop} {g : Nat} {F : Fr} (h : FrIn w D g F) (i : Nat) : w.frozen? ⟨g, i, none⟩ = false := by
  obtain ⟨ve, vx, vn, vh, vd, hb, _⟩ := h
  exact row_frozen hb i

theorem FrIn.lt {w : World} {D : Nat → Prop} {g : Nat} {F : Fr} (h : FrIn w D g F) : g < w.heap.size := by
  obtain ⟨ve, vx, vn, vh, vd, hb, _⟩ := h
  exact (Array.getElem?_eq_some_iff.1 hb).1

theorem FrIn.has {w : World} {D : Nat → Prop} {g : Nat} {F : Fr} (h : FrIn w D g F) (i : Nat) (hi : i < 16) : ∃ u, w.cell? ⟨g, i, none⟩ = some u := by
  obtain ⟨ve, vx, vn, vh, vd, hb, _⟩ := h
  exact ⟨_, cell_of_row w g i _ _ _ (by rw [hb]) |>.trans (Array.getElem?_eq_getElem (by simpa [frCells] using hi))⟩

theorem FrIn.put {w : World} {D : Nat → Prop} {g : Nat} {F F' : Fr} (hg : D g) (h : FrIn w D g F) (i : Nat) (u : Value) (hc : ∀ ve vx vn vh vd, (frCells F ve vx vn vh vd).setIfInBounds i u = frCells F' ve vx vn vh vd)
    (e1 : F'.est = F.est) (e2 : F'.aux = F.aux) (e3 : F'.done = F.done) (e4 : F'.held = F.held) (e5 : F'.data = F.data) : FrIn (w.setCell ⟨g, i, none⟩ u) D g F' := by
  obtain ⟨ve, vx, vn, vh, vd, hb, h1, h2, h3, h4, h5⟩ := h
  have ho := onlyE_set (w := w) hg i u
  refine ⟨ve, vx, vn, vh, vd, ?_, ?_, ?_, ?_, ?_, ?_⟩
  · rw [heap_setCell_row hb, hc]
  · rw [e1]; exact h1.kept ho
  · rw [e2]; exact h2.kept ho
  · rw [e3]; exact h3.kept ho
  · rw [e4]; exact h4.kept ho
  · rw [e5]; exact h5.kept ho

theorem FrIn.put_est {w : World} {D : Nat → Prop} {g : Nat} {F : Fr} (hg : D g) (h : FrIn w D g F) (z : Value) (l : List Rn) (hz : Sl w D z l.length (flat encRn l)) : FrIn (w.setCell ⟨g, 11, none⟩ z) D g { F with est := l } := by
  obtain ⟨ve, vx, vn, vh, vd, hb, h1, h2, h3, h4, h5⟩ := h
  have ho := onlyE_set (w := w) hg 11 z
  refine ⟨z, vx, vn, vh, vd, ?_, hz.kept ho, h2.kept ho, h3.kept ho, h4.kept ho, h5.kept ho⟩
  rw [heap_setCell_row hb]
  rfl

theorem FrIn.put_aux {w : World} {D : Nat → Prop} {g : Nat} {F : Fr} (hg : D g) (h : FrIn w D g F) (z : Value) (l : List Rn) (hz : Sl w D z l.length (flat encRn l)) : FrIn (w.setCell ⟨g, 12, none⟩ z) D g { F with aux := l } := by
  obtain ⟨ve, vx, vn, vh, vd, hb, h1, h2, h3, h4, h5⟩ := h
  have ho := onlyE_set (w := w) hg 12 z
  refine ⟨ve, z, vn, vh, vd, ?_, h1.kept ho, hz.kept ho, h3.kept ho, h4.kept ho, h5.kept ho⟩
  rw [heap_setCell_row hb]
  rfl

theorem FrIn.put_done {w : World} {D : Nat → Prop} {g : Nat} {F : Fr} (hg : D g) (h : FrIn w D g F) (z : Value) (l : List Nat) (hz : Sl w D z l.length (uvs l)) : FrIn (w.setCell ⟨g, 13, none⟩ z) D g { F with done := l } := by
  obtain ⟨ve, vx, vn, vh, vd, hb, h1, h2, h3, h4, h5⟩ := h
  have ho := onlyE_set (w := w) hg 13 z
  refine ⟨ve, vx, z, vh, vd, ?_, h1.kept ho, h2.kept ho, hz.kept ho, h4.kept ho, h5.kept ho⟩
  rw [heap_setCell_row hb]
  rfl

theorem FrIn.put_held {w : World} {D : Nat → Prop} {g : Nat} {F : Fr} (hg : D g) (h : FrIn w D g F) (z : Value) (l : List Nat) (hz : Sl w D z l.length (uvs l)) : FrIn (w.setCell ⟨g, 14, none⟩ z) D g { F with held := l } := by
  obtain ⟨ve, vx, vn, vh, vd, hb, h1, h2, h3, h4, h5⟩ := h
  have ho := onlyE_set (w := w) hg 14 z
  refine ⟨ve, vx, vn, z, vd, ?_, h1.kept ho, h2.kept ho, h3.kept ho, hz.kept ho, h5.kept ho⟩
  rw [heap_setCell_row hb]
  rfl

theorem FrIn.put_data {w : World} {D : Nat → Prop} {g : Nat} {F : Fr} (hg : D g) (h : FrIn w D g F) (z : Value) (l : List UInt8) (hz : Sl w D z l.length (bvs l)) : FrIn (w.setCell ⟨g, 15, none⟩ z) D g { F with data := l } := by
  obtain ⟨ve, vx, vn, vh, vd, hb, h1, h2, h3, h4, h5⟩ := h
  have ho := onlyE_set (w := w) hg 15 z
  refine ⟨ve, vx, vn, vh, z, ?_, h1.kept ho, h2.kept ho, h3.kept ho, h4.kept ho, hz.kept ho⟩
  rw [heap_setCell_row hb]
  rfl

section
variable {σ : Type}

def vSeq (V : Vis σ) (p : Fr × σ) : Fr × σ := ({ p.1 with seq := (V.number p.1.seq p.2).1 }, (V.number p.1.seq p.2).2)
def vInst (V : Vis σ) (p : Fr × σ) : Fr × σ := ({ p.1 with inst := (V.number p.1.inst p.2).1 }, (V.number p.1.inst p.2).2)
def vRnd (V : Vis σ) (p : Fr × σ) : Fr × σ := ({ p.1 with rnd := (V.number p.1.rnd p.2).1 }, (V.number p.1.rnd p.2).2)
def vAt (V : Vis σ) (p : Fr × σ) : Fr × σ := ({ p.1 with at_ := (V.word p.1.at_ p.2).1 }, (V.word p.1.at_ p.2).2)
def vOf (V : Vis σ) (p : Fr × σ) : Fr × σ := ({ p.1 with of_ := (V.word p.1.of_ p.2).1 }, (V.word p.1.of_ p.2).2)
def vSize (V : Vis σ) (p : Fr × σ) : Fr × σ := ({ p.1 with size := (V.word p.1.size p.2).1 }, (V.word p.1.size p.2).2)
def vId (V : Vis σ) (p : Fr × σ) : Fr × σ := ({ p.1 with id := (V.id p.1.id p.2).1 }, (V.id p.1.id p.2).2)
def vEst (V : Vis σ) (p : Fr × σ) : Fr × σ := ({ p.1 with est := (V.runs p.1.est p.2).1 }, (V.runs p.1.est p.2).2)
def vAux (V : Vis σ) (p : Fr × σ) : Fr × σ := ({ p.1 with aux := (V.runs p.1.aux p.2).1 }, (V.runs p.1.aux p.2).2)
def vDone (V : Vis σ) (p : Fr × σ) : Fr × σ := ({ p.1 with done := (V.vector p.1.done p.2).1 }, (V.vector p.1.done p.2).2)
def vHeld (V : Vis σ) (p : Fr × σ) : Fr × σ := ({ p.1 with held := (V.vector p.1.held p.2).1 }, (V.vector p.1.held p.2).2)
def vData (V : Vis σ) (p : Fr × σ) : Fr × σ := ({ p.1 with data := (V.data p.1.data p.2).1 }, (V.data p.1.data p.2).2)

def vChunk (V : Vis σ) (p : Fr × σ) : Fr × σ := vData V (vSize V (vOf V (vAt V (vId V p))))
def vAll (V : Vis σ) (p : Fr × σ) : Fr × σ :=
  if p.1.kind = 1 then vChunk V (vSeq V p) else if p.1.kind = 2 ∨ p.1.kind = 5 ∨ p.1.kind = 10 then vSeq V p else if p.1.kind = 3 then vAt V (vId V p) else if p.1.kind = 4 then vChunk V p
  else if p.1.kind = 6 then vEst V (vRnd V (vInst V p)) else if p.1.kind = 7 then vAux V (vEst V (vRnd V (vInst V p))) else if p.1.kind = 8 then vEst V (vInst V p) else if p.1.kind = 9 then vHeld V (vDone V (vInst V p)) else p
def isKind (k : Nat) : Bool := decide (1 ≤ k) && decide (k ≤ 10)
end

/-- Where the fields are gone through: the frame as it is by now, and how far whoever is shown them has come. -/
structure St {σ : Type} (D : Nat → Prop) (g : Nat) (Inv : Nat → σ → World → Prop) (w0 : World) (k : Nat) (p : Fr × σ) (w : World) : Prop where
  fr : FrIn w D g p.1
  ok : p.1.Ok
  inv : Inv k p.2 w
  only : OnlyE w0 w D

section
variable {σ : Type} {V : Vis σ} {f : VisFns} {T : TypeId} {x : Value} {D Dv : Nat → Prop} {g : Nat} {Inv : Nat → σ → World → Prop} {w0 w : World} {k : Nat} {p : Fr × σ}

theorem St.drew (h : St D g Inv w0 k p w) (hV : VisAt V f T x D Dv g Inv) : St D g Inv w0 k p w.drew := ⟨h.fr.call (onlyE_drew w Dv) hV.sub hV.own.2, h.ok, hV.drew _ _ _ h.inv, h.only.trans (onlyE_drew w D)⟩

theorem St.cSeq (h : St D g Inv w0 k p w) : w.cell? ⟨g, 5, none⟩ = some (.int .u64 (p.1.seq : Int)) := by
  obtain ⟨ve, vx, vn, vh, vd, hb, _⟩ := h.fr
  exact cell_of_row w g 5 _ _ _ hb
theorem St.sSeq (h : St D g Inv w0 (k + 1) p w) (hV : VisAt V f T x D Dv g Inv) : Calls Try.prog f.num #[x, .int .u64 (p.1.seq : Int)] w fun e w1 => ∃ p', Hid (p' = vSeq V p) ∧ e = .returned (.int .u64 (p'.1.seq : Int)) ∧ (∀ i, w1.frozen? ⟨g, i, none⟩ = false) ∧ (∃ u, w1.cell? ⟨g, 5, none⟩ = some u) ∧ St D g Inv w0 k p' (w1.setCell ⟨g, 5, none⟩ (.int .u64 (p'.1.seq : Int))) := by
  refine (hV.number k p.2 w p.1.seq h.ok.seq h.inv).mono ?_
  rintro e w1 ⟨rfl, hb, hI, hO⟩
  have hF := h.fr.call hO hV.sub hV.own.2
  exact ⟨vSeq V p, rfl, rfl, hF.frz, hF.has 5 (by decide), hF.put hV.own.1 5 _ (fun _ _ _ _ _ => rfl) rfl rfl rfl rfl rfl, { h.ok with seq := hb }, hV.set _ _ _ _ _ hF.lt hI, h.only.trans ((hO.mono hV.sub).trans (onlyE_set hV.own.1 _ _))⟩

theorem St.cInst (h : St D g Inv w0 k p w) : w.cell? ⟨g, 9, none⟩ = some (.int .u64 (p.1.inst : Int)) := by
  obtain ⟨ve, vx, vn, vh, vd, hb, _⟩ := h.fr
  exact cell_of_row w g 9 _ _ _ hb
theorem St.sInst (h : St D g Inv w0 (k + 1) p w) (hV : VisAt V f T x D Dv g Inv) : Calls Try.prog f.num #[x, .int .u64 (p.1.inst : Int)] w fun e w1 => ∃ p', Hid (p' = vInst V p) ∧ e = .returned (.int .u64 (p'.1.inst : Int)) ∧ (∀ i, w1.frozen? ⟨g, i, none⟩ = false) ∧ (∃ u, w1.cell? ⟨g, 9, none⟩ = some u) ∧ St D g Inv w0 k p' (w1.setCell ⟨g, 9, none⟩ (.int .u64 (p'.1.inst : Int))) := by
  refine (hV.number k p.2 w p.1.inst h.ok.inst h.inv).mono ?_
  rintro e w1 ⟨rfl, hb, hI, hO⟩
  have hF := h.fr.call hO hV.sub hV.own.2
  exact ⟨vInst V p, rfl, rfl, hF.frz, hF.has 9 (by decide), hF.put hV.own.1 9 _ (fun _ _ _ _ _ => rfl) rfl rfl rfl rfl rfl, { h.ok with inst := hb }, hV.set _ _ _ _ _ hF.lt hI, h.only.trans ((hO.mono hV.sub).trans (onlyE_set hV.own.1 _ _))⟩

theorem St.cRnd (h : St D g Inv w0 k p w) : w.cell? ⟨g, 10, none⟩ = some (.int .u64 (p.1.rnd : Int)) := by
  obtain ⟨ve, vx, vn, vh, vd, hb, _⟩ := h.fr
  exact cell_of_row w g 10 _ _ _ hb
theorem St.sRnd (h : St D g Inv w0 (k + 1) p w) (hV : VisAt V f T x D Dv g Inv) : Calls Try.prog f.num #[x, .int .u64 (p.1.rnd : Int)] w fun e w1 => ∃ p', Hid (p' = vRnd V p) ∧ e = .returned (.int .u64 (p'.1.rnd : Int)) ∧ (∀ i, w1.frozen? ⟨g, i, none⟩ = false) ∧ (∃ u, w1.cell? ⟨g, 10, none⟩ = some u) ∧ St D g Inv w0 k p' (w1.setCell ⟨g, 10, none⟩ (.int .u64 (p'.1.rnd : Int))) := by
  refine (hV.number k p.2 w p.1.rnd h.ok.rnd h.inv).mono ?_
  rintro e w1 ⟨rfl, hb, hI, hO⟩
  have hF := h.fr.call hO hV.sub hV.own.2
  exact ⟨vRnd V p, rfl, rfl, hF.frz, hF.has 10 (by decide), hF.put hV.own.1 10 _ (fun _ _ _ _ _ => rfl) rfl rfl rfl rfl rfl, { h.ok with rnd := hb }, hV.set _ _ _ _ _ hF.lt hI, h.only.trans ((hO.mono hV.sub).trans (onlyE_set hV.own.1 _ _))⟩

theorem St.cAt (h : St D g Inv w0 k p w) : w.cell? ⟨g, 6, none⟩ = some (.int .u32 (p.1.at_ : Int)) := by
  obtain ⟨ve, vx, vn, vh, vd, hb, _⟩ := h.fr
  exact cell_of_row w g 6 _ _ _ hb
theorem St.sAt (h : St D g Inv w0 (k + 1) p w) (hV : VisAt V f T x D Dv g Inv) : Calls Try.prog f.wrd #[x, .int .u32 (p.1.at_ : Int)] w fun e w1 => ∃ p', Hid (p' = vAt V p) ∧ e = .returned (.int .u32 (p'.1.at_ : Int)) ∧ (∀ i, w1.frozen? ⟨g, i, none⟩ = false) ∧ (∃ u, w1.cell? ⟨g, 6, none⟩ = some u) ∧ St D g Inv w0 k p' (w1.setCell ⟨g, 6, none⟩ (.int .u32 (p'.1.at_ : Int))) := by
  refine (hV.word k p.2 w p.1.at_ h.ok.at_ h.inv).mono ?_
  rintro e w1 ⟨rfl, hb, hI, hO⟩
  have hF := h.fr.call hO hV.sub hV.own.2
  exact ⟨vAt V p, rfl, rfl, hF.frz, hF.has 6 (by decide), hF.put hV.own.1 6 _ (fun _ _ _ _ _ => rfl) rfl rfl rfl rfl rfl, { h.ok with at_ := hb }, hV.set _ _ _ _ _ hF.lt hI, h.only.trans ((hO.mono hV.sub).trans (onlyE_set hV.own.1 _ _))⟩

theorem St.cOf (h : St D g Inv w0 k p w) : w.cell? ⟨g, 7, none⟩ = some (.int .u32 (p.1.of_ : Int)) := by
  obtain ⟨ve, vx, vn, vh, vd, hb, _⟩ := h.fr
  exact cell_of_row w g 7 _ _ _ hb
theorem St.sOf (h : St D g Inv w0 (k + 1) p w) (hV : VisAt V f T x D Dv g Inv) : Calls Try.prog f.wrd #[x, .int .u32 (p.1.of_ : Int)] w fun e w1 => ∃ p', Hid (p' = vOf V p) ∧ e = .returned (.int .u32 (p'.1.of_ : Int)) ∧ (∀ i, w1.frozen? ⟨g, i, none⟩ = false) ∧ (∃ u, w1.cell? ⟨g, 7, none⟩ = some u) ∧ St D g Inv w0 k p' (w1.setCell ⟨g, 7, none⟩ (.int .u32 (p'.1.of_ : Int))) := by
  refine (hV.word k p.2 w p.1.of_ h.ok.of_ h.inv).mono ?_
  rintro e w1 ⟨rfl, hb, hI, hO⟩
  have hF := h.fr.call hO hV.sub hV.own.2
  exact ⟨vOf V p, rfl, rfl, hF.frz, hF.has 7 (by decide), hF.put hV.own.1 7 _ (fun _ _ _ _ _ => rfl) rfl rfl rfl rfl rfl, { h.ok with of_ := hb }, hV.set _ _ _ _ _ hF.lt hI, h.only.trans ((hO.mono hV.sub).trans (onlyE_set hV.own.1 _ _))⟩

theorem St.cSize (h : St D g Inv w0 k p w) : w.cell? ⟨g, 8, none⟩ = some (.int .u32 (p.1.size : Int)) := by
  obtain ⟨ve, vx, vn, vh, vd, hb, _⟩ := h.fr
  exact cell_of_row w g 8 _ _ _ hb
theorem St.sSize (h : St D g Inv w0 (k + 1) p w) (hV : VisAt V f T x D Dv g Inv) : Calls Try.prog f.wrd #[x, .int .u32 (p.1.size : Int)] w fun e w1 => ∃ p', Hid (p' = vSize V p) ∧ e = .returned (.int .u32 (p'.1.size : Int)) ∧ (∀ i, w1.frozen? ⟨g, i, none⟩ = false) ∧ (∃ u, w1.cell? ⟨g, 8, none⟩ = some u) ∧ St D g Inv w0 k p' (w1.setCell ⟨g, 8, none⟩ (.int .u32 (p'.1.size : Int))) := by
  refine (hV.word k p.2 w p.1.size h.ok.size h.inv).mono ?_
  rintro e w1 ⟨rfl, hb, hI, hO⟩
  have hF := h.fr.call hO hV.sub hV.own.2
  exact ⟨vSize V p, rfl, rfl, hF.frz, hF.has 8 (by decide), hF.put hV.own.1 8 _ (fun _ _ _ _ _ => rfl) rfl rfl rfl rfl rfl, { h.ok with size := hb }, hV.set _ _ _ _ _ hF.lt hI, h.only.trans ((hO.mono hV.sub).trans (onlyE_set hV.own.1 _ _))⟩

theorem St.cKind (h : St D g Inv w0 k p w) : w.cell? ⟨g, 0, none⟩ = some (.int .u8 (p.1.kind : Int)) := by
  obtain ⟨ve, vx, vn, vh, vd, hb, _⟩ := h.fr
  exact cell_of_row w g 0 _ _ _ hb
theorem St.cId (h : St D g Inv w0 k p w) : w.cell? ⟨g, 3, none⟩ = some (.int .u8 (p.1.id.f : Int)) ∧ w.cell? ⟨g, 3 + 1, none⟩ = some (.int .u64 (p.1.id.s : Int)) := by
  obtain ⟨ve, vx, vn, vh, vd, hb, _⟩ := h.fr
  exact ⟨cell_of_row w g 3 _ _ _ hb, cell_of_row w g 4 _ _ _ hb⟩
theorem St.sId (h : St D g Inv w0 (k + 1) p w) (hV : VisAt V f T x D Dv g Inv) : Calls Try.prog f.idf #[x, .agg #[.int .u8 (p.1.id.f : Int), .int .u64 (p.1.id.s : Int)]] w fun e w1 => ∃ p', Hid (p' = vId V p) ∧ e = .returned (.agg #[.int .u8 (p'.1.id.f : Int), .int .u64 (p'.1.id.s : Int)]) ∧ (∀ i, w1.frozen? ⟨g, i, none⟩ = false) ∧
    (w1.cell? ⟨g, 3, none⟩ = some (.int .u8 (p.1.id.f : Int)) ∧ w1.cell? ⟨g, 3 + 1, none⟩ = some (.int .u64 (p.1.id.s : Int))) ∧ St D g Inv w0 k p' ((w1.setCell ⟨g, 3, none⟩ (.int .u8 (p'.1.id.f : Int))).setCell ⟨g, 3 + 1, none⟩ (.int .u64 (p'.1.id.s : Int))) := by
  refine (hV.id k p.2 w p.1.id h.inv).mono ?_
  rintro e w1 ⟨rfl, hI, hO⟩
  have hF := h.fr.call hO hV.sub hV.own.2
  have hF1 : FrIn (w1.setCell ⟨g, 3, none⟩ (.int .u8 ((vId V p).1.id.f : Int))) D g { p.1 with id := ⟨(vId V p).1.id.f, p.1.id.s, (vId V p).1.id.hf, p.1.id.hs⟩ } := hF.put hV.own.1 3 _ (fun _ _ _ _ _ => rfl) rfl rfl rfl rfl rfl
  have hc : w1.cell? ⟨g, 3, none⟩ = some (.int .u8 (p.1.id.f : Int)) ∧ w1.cell? ⟨g, 3 + 1, none⟩ = some (.int .u64 (p.1.id.s : Int)) := by
    obtain ⟨ve, vx, vn, vh, vd, hb, _⟩ := hF
    exact ⟨cell_of_row w1 g 3 _ _ _ hb, cell_of_row w1 g 4 _ _ _ hb⟩
  exact ⟨vId V p, rfl, rfl, hF.frz, hc, hF1.put hV.own.1 4 _ (fun _ _ _ _ _ => rfl) rfl rfl rfl rfl rfl, { h.ok with }, hV.set _ _ _ _ _ hF1.lt (hV.set _ _ _ _ _ hF.lt hI), h.only.trans ((hO.mono hV.sub).trans ((onlyE_set hV.own.1 _ _).trans (onlyE_set hV.own.1 _ _)))⟩

theorem St.cEst (h : St D g Inv w0 k p w) : ∃ A c, w.cell? ⟨g, 11, none⟩ = some (.slice A p.1.est.length c) ∧ SlA w D A p.1.est.length c (flat encRn p.1.est) := by
  obtain ⟨ve, vx, vn, vh, vd, hb, h1, h2, h3, h4, h5⟩ := h.fr
  obtain ⟨A, c, rfl, hA⟩ := h1
  exact ⟨A, c, cell_of_row w g 11 _ _ _ hb, hA⟩
theorem St.sEst {A : Option Addr} {c : Nat} (h : St D g Inv w0 (k + 1) p w) (hA : SlA w D A p.1.est.length c (flat encRn p.1.est)) (hV : VisAt V f T x D Dv g Inv) : Calls Try.prog f.rns #[x, .slice A p.1.est.length c] w fun e w1 => ∃ p' A' c', Hid (p' = vEst V p) ∧ e = .returned (.slice A' p'.1.est.length c') ∧ (∀ i, w1.frozen? ⟨g, i, none⟩ = false) ∧ (∃ u, w1.cell? ⟨g, 11, none⟩ = some u) ∧ St D g Inv w0 k p' (w1.setCell ⟨g, 11, none⟩ (.slice A' p'.1.est.length c')) := by
  refine (hV.runs k p.2 w A c p.1.est h.ok.est hA h.inv).mono ?_
  rintro e w1 ⟨A', c', rfl, hS, hb, hI, hO⟩
  have hF := h.fr.call hO hV.sub hV.own.2
  exact ⟨vEst V p, A', c', rfl, rfl, hF.frz, hF.has 11 (by decide), hF.put_est hV.own.1 _ _ ⟨A', c', rfl, hS⟩, { h.ok with est := hb }, hV.set _ _ _ _ _ hF.lt hI, h.only.trans ((hO.mono hV.sub).trans (onlyE_set hV.own.1 _ _))⟩

theorem St.cAux (h : St D g Inv w0 k p w) : ∃ A c, w.cell? ⟨g, 12, none⟩ = some (.slice A p.1.aux.length c) ∧ SlA w D A p.1.aux.length c (flat encRn p.1.aux) := by
  obtain ⟨ve, vx, vn, vh, vd, hb, h1, h2, h3, h4, h5⟩ := h.fr
  obtain ⟨A, c, rfl, hA⟩ := h2
  exact ⟨A, c, cell_of_row w g 12 _ _ _ hb, hA⟩
theorem St.sAux {A : Option Addr} {c : Nat} (h : St D g Inv w0 (k + 1) p w) (hA : SlA w D A p.1.aux.length c (flat encRn p.1.aux)) (hV : VisAt V f T x D Dv g Inv) : Calls Try.prog f.rns #[x, .slice A p.1.aux.length c] w fun e w1 => ∃ p' A' c', Hid (p' = vAux V p) ∧ e = .returned (.slice A' p'.1.aux.length c') ∧ (∀ i, w1.frozen? ⟨g, i, none⟩ = false) ∧ (∃ u, w1.cell? ⟨g, 12, none⟩ = some u) ∧ St D g Inv w0 k p' (w1.setCell ⟨g, 12, none⟩ (.slice A' p'.1.aux.length c')) := by
  refine (hV.runs k p.2 w A c p.1.aux h.ok.aux hA h.inv).mono ?_
  rintro e w1 ⟨A', c', rfl, hS, hb, hI, hO⟩
  have hF := h.fr.call hO hV.sub hV.own.2
  exact ⟨vAux V p, A', c', rfl, rfl, hF.frz, hF.has 12 (by decide), hF.put_aux hV.own.1 _ _ ⟨A', c', rfl, hS⟩, { h.ok with aux := hb }, hV.set _ _ _ _ _ hF.lt hI, h.only.trans ((hO.mono hV.sub).trans (onlyE_set hV.own.1 _ _))⟩

theorem St.cDone (h : St D g Inv w0 k p w) : ∃ A c, w.cell? ⟨g, 13, none⟩ = some (.slice A p.1.done.length c) ∧ SlA w D A p.1.done.length c (uvs p.1.done) := by
  obtain ⟨ve, vx, vn, vh, vd, hb, h1, h2, h3, h4, h5⟩ := h.fr
  obtain ⟨A, c, rfl, hA⟩ := h3
  exact ⟨A, c, cell_of_row w g 13 _ _ _ hb, hA⟩
theorem St.sDone {A : Option Addr} {c : Nat} (h : St D g Inv w0 (k + 1) p w) (hA : SlA w D A p.1.done.length c (uvs p.1.done)) (hV : VisAt V f T x D Dv g Inv) : Calls Try.prog f.vec #[x, .slice A p.1.done.length c] w fun e w1 => ∃ p' A' c', Hid (p' = vDone V p) ∧ e = .returned (.slice A' p'.1.done.length c') ∧ (∀ i, w1.frozen? ⟨g, i, none⟩ = false) ∧ (∃ u, w1.cell? ⟨g, 13, none⟩ = some u) ∧ St D g Inv w0 k p' (w1.setCell ⟨g, 13, none⟩ (.slice A' p'.1.done.length c')) := by
  refine (hV.vector k p.2 w A c p.1.done h.ok.done h.ok.doneN hA h.inv).mono ?_
  rintro e w1 ⟨A', c', rfl, hS, hb, hI, hO⟩
  have hF := h.fr.call hO hV.sub hV.own.2
  exact ⟨vDone V p, A', c', rfl, rfl, hF.frz, hF.has 13 (by decide), hF.put_done hV.own.1 _ _ ⟨A', c', rfl, hS⟩, { h.ok with done := hb.1, doneN := hb.2 }, hV.set _ _ _ _ _ hF.lt hI, h.only.trans ((hO.mono hV.sub).trans (onlyE_set hV.own.1 _ _))⟩

theorem St.cHeld (h : St D g Inv w0 k p w) : ∃ A c, w.cell? ⟨g, 14, none⟩ = some (.slice A p.1.held.length c) ∧ SlA w D A p.1.held.length c (uvs p.1.held) := by
  obtain ⟨ve, vx, vn, vh, vd, hb, h1, h2, h3, h4, h5⟩ := h.fr
  obtain ⟨A, c, rfl, hA⟩ := h4
  exact ⟨A, c, cell_of_row w g 14 _ _ _ hb, hA⟩
theorem St.sHeld {A : Option Addr} {c : Nat} (h : St D g Inv w0 (k + 1) p w) (hA : SlA w D A p.1.held.length c (uvs p.1.held)) (hV : VisAt V f T x D Dv g Inv) : Calls Try.prog f.vec #[x, .slice A p.1.held.length c] w fun e w1 => ∃ p' A' c', Hid (p' = vHeld V p) ∧ e = .returned (.slice A' p'.1.held.length c') ∧ (∀ i, w1.frozen? ⟨g, i, none⟩ = false) ∧ (∃ u, w1.cell? ⟨g, 14, none⟩ = some u) ∧ St D g Inv w0 k p' (w1.setCell ⟨g, 14, none⟩ (.slice A' p'.1.held.length c')) := by
  refine (hV.vector k p.2 w A c p.1.held h.ok.held h.ok.heldN hA h.inv).mono ?_
  rintro e w1 ⟨A', c', rfl, hS, hb, hI, hO⟩
  have hF := h.fr.call hO hV.sub hV.own.2
  exact ⟨vHeld V p, A', c', rfl, rfl, hF.frz, hF.has 14 (by decide), hF.put_held hV.own.1 _ _ ⟨A', c', rfl, hS⟩, { h.ok with held := hb.1, heldN := hb.2 }, hV.set _ _ _ _ _ hF.lt hI, h.only.trans ((hO.mono hV.sub).trans (onlyE_set hV.own.1 _ _))⟩

theorem St.cData (h : St D g Inv w0 k p w) : ∃ A c, w.cell? ⟨g, 15, none⟩ = some (.slice A p.1.data.length c) ∧ SlA w D A p.1.data.length c (bvs p.1.data) := by
  obtain ⟨ve, vx, vn, vh, vd, hb, h1, h2, h3, h4, h5⟩ := h.fr
  obtain ⟨A, c, rfl, hA⟩ := h5
  exact ⟨A, c, cell_of_row w g 15 _ _ _ hb, hA⟩
theorem St.sData {A : Option Addr} {c : Nat} (h : St D g Inv w0 (k + 1) p w) (hA : SlA w D A p.1.data.length c (bvs p.1.data)) (hV : VisAt V f T x D Dv g Inv) : Calls Try.prog f.dat #[x, .slice A p.1.data.length c] w fun e w1 => ∃ p' A' c', Hid (p' = vData V p) ∧ e = .returned (.slice A' p'.1.data.length c') ∧ (∀ i, w1.frozen? ⟨g, i, none⟩ = false) ∧ (∃ u, w1.cell? ⟨g, 15, none⟩ = some u) ∧ St D g Inv w0 k p' (w1.setCell ⟨g, 15, none⟩ (.slice A' p'.1.data.length c')) := by
  refine (hV.data k p.2 w A c p.1.data h.ok.data hA h.inv).mono ?_
  rintro e w1 ⟨A', c', rfl, hS, hb, hI, hO⟩
  have hF := h.fr.call hO hV.sub hV.own.2
  exact ⟨vData V p, A', c', rfl, rfl, hF.frz, hF.has 15 (by decide), hF.put_data hV.own.1 _ _ ⟨A', c', rfl, hS⟩, { h.ok with data := hb }, hV.set _ _ _ _ _ hF.lt hI, h.only.trans ((hO.mono hV.sub).trans (onlyE_set hV.own.1 _ _))⟩

end

end Go.Proofs.Ytbfjfidodpgohaa

/- The checker: what it finds of each field. -/
namespace Go.Proofs.Ytbfjfidodpgohaa
open Go.RowKit Go.Sort

/-- The checker's block. -/
def Ck (gc : Nat) (b : Bool) (w : World) : Prop := w.heap[gc]? = some (.cells #[.bool b] 77 (0, 0))

theorem Ck.below {gc : Nat} {b : Bool} {w w' : World} (h : Ck gc b w) (hb : Below w.heap.size w w') : Ck gc b w' := (hb.block gc (Array.getElem?_eq_some_iff.1 h).1).trans h
theorem Ck.lt {gc : Nat} {b : Bool} {w : World} (h : Ck gc b w) : gc < w.heap.size := (Array.getElem?_eq_some_iff.1 h).1

def Wanted (gc : Nat) (w : World) (b : Bool) (w' : World) : Prop := Ck gc b w' ∧ OnlyE w w' (fun k => k = gc)

theorem wanted_set {gc : Nat} {b b' : Bool} {w : World} (h : Ck gc b w) : Wanted gc w b' (w.setCell ⟨gc, 0, none⟩ (.bool b')) := by
  refine ⟨?_, onlyE_set (D := fun k => k = gc) rfl _ _⟩
  unfold Ck
  rw [heap_setCell_row h]
  rfl

set_option maxRecDepth 100000 in
theorem want_any {gc : Nat} {b : Bool} (fine : Bool) (w : World) (h : Ck gc b w) :
    Calls Try.prog 99 #[.pointer (some ⟨gc, 0, none⟩), .bool fine] w fun e w' => (∃ v, e = .returned v) ∧ Wanted gc w (b || !fine) w' := by
  have H := Lib.hid h
  have c0 := cell_of_row w gc 0 _ _ _ h
  have fz := row_frozen h
  simp only [List.getElem?_toArray, List.getElem?_cons_zero] at c0
  clear h
  cases b <;> cases fine
  all_goals
    go_enter Try.func99, Try.ntmps99
    go_wp2
    go_end0
    exact ⟨⟨_, rfl⟩, wanted_set H.out⟩

set_option maxRecDepth 100000 in
theorem ckNumber_any {gc : Nat} {b : Bool} (n : Nat) (w : World) (h : Ck gc b w) (hn : n < 18446744073709551616) :
    Calls Try.prog 96 #[.pointer (some ⟨gc, 0, none⟩), .int .u64 (n : Int)] w fun e w' => e = .returned (.int .u64 0) ∧ Wanted gc w (b || !decide (n ≤ 4611686018427387904)) w' := by
  have hd : decide (n ≤ 4611686018427387904) = decide ((n : Int) ≤ 4611686018427387904) := by simp; omega
  rw [hd]
  clear hd
  go_enter Try.func96, Try.ntmps96
  go_wp2_with fail
  refine (want_any _ w h).mono ?_
  rintro e w1 ⟨⟨v, rfl⟩, hW⟩
  have HW := Lib.hid hW
  clear hW
  go_wp2
  go_ret
  exact ⟨rfl, HW.out⟩

set_option maxRecDepth 100000 in
theorem ckWord_any (gc n : Nat) (w : World) :
    Calls Try.prog 100 #[.pointer (some ⟨gc, 0, none⟩), .int .u32 (n : Int)] w fun e w' => e = .returned (.int .u32 0) ∧ w = w' := by
  go_enter Try.func100, Try.ntmps100
  go_wp2
  go_ret
  exact ⟨rfl, rfl⟩

theorem OnlyE.setNew {w w' : World} {D : Nat → Prop} (h : OnlyE w w' D) {b : Nat} (hb : w.heap.size ≤ b) (i : Nat) (u : Value) : OnlyE w (w'.setCell ⟨b, i, none⟩ u) D := by
  refine ⟨by simpa [World.setCell] using h.1, fun k hk hn => ?_, h.3.setCell (Nat.zero_le _) u⟩
  rw [← h.2 k hk hn]
  have : b ≠ k := by omega
  simp [World.setCell, Array.getElem?_modify, this]
theorem Wanted.setNew {gc : Nat} {b : Bool} {w w' : World} (h : Wanted gc w b w') {q : Nat} (hq : w.heap.size ≤ q ∧ gc ≠ q) (i : Nat) (u : Value) : Wanted gc w b (w'.setCell ⟨q, i, none⟩ u) := by
  refine ⟨?_, h.2.setNew hq.1 i u⟩
  have h0 := h.1
  unfold Ck at h0 ⊢
  rw [← h0]
  simp [World.setCell, Array.getElem?_modify, Ne.symm hq.2]
theorem Wanted.behind {gc : Nat} {b : Bool} {w w1 w' : World} (h : Wanted gc w1 b w') (hb : Below w.heap.size w w1) : Wanted gc w b w' := ⟨h.1, (OnlyE.of_below hb).trans h.2⟩

set_option maxRecDepth 100000 in
theorem ckId_any {gc : Nat} {b : Bool} (x : Id) (w : World) (h : Ck gc b w) :
    Calls Try.prog 95 #[.pointer (some ⟨gc, 0, none⟩), .agg #[.int .u8 (x.f : Int), .int .u64 (x.s : Int)]] w fun e w' => e = .returned (.agg #[.int .u8 0, .int .u64 0]) ∧ Wanted gc w (b || !mayB x) w' := by
  have H := Lib.hid h
  have hgc := h.lt
  clear h
  have hM : Hid (∀ W, Calls Try.prog 101 #[.agg #[.int .u8 (x.f : Int), .int .u64 (x.s : Int)], .int .i64 64] W fun e w' => e = .returned (.bool (mayB x)) ∧ Grew W w') := fun W => by
    have := may_any x 64 W (by omega)
    rw [may64] at this
    exact this
  go_enter Try.func95, Try.ntmps95
  go_wp2_with fail
  generalize hw0 : World.alloc (World.alloc w _) _ = w0
  have hbx := box2 w w0 _ _ _ _ hw0
  have hnew : w0.heap[w.heap.size + 1]? = some (.cells #[.int .u8 0, .int .u64 0] 28 (0, 0)) := by rw [← hw0]; exact alloc2_new _ _ _
  obtain ⟨hs0, hG0, -⟩ := hbx
  refine (hM.out _).mono ?_
  rintro e w1 ⟨rfl, hg1⟩
  have hb1 : Below w.heap.size w w1 := hG0.below.trans (hg1.below.mono hG0.size)
  have hn1 : w1.heap[w.heap.size + 1]? = some (.cells #[.int .u8 0, .int .u64 0] 28 (0, 0)) := (hg1.below.block _ (by omega)).trans hnew
  clear hnew hw0
  go_wp2_with fail
  refine (want_any _ w1 (H.out.below hb1)).mono ?_
  rintro e w2 ⟨⟨v, rfl⟩, hW⟩
  have hn2 := (hW.2.2 _ (Array.getElem?_eq_some_iff.1 hn1).1 (by show w.heap.size + 1 ≠ gc; omega)).trans hn1
  have HW := Lib.hid (hW.behind hb1)
  have c0 := cell_of_row w2 _ 0 _ _ _ hn2
  have c1 := cell_of_row w2 _ 1 _ _ _ hn2
  have fz := row_frozen hn2
  simp only [List.getElem?_toArray, List.getElem?_cons_zero, List.getElem?_cons_succ] at c0 c1
  have HN2 := Lib.hid hn2
  clear hW hn1 hn2
  go_wp2
  refine bodyPost_ret (results_cell_row rfl _ _ _ _ _ _ _ rfl (heap_setCell_row (heap_setCell_row HN2.out 0 _) 1 _) Try.underlying28 rfl (by kernel_rfl)) rfl ?_
  refine ⟨rfl, ?_⟩
  exact ((HW.out.setNew (by omega) 0 _).setNew (by omega) 1 _)

theorem Ck.after {gc : Nat} {b : Bool} {w w' : World} (h : Ck gc b w) (hb : Below w.heap.size w w') : Ck gc b w' := h.below hb

set_option maxRecDepth 100000 in
theorem ckData_any {gc : Nat} {b : Bool} (A : Option Addr) (n c : Nat) (w : World) (h : Ck gc b w) :
    Calls Try.prog 94 #[.pointer (some ⟨gc, 0, none⟩), .slice A n c] w fun e w' => e = .returned (.slice none 0 0) ∧ Wanted gc w (b || !decide (n ≤ 65536)) w' := by
  have hd : decide (n ≤ 65536) = decide ((n : Int) ≤ 65536) := by simp; omega
  rw [hd]
  clear hd
  go_enter Try.func94, Try.ntmps94
  go_wp2_with fail
  refine (want_any _ w h).mono ?_
  rintro e w1 ⟨⟨v, rfl⟩, hW⟩
  have HW := Lib.hid hW
  clear hW
  go_wp2
  go_ret
  exact ⟨rfl, HW.out⟩

/-- May runs stand in a frame? -/
noncomputable def runsB (l : List Rn) : Bool := decide (l.length ≤ 64) && rowsB l && decide (cntN l ≤ 4096)

set_option maxRecDepth 100000 in
theorem ckRuns_any {gc : Nat} {b : Bool} (A : Option Addr) (n c : Nat) (l : List Rn) (w : World) (h : Ck gc b w) (hl : l.length = n) (hn : n ≤ 100) (hL : Lies w w.heap.size A (flat encRn l)) :
    Calls Try.prog 97 #[.pointer (some ⟨gc, 0, none⟩), .slice A n c] w fun e w' => e = .returned (.slice none 0 0) ∧ Wanted gc w (b || !runsB l) w' := by
  have H := Lib.hid h
  have HR := Lib.hid (idRows_any A n c l w hl (by omega) hL)
  have HC : Hid (∀ W, Below w.heap.size w W → Calls Try.prog 103 #[.slice A n c] W fun e w' => e = .returned (.int .u64 (cntN l)) ∧ RowKit.Below W.heap.size W w') := fun W hW => count_any A n c l W hl (by omega) (hL.on hW)
  unfold runsB
  rw [hl]
  clear hL hl h
  generalize hq : rowsB l = q at HR ⊢
  have hc : decide (cntN l ≤ 4096) = decide ((cntN l : Int) ≤ 4096) := by simp; omega
  rw [hc]
  generalize cntN l = m at HC ⊢
  clear hq hc
  by_cases hn64 : n ≤ 64
  · have hd : decide ((n : Int) ≤ 64) = true := by simp; omega
    rw [decide_eq_true hn64, Bool.true_and]
    cases q
    · go_enter Try.func97, Try.ntmps97
      go_wp2_with fail
      refine HR.out.mono ?_
      rintro e w1 ⟨rfl, hb1⟩
      go_wp2_with fail
      refine (want_any _ w1 (H.out.below hb1)).mono ?_
      rintro e w2 ⟨⟨v, rfl⟩, hW⟩
      have HW := Lib.hid (hW.behind hb1)
      clear hW
      go_wp2
      go_ret
      exact ⟨rfl, HW.out⟩
    · go_enter Try.func97, Try.ntmps97
      go_wp2_with fail
      refine HR.out.mono ?_
      rintro e w1 ⟨rfl, hb1⟩
      go_wp2_with fail
      refine (HC.out w1 hb1).mono ?_
      rintro e w2 ⟨rfl, hb2⟩
      have hb3 := hb1.trans (hb2.mono hb1.size)
      go_wp2_with fail
      refine (want_any _ w2 (H.out.below hb3)).mono ?_
      rintro e w3 ⟨⟨v, rfl⟩, hW⟩
      have HW := Lib.hid (hW.behind hb3)
      clear hW
      go_wp2
      go_ret
      exact ⟨rfl, HW.out⟩
  · have hd : decide ((n : Int) ≤ 64) = false := by simp; omega
    rw [decide_eq_false hn64, Bool.false_and, Bool.false_and]
    go_enter Try.func97, Try.ntmps97
    go_wp2_with fail
    refine (want_any _ w H.out).mono ?_
    rintro e w1 ⟨⟨v, rfl⟩, hW⟩
    have HW := Lib.hid hW
    clear hW
    go_wp2
    go_ret
    exact ⟨rfl, HW.out⟩

end Go.Proofs.Ytbfjfidodpgohaa
