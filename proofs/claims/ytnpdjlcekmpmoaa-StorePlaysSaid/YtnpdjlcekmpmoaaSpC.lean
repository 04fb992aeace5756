/- Stage 14: the document's New; the boxes of its calls. -/
import Derived.Test.YtnpdjlcekmpmoaaSpB
set_option maxRecDepth 20000
namespace Go.Proofs.Ytnpdjlcekmpmoaa
open Go.RowKit Go.Sort Go.Maps

theorem infoS {cs : Array Value} (h : cs.size = 4) : (Try.prog.info? 29).map (·.size) = some cs.size := by
  rw [h]
  kernel_rfl
theorem load_rowS {W : World} {g : Nat} {cs : Array Value} (hg : W.heap[g]? = some (.cells cs 29 (0, 0))) (hs : cs.size = 4) : (loadVar 29 ⟨g, 0, none⟩).run Try.prog W = .ok (.agg cs) W :=
  run_loadVar_row W g _ _ cs (0, 0) _ hg Try.underlying29 rfl (infoS hs)
def zeroS : Array Value := #[.int .i64 0, .int .i64 0, .slice none 0 0, .slice none 0 0]

theorem results_cell_tmp {fn : Func} {p q : Tmp} {ty : TypeId} (h : fn.results = #[.cell p ty, .tmp q]) (tmps : Array Value) (w : World) (g : Nat) (cs : Array Value)
    (hp : tmps.getD p undef = .pointer (some ⟨g, 0, none⟩)) (hl : (loadVar ty ⟨g, 0, none⟩).run Try.prog w = .ok (.agg cs) w) :
    (results fn tmps).run Try.prog w = .ok (.tuple #[.agg cs, tmps.getD q undef]) w := by
  have hp' : tmps[p]?.getD undef = .pointer (some ⟨g, 0, none⟩) := by simpa using hp
  simp [results, h, hp', asAddr, hl]

/-- Two boxes of a call, both of a store. -/
structure SBox (w : World) (gs rs : Array Value) (W : World) : Prop where
  below : RowKit.Below w.heap.size w W
  box : W.heap[w.heap.size]? = some (.cells gs 29 (0, 0))
  res : W.heap[w.heap.size + 1]? = some (.cells rs 29 (0, 0))
theorem SBox.start {w W : World} {gs rs : Array Value} (h : (w.alloc (.cells gs 29)).alloc (.cells rs 29) = W) : SBox w gs rs W := by
  subst h
  refine ⟨((RowKit.Below.refl _ _).alloc (Nat.le_refl _) _).alloc (by simp) _, (heap_alloc_old _ _ (by simp)).trans (heap_alloc_new _ _), ?_⟩
  have := heap_alloc_new (w.alloc (.cells gs 29)) (.cells rs 29)
  simpa using this
section
variable {w W W' : World} {gs rs : Array Value}
theorem SBox.lt (h : SBox w gs rs W) : w.heap.size + 2 ≤ W.heap.size := (Array.getElem?_eq_some_iff.1 h.res).1
theorem SBox.up (h : SBox w gs rs W) (hb : RowKit.Below (w.heap.size + 2) W W') : SBox w gs rs W' :=
  ⟨h.below.trans (hb.mono (by omega)), (hb.block _ (by omega)).trans h.box, (hb.block _ (by omega)).trans h.res⟩
theorem SBox.on (h : SBox w gs rs W) (hb : RowKit.Below W.heap.size W W') : SBox w gs rs W' := h.up (hb.mono h.lt)
theorem SBox.setBox (h : SBox w gs rs W) (i : Nat) (u : Value) : SBox w (gs.setIfInBounds i u) rs (W.setCell ⟨w.heap.size, i, none⟩ u) :=
  ⟨h.below.setCell (p := ⟨w.heap.size, i, none⟩) (Nat.le_refl _) u, heap_setCell_same W _ i _ _ u h.box, (heap_setCell_other W ⟨w.heap.size, i, none⟩ (w.heap.size + 1) u (by simp)).trans h.res⟩
theorem SBox.setRes (h : SBox w gs rs W) (i : Nat) (u : Value) : SBox w gs (rs.setIfInBounds i u) (W.setCell ⟨w.heap.size + 1, i, none⟩ u) :=
  ⟨h.below.setCell (p := ⟨w.heap.size + 1, i, none⟩) (Nat.le_succ _) u, (heap_setCell_other W ⟨w.heap.size + 1, i, none⟩ w.heap.size u (by simp)).trans h.box, heap_setCell_same W _ i _ _ u h.res⟩
theorem SBox.cell (h : SBox w gs rs W) (i : Nat) : W.cell? ⟨w.heap.size, i, none⟩ = gs[i]? := cell_of_row W _ i _ _ _ h.box
theorem SBox.cellR (h : SBox w gs rs W) (i : Nat) : W.cell? ⟨w.heap.size + 1, i, none⟩ = rs[i]? := cell_of_row W _ i _ _ _ h.res
theorem SBox.fr (h : SBox w gs rs W) (i : Nat) : W.frozen? ⟨w.heap.size, i, none⟩ = false := frozen_of_row W _ i _ _ h.box
theorem SBox.frR (h : SBox w gs rs W) (i : Nat) : W.frozen? ⟨w.heap.size + 1, i, none⟩ = false := frozen_of_row W _ i _ _ h.res
end

theorem refNew_midp (N : Nat) (r : Int) (w : World) (h1 : 1 ≤ N) (h2 : N ≤ 64) (hr : 0 ≤ r) (hr2 : r ≤ 9223372036854775807) : Calls Try.prog 10 #[.int .i64 (N : Int), .int .i64 r] w fun e w' =>
    ∃ A2 c2, e = .returned (.agg #[.int .i64 (N : Int), .int .i64 r, .slice none 0 0, .slice A2 N c2]) ∧ N ≤ c2 ∧ c2 ≤ maxLen ∧ w'.ownsRow (w.heap.size + 2) 31 1 (.slice A2 N c2) N (uvs (List.replicate N 0)) ∧ RowKit.Below w.heap.size w w' := by
  have d1 : decide (N < 1) = false := decide_eq_false (by omega)
  have d2 : decide (64 < N) = false := decide_eq_false (by omega)
  have d3 : decide (r < 0) = false := decide_eq_false (by omega)
  go_enter Try.func10, Try.ntmps10
  go_wp2_with fail
  generalize hW : World.alloc (World.alloc w _) _ = W0
  have S0 : Hid (SBox w zeroS #[.int .i64 (N : Int), .int .i64 r, .slice none 0 0, .slice none 0 0] W0) := SBox.start hW
  clear hW
  go_loopw [6] (fun s6 wr => ∃ k : Nat, k ≤ N ∧ s6 = .int .i64 (k : Int) ∧ ∃ v, Hid (SBox w zeroS #[.int .i64 (N : Int), .int .i64 r, .slice none 0 0, v] wr) ∧ Hid (wr.ownsRow (w.heap.size + 2) 31 1 v k (uvs (List.replicate k 0)))) (fun s6 _ => N - (intOf s6).toNat)
  case atStart => exact ⟨0, Nat.zero_le _, rfl, _, S0, World.ownsRow_nil _ _ _ _⟩
  case round =>
    obtain ⟨k, hk, rfl, v, HS, HO⟩ := hrel
    clear S0
    obtain ⟨Av, cv, rfl, q1, q2⟩ := own_slice HO.out
    have x3 := HS.out.cellR 3
    have f3 := HS.out.frR 3
    simp only [List.getElem?_toArray, List.getElem?_cons_succ, List.getElem?_cons_zero] at x3
    by_cases hlt : k < N
    · have hO := HO.out
      have hsz := HS.out.lt
      have hlt2 : w.heap.size + 1 < wr.heap.size := by omega
      go_wp2_with (first | (at_builtin; refine wpList_push rfl (.tmp 22) (.tmp 23) rfl (w.heap.size + 2) k (List.replicate k 0) 0 (.slice Av k cv) rfl rfl hO (by omega) hsz ?_) | fail)
      intro v2 w2 hO2 hb2
      obtain ⟨A3, c3, rfl, -⟩ := own_slice hO2
      rw [← List.replicate_succ'] at hO2
      have HS2 := Lib.hid (HS.out.up hb2)
      have g3 := HS2.out.frR 3
      have y3 := HS2.out.cellR 3
      simp only [List.getElem?_toArray, List.getElem?_cons_succ, List.getElem?_cons_zero] at y3
      have HO2 := Lib.hid hO2
      clear hO hO2 hb2 x3 f3 HO HS
      go_wp2
      go_roundw
      case rel =>
        refine ⟨k + 1, by omega, by go_num, _, HS2.out.setRes 3 _, ?_⟩
        exact own_only HO2.out (onlyE_set (D := fun b => b = w.heap.size + 1) rfl 3 _) fun b hb e => by
          have := (HO2.out.lt b hb).1
          omega
      case measure => simp [intOf]; omega
    · have hkN : k = N := by omega
      subst hkN
      have x0 := HS.out.cellR 0
      have x1 := HS.out.cellR 1
      have x2 := HS.out.cellR 2
      simp only [List.getElem?_toArray, List.getElem?_cons_succ, List.getElem?_cons_zero] at x0 x1 x2
      have b0 := HS.out.fr 0
      have b1 := HS.out.fr 1
      have b2 := HS.out.fr 2
      have b3 := HS.out.fr 3
      have z0 := HS.out.cell 0
      have z1 := HS.out.cell 1
      have z2 := HS.out.cell 2
      have z3 := HS.out.cell 3
      simp only [zeroS, List.getElem?_toArray, List.getElem?_cons_succ, List.getElem?_cons_zero] at z0 z1 z2 z3
      have hl2 := HS.out.lt
      have hl3 : w.heap.size < wr.heap.size := by omega
      go_wp2
      have HF := (((HS.out.setBox 0 (.int .i64 (k : Int))).setBox 1 (.int .i64 r)).setBox 2 (.slice none 0 0)).setBox 3 (.slice Av k cv)
      have HOF := own_only HO.out (((onlyE_set (D := fun b => b = w.heap.size) rfl 0 (.int .i64 (k : Int))).trans (onlyE_set (D := fun b => b = w.heap.size) rfl 1 (.int .i64 r))).trans ((onlyE_set (D := fun b => b = w.heap.size) rfl 2 (.slice none 0 0)).trans (onlyE_set (D := fun b => b = w.heap.size) rfl 3 (.slice Av k cv)))) fun b hb e => by
        have := (HO.out.lt b hb).1
        omega
      exact bodyPost_ret (results_cell_row rfl _ _ _ _ _ _ _ rfl HF.box Try.underlying29 rfl (by kernel_rfl)) rfl ⟨Av, cv, rfl, q1, q2, HOF, HF.below⟩

theorem refNew_lowp (n r : Int) (w : World) (h1 : n < 1) (hr : 0 ≤ r) (hr2 : r ≤ 9223372036854775807) : Calls Try.prog 10 #[.int .i64 n, .int .i64 r] w fun e w' =>
    ∃ A2 c2, e = .returned (.agg #[.int .i64 1, .int .i64 r, .slice none 0 0, .slice A2 1 c2]) ∧ 1 ≤ c2 ∧ c2 ≤ maxLen ∧ w'.ownsRow (w.heap.size + 2) 31 1 (.slice A2 1 c2) 1 (uvs (List.replicate 1 0)) ∧ RowKit.Below w.heap.size w w' := by
  have d1 : decide (n < 1) = true := decide_eq_true h1
  have d3 : decide (r < 0) = false := decide_eq_false (by omega)
  go_enter Try.func10, Try.ntmps10
  go_wp2_with fail
  generalize hW : World.alloc (World.alloc w _) _ = W0
  have S0 : Hid (SBox w zeroS #[.int .i64 1, .int .i64 r, .slice none 0 0, .slice none 0 0] W0) := SBox.start hW
  clear hW
  go_loopw [6] (fun s6 wr => ∃ k : Nat, k ≤ 1 ∧ s6 = .int .i64 (k : Int) ∧ ∃ v, Hid (SBox w zeroS #[.int .i64 1, .int .i64 r, .slice none 0 0, v] wr) ∧ Hid (wr.ownsRow (w.heap.size + 2) 31 1 v k (uvs (List.replicate k 0)))) (fun s6 _ => 1 - (intOf s6).toNat)
  case atStart => exact ⟨0, Nat.zero_le _, rfl, _, S0, World.ownsRow_nil _ _ _ _⟩
  case round =>
    obtain ⟨k, hk, rfl, v, HS, HO⟩ := hrel
    clear S0
    obtain ⟨Av, cv, rfl, q1, q2⟩ := own_slice HO.out
    have x3 := HS.out.cellR 3
    have f3 := HS.out.frR 3
    simp only [List.getElem?_toArray, List.getElem?_cons_succ, List.getElem?_cons_zero] at x3
    by_cases hlt : k < 1
    · have hO := HO.out
      have hsz := HS.out.lt
      have hlt2 : w.heap.size + 1 < wr.heap.size := by omega
      go_wp2_with (first | (at_builtin; refine wpList_push rfl (.tmp 22) (.tmp 23) rfl (w.heap.size + 2) k (List.replicate k 0) 0 (.slice Av k cv) rfl rfl hO (by omega) hsz ?_) | fail)
      intro v2 w2 hO2 hb2
      obtain ⟨A3, c3, rfl, -⟩ := own_slice hO2
      rw [← List.replicate_succ'] at hO2
      have HS2 := Lib.hid (HS.out.up hb2)
      have g3 := HS2.out.frR 3
      have y3 := HS2.out.cellR 3
      simp only [List.getElem?_toArray, List.getElem?_cons_succ, List.getElem?_cons_zero] at y3
      have HO2 := Lib.hid hO2
      clear hO hO2 hb2 x3 f3 HO HS
      go_wp2
      go_roundw
      case rel =>
        refine ⟨k + 1, by omega, by go_num, _, HS2.out.setRes 3 _, ?_⟩
        exact own_only HO2.out (onlyE_set (D := fun b => b = w.heap.size + 1) rfl 3 _) fun b hb e => by
          have := (HO2.out.lt b hb).1
          omega
      case measure => simp [intOf]; omega
    · have hkN : k = 1 := by omega
      subst hkN
      have x0 := HS.out.cellR 0
      have x1 := HS.out.cellR 1
      have x2 := HS.out.cellR 2
      simp only [List.getElem?_toArray, List.getElem?_cons_succ, List.getElem?_cons_zero] at x0 x1 x2
      have b0 := HS.out.fr 0
      have b1 := HS.out.fr 1
      have b2 := HS.out.fr 2
      have b3 := HS.out.fr 3
      have z0 := HS.out.cell 0
      have z1 := HS.out.cell 1
      have z2 := HS.out.cell 2
      have z3 := HS.out.cell 3
      simp only [zeroS, List.getElem?_toArray, List.getElem?_cons_succ, List.getElem?_cons_zero] at z0 z1 z2 z3
      have hl2 := HS.out.lt
      have hl3 : w.heap.size < wr.heap.size := by omega
      go_wp2
      have HF := (((HS.out.setBox 0 (.int .i64 1)).setBox 1 (.int .i64 r)).setBox 2 (.slice none 0 0)).setBox 3 (.slice Av 1 cv)
      have HOF := own_only HO.out (((onlyE_set (D := fun b => b = w.heap.size) rfl 0 (.int .i64 1)).trans (onlyE_set (D := fun b => b = w.heap.size) rfl 1 (.int .i64 r))).trans ((onlyE_set (D := fun b => b = w.heap.size) rfl 2 (.slice none 0 0)).trans (onlyE_set (D := fun b => b = w.heap.size) rfl 3 (.slice Av 1 cv)))) fun b hb e => by
        have := (HO.out.lt b hb).1
        omega
      exact bodyPost_ret (results_cell_row rfl _ _ _ _ _ _ _ rfl HF.box Try.underlying29 rfl (by kernel_rfl)) rfl ⟨Av, cv, rfl, q1, q2, HOF, HF.below⟩

theorem refNew_highp (n r : Int) (w : World) (h1 : 64 < n) (hr : 0 ≤ r) (hr2 : r ≤ 9223372036854775807) : Calls Try.prog 10 #[.int .i64 n, .int .i64 r] w fun e w' =>
    ∃ A2 c2, e = .returned (.agg #[.int .i64 64, .int .i64 r, .slice none 0 0, .slice A2 64 c2]) ∧ 64 ≤ c2 ∧ c2 ≤ maxLen ∧ w'.ownsRow (w.heap.size + 2) 31 1 (.slice A2 64 c2) 64 (uvs (List.replicate 64 0)) ∧ RowKit.Below w.heap.size w w' := by
  have d1 : decide (n < 1) = false := decide_eq_false (by omega)
  have d2 : decide (64 < n) = true := decide_eq_true h1
  have d3 : decide (r < 0) = false := decide_eq_false (by omega)
  go_enter Try.func10, Try.ntmps10
  go_wp2_with fail
  generalize hW : World.alloc (World.alloc w _) _ = W0
  have S0 : Hid (SBox w zeroS #[.int .i64 64, .int .i64 r, .slice none 0 0, .slice none 0 0] W0) := SBox.start hW
  clear hW
  go_loopw [6] (fun s6 wr => ∃ k : Nat, k ≤ 64 ∧ s6 = .int .i64 (k : Int) ∧ ∃ v, Hid (SBox w zeroS #[.int .i64 64, .int .i64 r, .slice none 0 0, v] wr) ∧ Hid (wr.ownsRow (w.heap.size + 2) 31 1 v k (uvs (List.replicate k 0)))) (fun s6 _ => 64 - (intOf s6).toNat)
  case atStart => exact ⟨0, Nat.zero_le _, rfl, _, S0, World.ownsRow_nil _ _ _ _⟩
  case round =>
    obtain ⟨k, hk, rfl, v, HS, HO⟩ := hrel
    clear S0
    obtain ⟨Av, cv, rfl, q1, q2⟩ := own_slice HO.out
    have x3 := HS.out.cellR 3
    have f3 := HS.out.frR 3
    simp only [List.getElem?_toArray, List.getElem?_cons_succ, List.getElem?_cons_zero] at x3
    by_cases hlt : k < 64
    · have hO := HO.out
      have hsz := HS.out.lt
      have hlt2 : w.heap.size + 1 < wr.heap.size := by omega
      go_wp2_with (first | (at_builtin; refine wpList_push rfl (.tmp 22) (.tmp 23) rfl (w.heap.size + 2) k (List.replicate k 0) 0 (.slice Av k cv) rfl rfl hO (by omega) hsz ?_) | fail)
      intro v2 w2 hO2 hb2
      obtain ⟨A3, c3, rfl, -⟩ := own_slice hO2
      rw [← List.replicate_succ'] at hO2
      have HS2 := Lib.hid (HS.out.up hb2)
      have g3 := HS2.out.frR 3
      have y3 := HS2.out.cellR 3
      simp only [List.getElem?_toArray, List.getElem?_cons_succ, List.getElem?_cons_zero] at y3
      have HO2 := Lib.hid hO2
      clear hO hO2 hb2 x3 f3 HO HS
      go_wp2
      go_roundw
      case rel =>
        refine ⟨k + 1, by omega, by go_num, _, HS2.out.setRes 3 _, ?_⟩
        exact own_only HO2.out (onlyE_set (D := fun b => b = w.heap.size + 1) rfl 3 _) fun b hb e => by
          have := (HO2.out.lt b hb).1
          omega
      case measure => simp [intOf]; omega
    · have hkN : k = 64 := by omega
      subst hkN
      have x0 := HS.out.cellR 0
      have x1 := HS.out.cellR 1
      have x2 := HS.out.cellR 2
      simp only [List.getElem?_toArray, List.getElem?_cons_succ, List.getElem?_cons_zero] at x0 x1 x2
      have b0 := HS.out.fr 0
      have b1 := HS.out.fr 1
      have b2 := HS.out.fr 2
      have b3 := HS.out.fr 3
      have z0 := HS.out.cell 0
      have z1 := HS.out.cell 1
      have z2 := HS.out.cell 2
      have z3 := HS.out.cell 3
      simp only [zeroS, List.getElem?_toArray, List.getElem?_cons_succ, List.getElem?_cons_zero] at z0 z1 z2 z3
      have hl2 := HS.out.lt
      have hl3 : w.heap.size < wr.heap.size := by omega
      go_wp2
      have HF := (((HS.out.setBox 0 (.int .i64 64)).setBox 1 (.int .i64 r)).setBox 2 (.slice none 0 0)).setBox 3 (.slice Av 64 cv)
      have HOF := own_only HO.out (((onlyE_set (D := fun b => b = w.heap.size) rfl 0 (.int .i64 64)).trans (onlyE_set (D := fun b => b = w.heap.size) rfl 1 (.int .i64 r))).trans ((onlyE_set (D := fun b => b = w.heap.size) rfl 2 (.slice none 0 0)).trans (onlyE_set (D := fun b => b = w.heap.size) rfl 3 (.slice Av 64 cv)))) fun b hb e => by
        have := (HO.out.lt b hb).1
        omega
      exact bodyPost_ret (results_cell_row rfl _ _ _ _ _ _ _ rfl HF.box Try.underlying29 rfl (by kernel_rfl)) rfl ⟨Av, cv, rfl, q1, q2, HOF, HF.below⟩

theorem refNew_midn (N : Nat) (r : Int) (w : World) (h1 : 1 ≤ N) (h2 : N ≤ 64) (hr : r < 0) (_ : -9223372036854775808 ≤ r) : Calls Try.prog 10 #[.int .i64 (N : Int), .int .i64 r] w fun e w' =>
    ∃ A2 c2, e = .returned (.agg #[.int .i64 (N : Int), .int .i64 0, .slice none 0 0, .slice A2 N c2]) ∧ N ≤ c2 ∧ c2 ≤ maxLen ∧ w'.ownsRow (w.heap.size + 2) 31 1 (.slice A2 N c2) N (uvs (List.replicate N 0)) ∧ RowKit.Below w.heap.size w w' := by
  have d1 : decide (N < 1) = false := decide_eq_false (by omega)
  have d2 : decide (64 < N) = false := decide_eq_false (by omega)
  have d3 : decide (r < 0) = true := decide_eq_true hr
  go_enter Try.func10, Try.ntmps10
  go_wp2_with fail
  generalize hW : World.alloc (World.alloc w _) _ = W0
  have S0 : Hid (SBox w zeroS #[.int .i64 (N : Int), .int .i64 0, .slice none 0 0, .slice none 0 0] W0) := SBox.start hW
  clear hW
  go_loopw [6] (fun s6 wr => ∃ k : Nat, k ≤ N ∧ s6 = .int .i64 (k : Int) ∧ ∃ v, Hid (SBox w zeroS #[.int .i64 (N : Int), .int .i64 0, .slice none 0 0, v] wr) ∧ Hid (wr.ownsRow (w.heap.size + 2) 31 1 v k (uvs (List.replicate k 0)))) (fun s6 _ => N - (intOf s6).toNat)
  case atStart => exact ⟨0, Nat.zero_le _, rfl, _, S0, World.ownsRow_nil _ _ _ _⟩
  case round =>
    obtain ⟨k, hk, rfl, v, HS, HO⟩ := hrel
    clear S0
    obtain ⟨Av, cv, rfl, q1, q2⟩ := own_slice HO.out
    have x3 := HS.out.cellR 3
    have f3 := HS.out.frR 3
    simp only [List.getElem?_toArray, List.getElem?_cons_succ, List.getElem?_cons_zero] at x3
    by_cases hlt : k < N
    · have hO := HO.out
      have hsz := HS.out.lt
      have hlt2 : w.heap.size + 1 < wr.heap.size := by omega
      go_wp2_with (first | (at_builtin; refine wpList_push rfl (.tmp 22) (.tmp 23) rfl (w.heap.size + 2) k (List.replicate k 0) 0 (.slice Av k cv) rfl rfl hO (by omega) hsz ?_) | fail)
      intro v2 w2 hO2 hb2
      obtain ⟨A3, c3, rfl, -⟩ := own_slice hO2
      rw [← List.replicate_succ'] at hO2
      have HS2 := Lib.hid (HS.out.up hb2)
      have g3 := HS2.out.frR 3
      have y3 := HS2.out.cellR 3
      simp only [List.getElem?_toArray, List.getElem?_cons_succ, List.getElem?_cons_zero] at y3
      have HO2 := Lib.hid hO2
      clear hO hO2 hb2 x3 f3 HO HS
      go_wp2
      go_roundw
      case rel =>
        refine ⟨k + 1, by omega, by go_num, _, HS2.out.setRes 3 _, ?_⟩
        exact own_only HO2.out (onlyE_set (D := fun b => b = w.heap.size + 1) rfl 3 _) fun b hb e => by
          have := (HO2.out.lt b hb).1
          omega
      case measure => simp [intOf]; omega
    · have hkN : k = N := by omega
      subst hkN
      have x0 := HS.out.cellR 0
      have x1 := HS.out.cellR 1
      have x2 := HS.out.cellR 2
      simp only [List.getElem?_toArray, List.getElem?_cons_succ, List.getElem?_cons_zero] at x0 x1 x2
      have b0 := HS.out.fr 0
      have b1 := HS.out.fr 1
      have b2 := HS.out.fr 2
      have b3 := HS.out.fr 3
      have z0 := HS.out.cell 0
      have z1 := HS.out.cell 1
      have z2 := HS.out.cell 2
      have z3 := HS.out.cell 3
      simp only [zeroS, List.getElem?_toArray, List.getElem?_cons_succ, List.getElem?_cons_zero] at z0 z1 z2 z3
      have hl2 := HS.out.lt
      have hl3 : w.heap.size < wr.heap.size := by omega
      go_wp2
      have HF := (((HS.out.setBox 0 (.int .i64 (k : Int))).setBox 1 (.int .i64 0)).setBox 2 (.slice none 0 0)).setBox 3 (.slice Av k cv)
      have HOF := own_only HO.out (((onlyE_set (D := fun b => b = w.heap.size) rfl 0 (.int .i64 (k : Int))).trans (onlyE_set (D := fun b => b = w.heap.size) rfl 1 (.int .i64 0))).trans ((onlyE_set (D := fun b => b = w.heap.size) rfl 2 (.slice none 0 0)).trans (onlyE_set (D := fun b => b = w.heap.size) rfl 3 (.slice Av k cv)))) fun b hb e => by
        have := (HO.out.lt b hb).1
        omega
      exact bodyPost_ret (results_cell_row rfl _ _ _ _ _ _ _ rfl HF.box Try.underlying29 rfl (by kernel_rfl)) rfl ⟨Av, cv, rfl, q1, q2, HOF, HF.below⟩

theorem refNew_lown (n r : Int) (w : World) (h1 : n < 1) (hr : r < 0) (_ : -9223372036854775808 ≤ r) : Calls Try.prog 10 #[.int .i64 n, .int .i64 r] w fun e w' =>
    ∃ A2 c2, e = .returned (.agg #[.int .i64 1, .int .i64 0, .slice none 0 0, .slice A2 1 c2]) ∧ 1 ≤ c2 ∧ c2 ≤ maxLen ∧ w'.ownsRow (w.heap.size + 2) 31 1 (.slice A2 1 c2) 1 (uvs (List.replicate 1 0)) ∧ RowKit.Below w.heap.size w w' := by
  have d1 : decide (n < 1) = true := decide_eq_true h1
  have d3 : decide (r < 0) = true := decide_eq_true hr
  go_enter Try.func10, Try.ntmps10
  go_wp2_with fail
  generalize hW : World.alloc (World.alloc w _) _ = W0
  have S0 : Hid (SBox w zeroS #[.int .i64 1, .int .i64 0, .slice none 0 0, .slice none 0 0] W0) := SBox.start hW
  clear hW
  go_loopw [6] (fun s6 wr => ∃ k : Nat, k ≤ 1 ∧ s6 = .int .i64 (k : Int) ∧ ∃ v, Hid (SBox w zeroS #[.int .i64 1, .int .i64 0, .slice none 0 0, v] wr) ∧ Hid (wr.ownsRow (w.heap.size + 2) 31 1 v k (uvs (List.replicate k 0)))) (fun s6 _ => 1 - (intOf s6).toNat)
  case atStart => exact ⟨0, Nat.zero_le _, rfl, _, S0, World.ownsRow_nil _ _ _ _⟩
  case round =>
    obtain ⟨k, hk, rfl, v, HS, HO⟩ := hrel
    clear S0
    obtain ⟨Av, cv, rfl, q1, q2⟩ := own_slice HO.out
    have x3 := HS.out.cellR 3
    have f3 := HS.out.frR 3
    simp only [List.getElem?_toArray, List.getElem?_cons_succ, List.getElem?_cons_zero] at x3
    by_cases hlt : k < 1
    · have hO := HO.out
      have hsz := HS.out.lt
      have hlt2 : w.heap.size + 1 < wr.heap.size := by omega
      go_wp2_with (first | (at_builtin; refine wpList_push rfl (.tmp 22) (.tmp 23) rfl (w.heap.size + 2) k (List.replicate k 0) 0 (.slice Av k cv) rfl rfl hO (by omega) hsz ?_) | fail)
      intro v2 w2 hO2 hb2
      obtain ⟨A3, c3, rfl, -⟩ := own_slice hO2
      rw [← List.replicate_succ'] at hO2
      have HS2 := Lib.hid (HS.out.up hb2)
      have g3 := HS2.out.frR 3
      have y3 := HS2.out.cellR 3
      simp only [List.getElem?_toArray, List.getElem?_cons_succ, List.getElem?_cons_zero] at y3
      have HO2 := Lib.hid hO2
      clear hO hO2 hb2 x3 f3 HO HS
      go_wp2
      go_roundw
      case rel =>
        refine ⟨k + 1, by omega, by go_num, _, HS2.out.setRes 3 _, ?_⟩
        exact own_only HO2.out (onlyE_set (D := fun b => b = w.heap.size + 1) rfl 3 _) fun b hb e => by
          have := (HO2.out.lt b hb).1
          omega
      case measure => simp [intOf]; omega
    · have hkN : k = 1 := by omega
      subst hkN
      have x0 := HS.out.cellR 0
      have x1 := HS.out.cellR 1
      have x2 := HS.out.cellR 2
      simp only [List.getElem?_toArray, List.getElem?_cons_succ, List.getElem?_cons_zero] at x0 x1 x2
      have b0 := HS.out.fr 0
      have b1 := HS.out.fr 1
      have b2 := HS.out.fr 2
      have b3 := HS.out.fr 3
      have z0 := HS.out.cell 0
      have z1 := HS.out.cell 1
      have z2 := HS.out.cell 2
      have z3 := HS.out.cell 3
      simp only [zeroS, List.getElem?_toArray, List.getElem?_cons_succ, List.getElem?_cons_zero] at z0 z1 z2 z3
      have hl2 := HS.out.lt
      have hl3 : w.heap.size < wr.heap.size := by omega
      go_wp2
      have HF := (((HS.out.setBox 0 (.int .i64 1)).setBox 1 (.int .i64 0)).setBox 2 (.slice none 0 0)).setBox 3 (.slice Av 1 cv)
      have HOF := own_only HO.out (((onlyE_set (D := fun b => b = w.heap.size) rfl 0 (.int .i64 1)).trans (onlyE_set (D := fun b => b = w.heap.size) rfl 1 (.int .i64 0))).trans ((onlyE_set (D := fun b => b = w.heap.size) rfl 2 (.slice none 0 0)).trans (onlyE_set (D := fun b => b = w.heap.size) rfl 3 (.slice Av 1 cv)))) fun b hb e => by
        have := (HO.out.lt b hb).1
        omega
      exact bodyPost_ret (results_cell_row rfl _ _ _ _ _ _ _ rfl HF.box Try.underlying29 rfl (by kernel_rfl)) rfl ⟨Av, cv, rfl, q1, q2, HOF, HF.below⟩

theorem refNew_highn (n r : Int) (w : World) (h1 : 64 < n) (hr : r < 0) (_ : -9223372036854775808 ≤ r) : Calls Try.prog 10 #[.int .i64 n, .int .i64 r] w fun e w' =>
    ∃ A2 c2, e = .returned (.agg #[.int .i64 64, .int .i64 0, .slice none 0 0, .slice A2 64 c2]) ∧ 64 ≤ c2 ∧ c2 ≤ maxLen ∧ w'.ownsRow (w.heap.size + 2) 31 1 (.slice A2 64 c2) 64 (uvs (List.replicate 64 0)) ∧ RowKit.Below w.heap.size w w' := by
  have d1 : decide (n < 1) = false := decide_eq_false (by omega)
  have d2 : decide (64 < n) = true := decide_eq_true h1
  have d3 : decide (r < 0) = true := decide_eq_true hr
  go_enter Try.func10, Try.ntmps10
  go_wp2_with fail
  generalize hW : World.alloc (World.alloc w _) _ = W0
  have S0 : Hid (SBox w zeroS #[.int .i64 64, .int .i64 0, .slice none 0 0, .slice none 0 0] W0) := SBox.start hW
  clear hW
  go_loopw [6] (fun s6 wr => ∃ k : Nat, k ≤ 64 ∧ s6 = .int .i64 (k : Int) ∧ ∃ v, Hid (SBox w zeroS #[.int .i64 64, .int .i64 0, .slice none 0 0, v] wr) ∧ Hid (wr.ownsRow (w.heap.size + 2) 31 1 v k (uvs (List.replicate k 0)))) (fun s6 _ => 64 - (intOf s6).toNat)
  case atStart => exact ⟨0, Nat.zero_le _, rfl, _, S0, World.ownsRow_nil _ _ _ _⟩
  case round =>
    obtain ⟨k, hk, rfl, v, HS, HO⟩ := hrel
    clear S0
    obtain ⟨Av, cv, rfl, q1, q2⟩ := own_slice HO.out
    have x3 := HS.out.cellR 3
    have f3 := HS.out.frR 3
    simp only [List.getElem?_toArray, List.getElem?_cons_succ, List.getElem?_cons_zero] at x3
    by_cases hlt : k < 64
    · have hO := HO.out
      have hsz := HS.out.lt
      have hlt2 : w.heap.size + 1 < wr.heap.size := by omega
      go_wp2_with (first | (at_builtin; refine wpList_push rfl (.tmp 22) (.tmp 23) rfl (w.heap.size + 2) k (List.replicate k 0) 0 (.slice Av k cv) rfl rfl hO (by omega) hsz ?_) | fail)
      intro v2 w2 hO2 hb2
      obtain ⟨A3, c3, rfl, -⟩ := own_slice hO2
      rw [← List.replicate_succ'] at hO2
      have HS2 := Lib.hid (HS.out.up hb2)
      have g3 := HS2.out.frR 3
      have y3 := HS2.out.cellR 3
      simp only [List.getElem?_toArray, List.getElem?_cons_succ, List.getElem?_cons_zero] at y3
      have HO2 := Lib.hid hO2
      clear hO hO2 hb2 x3 f3 HO HS
      go_wp2
      go_roundw
      case rel =>
        refine ⟨k + 1, by omega, by go_num, _, HS2.out.setRes 3 _, ?_⟩
        exact own_only HO2.out (onlyE_set (D := fun b => b = w.heap.size + 1) rfl 3 _) fun b hb e => by
          have := (HO2.out.lt b hb).1
          omega
      case measure => simp [intOf]; omega
    · have hkN : k = 64 := by omega
      subst hkN
      have x0 := HS.out.cellR 0
      have x1 := HS.out.cellR 1
      have x2 := HS.out.cellR 2
      simp only [List.getElem?_toArray, List.getElem?_cons_succ, List.getElem?_cons_zero] at x0 x1 x2
      have b0 := HS.out.fr 0
      have b1 := HS.out.fr 1
      have b2 := HS.out.fr 2
      have b3 := HS.out.fr 3
      have z0 := HS.out.cell 0
      have z1 := HS.out.cell 1
      have z2 := HS.out.cell 2
      have z3 := HS.out.cell 3
      simp only [zeroS, List.getElem?_toArray, List.getElem?_cons_succ, List.getElem?_cons_zero] at z0 z1 z2 z3
      have hl2 := HS.out.lt
      have hl3 : w.heap.size < wr.heap.size := by omega
      go_wp2
      have HF := (((HS.out.setBox 0 (.int .i64 64)).setBox 1 (.int .i64 0)).setBox 2 (.slice none 0 0)).setBox 3 (.slice Av 64 cv)
      have HOF := own_only HO.out (((onlyE_set (D := fun b => b = w.heap.size) rfl 0 (.int .i64 64)).trans (onlyE_set (D := fun b => b = w.heap.size) rfl 1 (.int .i64 0))).trans ((onlyE_set (D := fun b => b = w.heap.size) rfl 2 (.slice none 0 0)).trans (onlyE_set (D := fun b => b = w.heap.size) rfl 3 (.slice Av 64 cv)))) fun b hb e => by
        have := (HO.out.lt b hb).1
        omega
      exact bodyPost_ret (results_cell_row rfl _ _ _ _ _ _ _ rfl HF.box Try.underlying29 rfl (by kernel_rfl)) rfl ⟨Av, cv, rfl, q1, q2, HOF, HF.below⟩

theorem refNew_any (n r : Int) (w : World) (hr : -9223372036854775808 ≤ r ∧ r ≤ 9223372036854775807) : Calls Try.prog 10 #[.int .i64 n, .int .i64 r] w fun e w' =>
    ∃ A2 c2, e = .returned (.agg (rsCells none 0 A2 c2 (Sm.new n r))) ∧ (∀ D, (∀ b, D b → b < w.heap.size) → RsAt w' D none 0 A2 c2 (Sm.new n r)) ∧ RowKit.Below w.heap.size w w' := by
  have key : ∀ (N rm : Nat), inN n = N → r.toNat = rm → ∀ e w', (∃ A2 c2, e = Ending.returned (.agg #[.int .i64 (N : Int), .int .i64 (rm : Int), .slice none 0 0, .slice A2 N c2]) ∧ N ≤ c2 ∧ c2 ≤ maxLen ∧ w'.ownsRow (w.heap.size + 2) 31 1 (.slice A2 N c2) N (uvs (List.replicate N 0)) ∧ RowKit.Below w.heap.size w w') →
      ∃ A2 c2, e = .returned (.agg (rsCells none 0 A2 c2 (Sm.new n r))) ∧ (∀ D, (∀ b, D b → b < w.heap.size) → RsAt w' D none 0 A2 c2 (Sm.new n r)) ∧ RowKit.Below w.heap.size w w' := by
    rintro N rm hN hrm e w' ⟨A2, c2, rfl, h1, h2, h3, h4⟩
    subst hN hrm
    exact ⟨A2, c2, rfl, fun D hD => ⟨LiesX.nil, Nat.le_refl _, Nat.zero_le _, LiesX.of_own h3 fun b hb => by have := hD b hb; omega, h1, h2⟩, h4⟩
  by_cases hr0 : r < 0
  · have hrm : r.toNat = 0 := by omega
    by_cases h1 : n < 1
    · exact (refNew_lown n r w h1 hr0 hr.1).mono (key 1 0 (by unfold inN; rw [if_pos h1]) hrm)
    · by_cases h2 : 64 < n
      · exact (refNew_highn n r w h2 hr0 hr.1).mono (key 64 0 (by unfold inN; rw [if_neg h1, if_pos h2]) hrm)
      · obtain ⟨N, rfl⟩ : ∃ N : Nat, n = (N : Int) := ⟨n.toNat, by omega⟩
        exact (refNew_midn N r w (by omega) (by omega) hr0 hr.1).mono (key N 0 (by unfold inN; rw [if_neg h1, if_neg h2]; simp) hrm)
  · obtain ⟨rm, rfl⟩ : ∃ rm : Nat, r = (rm : Int) := ⟨r.toNat, by omega⟩
    have hrm : (rm : Int).toNat = rm := by simp
    by_cases h1 : n < 1
    · exact (refNew_lowp n (rm : Int) w h1 (by omega) hr.2).mono (key 1 rm (by unfold inN; rw [if_pos h1]) hrm)
    · by_cases h2 : 64 < n
      · exact (refNew_highp n (rm : Int) w h2 (by omega) hr.2).mono (key 64 rm (by unfold inN; rw [if_neg h1, if_pos h2]) hrm)
      · obtain ⟨N, rfl⟩ : ∃ N : Nat, n = (N : Int) := ⟨n.toNat, by omega⟩
        exact (refNew_midp N (rm : Int) w (by omega) (by omega) (by omega) hr.2).mono (key N rm (by unfold inN; rw [if_neg h1, if_neg h2]; simp) hrm)

end Go.Proofs.Ytnpdjlcekmpmoaa
