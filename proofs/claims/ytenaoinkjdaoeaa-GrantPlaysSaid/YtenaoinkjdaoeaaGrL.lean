/- Stage 17: the document's Tell and Gone. -/
import Derived.Test.YtenaoinkjdaoeaaGrK
set_option maxRecDepth 20000
namespace Go.Proofs.Ytenaoinkjdaoeaa
open Go.RowKit Go.Sort

theorem drewB (W : World) : RowKit.Below W.heap.size W W.drew := (RowKit.Below.refl _ _).drew
/-- Nothing is changed. -/
theorem Dgot.same {w W : World} {A : Option Addr} {c : Nat} {l : List Wd} (hc : l.length ≤ c ∧ c ≤ maxLen) (hb : RowKit.Below w.heap.size w W) : Dgot w A l l A c W :=
  ⟨hc.1, hc.2, hb, fun _ _ hX => hX.kept (OnlyE.of_below hb)⟩

/-- The document answers as it stands. -/
theorem answer_same {w w0 : World} {A : Option Addr} {n c me : Nat} {l : List Wd} (hB : TBox w (dgc (.slice A n c) me) zeroG w0) (hl : l.length = n) (hc : n ≤ c ∧ c ≤ maxLen) :
    (((w0.setCell ⟨w.heap.size + 1, 0, none⟩ (.slice A n c)).setCell ⟨w.heap.size + 1, 1, none⟩ (.int .i64 (me : Int))).heap[w.heap.size + 1]? = some (.cells (dgc (.slice A n c) me) 29 (0, 0))) ∧
      Dgot w A l l A c ((w0.setCell ⟨w.heap.size + 1, 0, none⟩ (.slice A n c)).setCell ⟨w.heap.size + 1, 1, none⟩ (.int .i64 (me : Int))) := by
  subst hl
  have h := (hB.setR 0 (.slice A l.length c)).setR 1 (.int .i64 (me : Int))
  exact ⟨h.r, Dgot.same hc h.below⟩
/-- The document answers what with has made. -/
theorem answer_new {w W0 W1 : World} {A A' : Option Addr} {n c' me : Nat} {l l' : List Wd} {gs : Array Value} (hB : TBox w gs zeroG W1) (hb0 : RowKit.Below w.heap.size w W0) (h2 : w.heap.size + 1 < W0.heap.size) (hD : Dgot W0 A l l' A' c' W1) :
    (((W1.setCell ⟨w.heap.size + 1, 0, none⟩ (.slice A' n c')).setCell ⟨w.heap.size + 1, 1, none⟩ (.int .i64 (me : Int))).heap[w.heap.size + 1]? = some (.cells (dgc (.slice A' n c') me) 29 (0, 0))) ∧
      Dgot w A l l' A' c' ((W1.setCell ⟨w.heap.size + 1, 0, none⟩ (.slice A' n c')).setCell ⟨w.heap.size + 1, 1, none⟩ (.int .i64 (me : Int))) := by
  have h := (hB.setR 0 (.slice A' n c')).setR 1 (.int .i64 (me : Int))
  refine ⟨h.r, hD.1, hD.2.1, h.below, fun D hDl hX => ?_⟩
  have e1 : LiesX w (fun b => D b ∨ b = w.heap.size + 1) A (flat encW l) := hX.widen fun k hk => hk.imp id fun e => by omega
  have e2 := e1.kept (OnlyE.of_below (D := fun b => D b ∨ b = w.heap.size + 1) hb0)
  have e3 := hD.2.2.2 _ (fun b hb => by
    rcases hb with hb | rfl
    · exact Nat.lt_of_lt_of_le (hDl b hb) hb0.size
    · exact h2) e2
  have e4 := e3.kept ((onlyE_set (w := W1) (D := fun b => D b ∨ b = w.heap.size + 1) (.inr rfl) 0 (.slice A' n c')).trans (onlyE_set (D := fun b => D b ∨ b = w.heap.size + 1) (.inr rfl) 1 (.int .i64 (me : Int))))
  exact e4.widen fun k hk => .inl (.inl hk)

set_option maxHeartbeats 3200000 in
theorem refTell_any (A : Option Addr) (n c me : Nat) (P : Int) (u : Nat) (l : List Wd) (w : World) (hl : l.length = n) (hn : n ≤ 64) (hc : n ≤ c ∧ c ≤ maxLen) (hL : Lies w w.heap.size A (flat encW l)) :
    Calls Try.prog 12 #[.agg (dgc (.slice A n c) me), .int .i64 P, .int .u64 (u : Int)] w fun e w' =>
      ∃ A' c', e = .returned (.tuple #[.agg (dgc (.slice A' n c') me), .bool (tellB l P u)]) ∧ Hid (Dgot w A l (tellL l P u) A' c' w') := by
  have mixed := mixedOrders
  have HC := Lib.hid hc
  have HLL := Lib.hid hl
  have HK := Lib.hid hL
  clear hc hl hL
  by_cases hp : hasB l P = true
  · obtain ⟨k, rfl, hk⟩ := hasB_iff.1 hp
    have hkn : k < n := by rw [← HLL.out]; exact hk
    obtain ⟨b, off, rfl, hbl, hcc⟩ := dws_at HK.out hk
    obtain ⟨ct, ch⟩ := hcc k hk
    have d1 : decide ((k : Int) < 0) = false := by simp
    have d2 : decide (n ≤ k) = false := by simp; omega
    have HE : Hid (tellB l (k : Int) u = decide ((wat l k).t < u)) := by show _ = _; unfold tellB; rw [hp, Bool.true_and, Int.toNat_natCast]
    by_cases hu : (wat l k).t < u
    · have HB : Hid (tellB l (k : Int) u = true) := by show _ = _; rw [HE.out, decide_eq_true hu]
      have HT : Hid (tellL l (k : Int) u = l.set k ⟨u, (wat l k).h⟩) := by show _ = _; unfold tellL; rw [if_pos HB.out, Int.toNat_natCast]
      have d3 : decide (u ≤ (wat l k).t) = false := by simp; omega
      have HW : Hid (∀ W, RowKit.Below w.heap.size w W → Calls Try.prog 20 #[.agg (dgc (.slice (some ⟨b, off, none⟩) n c) me), .int .i64 (k : Int), .agg #[.int .u64 (u : Int), .bool (wat l k).h]] W fun e w' =>
        ∃ A' c', e = .returned (.agg (dgc (.slice A' n c') me)) ∧ Hid (Dgot W (some ⟨b, off, none⟩) l (l.set k ⟨u, (wat l k).h⟩) A' c' w')) := fun W hW => refWith_any (some ⟨b, off, none⟩) n c me k u (wat l k).h l W HLL.out hn hkn (HK.out.on hW)
      generalize (wat l k).t = t at ct d3
      clear hcc hp hk hu HE
      unfold dgc at HW ⊢
      go_enter Try.func12, Try.ntmps12
      go_upto_region 1 with fail
      generalize hw0 : World.alloc (World.alloc w _) _ = w0
      have HX := Lib.hid (TBox.start hw0)
      clear hw0
      have x0 : w0.cell? ⟨w.heap.size, 0, none⟩ = some (.slice (some ⟨b, off, none⟩) n c) := HX.out.cellG 0
      have x1 : w0.cell? ⟨w.heap.size, 1, none⟩ = some (.int .i64 (me : Int)) := HX.out.cellG 1
      have yt : w0.cell? ⟨b, off + k * 2, none⟩ = some (.int .u64 (t : Int)) := (HX.out.below.cell (p := ⟨b, off + k * 2, none⟩) hbl).trans ct
      have yh : w0.cell? ⟨b, off + k * 2 + 1, none⟩ = some (.bool (wat l k).h) := (HX.out.below.cell (p := ⟨b, off + k * 2 + 1, none⟩) hbl).trans ch
      clear ct ch
      go_upto_region 3 with fail
      have HZ : Hid (∀ V, OnlyE w0 V (fun b => b = w.heap.size + 1) → V.cell? ⟨w.heap.size, 0, none⟩ = some (.slice (some ⟨b, off, none⟩) n c) ∧ V.cell? ⟨w.heap.size, 1, none⟩ = some (.int .i64 (me : Int)) ∧ V.cell? ⟨b, off + k * 2, none⟩ = some (.int .u64 (t : Int)) ∧ V.cell? ⟨b, off + k * 2 + 1, none⟩ = some (.bool (wat l k).h)) := fun V hV => by
        have h1 := HX.out.lt
        exact ⟨(hV.cell (by omega) (by omega)).trans x0, (hV.cell (by omega) (by omega)).trans x1, (hV.cell (by omega) (by omega)).trans yt, (hV.cell (by omega) (by omega)).trans yh⟩
      clear x0 x1 yt yh
      refine wp_region_Z 12 (fun V => OnlyE w0 V (fun b => b = w.heap.size + 1)) (by kernel_rfl) ?_
      have hHeld : OnlyE w0 w0.drew (fun b => b = w.heap.size + 1) := OnlyE.of_below (drewB w0)
      have hW : RowKit.Below w0.heap.size w0 w0.drew := drewB w0
      generalize hW00 : World.drew w0 = W00 at hHeld hW ⊢
      clear hW00
      refine wpZ_take (i := 0) (d := 28) (v := ?_) rfl rfl (by kernel_rfl) (by kernel_rfl) (by kernel_rfl) (by kernel_rfl) (fun _ _ _ h => h) (Or.inl ⟨by rfl, ?_⟩) hHeld ?_
      rotate_left
      · (intro _ hSw; obtain ⟨x0, x1, yt, yh⟩ := HZ.out _ hSw; go_simp; try with_reducible rfl)
      simp only [List.setIfInBounds_toArray, List.set_cons_zero, List.set_cons_succ]
      refine wpZ_take (i := 1) (d := 29) (v := ?_) rfl rfl (by kernel_rfl) (by kernel_rfl) (by kernel_rfl) (by kernel_rfl) (fun _ _ _ h => h) (Or.inl ⟨by rfl, ?_⟩) hHeld ?_
      rotate_left
      · (intro _ hSw; obtain ⟨x0, x1, yt, yh⟩ := HZ.out _ hSw; go_simp; try with_reducible rfl)
      simp only [List.setIfInBounds_toArray, List.set_cons_zero, List.set_cons_succ]
      refine wpZ_take (i := 2) (d := 30) (v := ?_) rfl rfl (by kernel_rfl) (by kernel_rfl) (by kernel_rfl) (by kernel_rfl) (fun _ _ _ h => h) (Or.inl ⟨by rfl, ?_⟩) hHeld ?_
      rotate_left
      · (intro _ hSw; obtain ⟨x0, x1, yt, yh⟩ := HZ.out _ hSw; go_simp; try with_reducible rfl)
      simp only [List.setIfInBounds_toArray, List.set_cons_zero, List.set_cons_succ]
      refine wpZ_take (i := 3) (d := 31) (v := ?_) rfl rfl (by kernel_rfl) (by kernel_rfl) (by kernel_rfl) (by kernel_rfl) (fun _ _ _ h => h) (Or.inl ⟨by rfl, ?_⟩) hHeld ?_
      rotate_left
      · (intro _ hSw; obtain ⟨x0, x1, yt, yh⟩ := HZ.out _ hSw; go_simp; try with_reducible rfl)
      simp only [List.setIfInBounds_toArray, List.set_cons_zero, List.set_cons_succ]
      refine wpZ_take (i := 4) (d := 32) (v := ?_) rfl rfl (by kernel_rfl) (by kernel_rfl) (by kernel_rfl) (by kernel_rfl) (fun _ _ _ h => h) (Or.inl ⟨by rfl, ?_⟩) hHeld ?_
      rotate_left
      · (intro _ hSw; obtain ⟨x0, x1, yt, yh⟩ := HZ.out _ hSw; go_simp; try with_reducible rfl)
      simp only [List.setIfInBounds_toArray, List.set_cons_zero, List.set_cons_succ]
      refine wpZ_take (i := 5) (d := 33) (v := ?_) rfl rfl (by kernel_rfl) (by kernel_rfl) (by kernel_rfl) (by kernel_rfl) (fun _ _ _ h => h) (Or.inl ⟨by rfl, ?_⟩) hHeld ?_
      rotate_left
      · (intro _ hSw; obtain ⟨x0, x1, yt, yh⟩ := HZ.out _ hSw; go_simp; try with_reducible rfl)
      simp only [List.setIfInBounds_toArray, List.set_cons_zero, List.set_cons_succ]
      refine wpZ_take (i := 6) (d := 34) (v := ?_) rfl rfl (by kernel_rfl) (by kernel_rfl) (by kernel_rfl) (by kernel_rfl) (fun _ _ _ h => h) (Or.inl ⟨by rfl, ?_⟩) hHeld ?_
      rotate_left
      · (intro _ hSw; obtain ⟨x0, x1, yt, yh⟩ := HZ.out _ hSw; go_simp; try with_reducible rfl)
      simp only [List.setIfInBounds_toArray, List.set_cons_zero, List.set_cons_succ]
      refine wpZ_take (i := 7) (d := 35) (v := ?_) rfl rfl (by kernel_rfl) (by kernel_rfl) (by kernel_rfl) (by kernel_rfl) (fun _ _ _ h => h) (Or.inl ⟨by rfl, ?_⟩) hHeld ?_
      rotate_left
      · (intro _ hSw; obtain ⟨x0, x1, yt, yh⟩ := HZ.out _ hSw; go_simp; try with_reducible rfl)
      simp only [List.setIfInBounds_toArray, List.set_cons_zero, List.set_cons_succ]
      refine wpZ_take (i := 8) (d := 36) (v := ?_) rfl rfl (by kernel_rfl) (by kernel_rfl) (by kernel_rfl) (by kernel_rfl) (fun _ _ _ h => h) (Or.inl ⟨by rfl, ?_⟩) hHeld ?_
      rotate_left
      · (intro _ hSw; obtain ⟨x0, x1, yt, yh⟩ := HZ.out _ hSw; go_simp; try with_reducible rfl)
      simp only [List.setIfInBounds_toArray, List.set_cons_zero, List.set_cons_succ]
      refine wpZ_take (i := 9) (d := 37) (v := ?_) rfl rfl (by kernel_rfl) (by kernel_rfl) (by kernel_rfl) (by kernel_rfl) (fun _ _ _ h => h) (Or.inl ⟨by rfl, ?_⟩) hHeld ?_
      rotate_left
      · (intro _ hSw; obtain ⟨x0, x1, yt, yh⟩ := HZ.out _ hSw; go_simp; try with_reducible rfl)
      simp only [List.setIfInBounds_toArray, List.set_cons_zero, List.set_cons_succ]
      refine wpZ_ready (rs := [10]) (by kernel_rfl) (by simp) ?_
      refine AllReadyZ.cons rfl (fun K hK => ?_) AllReadyZ.nil
      go_simp
      refine (HW.out W00 (HX.out.below.trans (hW.mono HX.out.below.size))).mono ?_
      rintro e W1 ⟨A', c', rfl, hD⟩
      have HX1 := Lib.hid ((HX.out.on hW).on hD.out.2.2.1)
      have HWL : Hid (RowKit.Below w.heap.size w W00 ∧ w.heap.size + 1 < W00.heap.size) := ⟨HX.out.below.trans (hW.mono HX.out.below.size), (HX.out.on hW).lt⟩
      have hHeld2 := hHeld.trans (OnlyE.of_below hD.out.2.2.1)
      refine hK.out _ _ (fun _ => hHeld2) ?_
      clear hK K hHeld
      have hHeld := hHeld2
      clear hHeld2
      have r0 : W1.cell? ⟨w.heap.size + 1, 0, none⟩ = some (.slice none 0 0) := HX1.out.cellR 0
      have r1 : W1.cell? ⟨w.heap.size + 1, 1, none⟩ = some (.int .i64 0) := HX1.out.cellR 1
      have rf0 := HX1.out.frR 0
      have rf1 := HX1.out.frR 1
      clear hW HX HZ HW
      refine wpZ_ready (rs := [11]) (by kernel_rfl) (by simp) ?_
      refine AllReadyZ.cons rfl (fun K hK => ?_) AllReadyZ.nil
      go_simp
      have hHeld2 := hHeld.trans ((onlyE_set (w := W1) (D := fun b => b = w.heap.size + 1) rfl 0 (.slice A' n c')).trans (onlyE_set (D := fun b => b = w.heap.size + 1) rfl 1 (.int .i64 (me : Int))))
      refine hK.out _ _ (fun _ => hHeld2) ?_
      clear hK K hHeld
      have hHeld := hHeld2
      clear hHeld2
      refine wpZ_ready (rs := [12]) (by kernel_rfl) (by simp) ?_
      refine AllReadyZ.cons rfl (fun K hK => ?_) AllReadyZ.nil
      go_simp
      refine hK.out _ _ (fun h => absurd rfl h) ?_
      clear hK K
      refine wpZ_done (by kernel_rfl) ?_ _
      obtain ⟨q1, q2⟩ := answer_new (n := n) (me := me) HX1.out HWL.out.1 HWL.out.2 hD.out
      clear r0 r1 rf0 rf1 hHeld HX1 HWL hD
      generalize World.setCell (W1.setCell _ _) _ _ = W2 at q1 q2 ⊢
      have Q1 := Lib.hid q1
      have Q2 := Lib.hid q2
      clear q1 q2
      go_wp2
      refine bodyPost_ret (results_cell_tmp rfl _ _ (w.heap.size + 1) _ rfl (load_rowG Q1.out rfl)) rfl ?_
      exact ⟨A', c', by rw [HB.out]; rfl, by rw [HT.out]; exact Q2.out⟩
    · have HB : Hid (tellB l (k : Int) u = false) := by show _ = _; rw [HE.out, decide_eq_false hu]
      have HT : Hid (tellL l (k : Int) u = l) := by show _ = _; unfold tellL; rw [HB.out]; rfl
      have d3 : decide (u ≤ (wat l k).t) = true := by simp; omega
      generalize (wat l k).t = t at ct d3
      clear hcc hp hk hu HE
      unfold dgc
      go_enter Try.func12, Try.ntmps12
      go_upto_region 1 with fail
      generalize hw0 : World.alloc (World.alloc w _) _ = w0
      have HX := Lib.hid (TBox.start hw0)
      clear hw0
      have x0 : w0.cell? ⟨w.heap.size, 0, none⟩ = some (.slice (some ⟨b, off, none⟩) n c) := HX.out.cellG 0
      have x1 : w0.cell? ⟨w.heap.size, 1, none⟩ = some (.int .i64 (me : Int)) := HX.out.cellG 1
      have r0 : w0.cell? ⟨w.heap.size + 1, 0, none⟩ = some (.slice none 0 0) := HX.out.cellR 0
      have r1 : w0.cell? ⟨w.heap.size + 1, 1, none⟩ = some (.int .i64 0) := HX.out.cellR 1
      have rf0 := HX.out.frR 0
      have rf1 := HX.out.frR 1
      have yt : w0.cell? ⟨b, off + k * 2, none⟩ = some (.int .u64 (t : Int)) := (HX.out.below.cell (p := ⟨b, off + k * 2, none⟩) hbl).trans ct
      clear ct ch
      go_wp2
      obtain ⟨q1, q2⟩ := answer_same HX.out HLL.out HC.out
      refine bodyPost_ret (results_cell_tmp rfl _ _ (w.heap.size + 1) _ rfl (load_rowG q1 rfl)) rfl ?_
      exact ⟨_, c, by rw [HB.out]; rfl, by rw [HT.out]; exact q2⟩
  · rw [Bool.not_eq_true] at hp
    have HB : Hid (tellB l P u = false) := by show _ = _; unfold tellB; rw [hp]; rfl
    have HT : Hid (tellL l P u = l) := by show _ = _; unfold tellL; rw [HB.out]; rfl
    have hP : P < 0 ∨ (n : Int) ≤ P := by
      by_cases h : P < 0
      · exact .inl h
      · refine .inr ?_
        have : ¬ P.toNat < n := fun h' => by
          have := (hasB_iff (l := l) (P := P)).2 ⟨P.toNat, by omega, by rw [HLL.out]; exact h'⟩
          rw [hp] at this
          cases this
        omega
    clear hp
    unfold dgc
    rcases hP with h | h
    · skip
      go_enter Try.func12, Try.ntmps12
      go_upto_region 1 with fail
      generalize hw0 : World.alloc (World.alloc w _) _ = w0
      have HX := Lib.hid (TBox.start hw0)
      clear hw0
      have x0 : w0.cell? ⟨w.heap.size, 0, none⟩ = some (.slice A n c) := HX.out.cellG 0
      have x1 : w0.cell? ⟨w.heap.size, 1, none⟩ = some (.int .i64 (me : Int)) := HX.out.cellG 1
      have r0 : w0.cell? ⟨w.heap.size + 1, 0, none⟩ = some (.slice none 0 0) := HX.out.cellR 0
      have r1 : w0.cell? ⟨w.heap.size + 1, 1, none⟩ = some (.int .i64 0) := HX.out.cellR 1
      have rf0 := HX.out.frR 0
      have rf1 := HX.out.frR 1
      go_wp2
      obtain ⟨q1, q2⟩ := answer_same HX.out HLL.out HC.out
      refine bodyPost_ret (results_cell_tmp rfl _ _ (w.heap.size + 1) _ rfl (load_rowG q1 rfl)) rfl ?_
      exact ⟨_, c, by rw [HB.out]; rfl, by rw [HT.out]; exact q2⟩
    · have h0 : ¬ P < 0 := by omega
      go_enter Try.func12, Try.ntmps12
      go_upto_region 1 with fail
      generalize hw0 : World.alloc (World.alloc w _) _ = w0
      have HX := Lib.hid (TBox.start hw0)
      clear hw0
      have x0 : w0.cell? ⟨w.heap.size, 0, none⟩ = some (.slice A n c) := HX.out.cellG 0
      have x1 : w0.cell? ⟨w.heap.size, 1, none⟩ = some (.int .i64 (me : Int)) := HX.out.cellG 1
      have r0 : w0.cell? ⟨w.heap.size + 1, 0, none⟩ = some (.slice none 0 0) := HX.out.cellR 0
      have r1 : w0.cell? ⟨w.heap.size + 1, 1, none⟩ = some (.int .i64 0) := HX.out.cellR 1
      have rf0 := HX.out.frR 0
      have rf1 := HX.out.frR 1
      go_wp2
      obtain ⟨q1, q2⟩ := answer_same HX.out HLL.out HC.out
      refine bodyPost_ret (results_cell_tmp rfl _ _ (w.heap.size + 1) _ rfl (load_rowG q1 rfl)) rfl ?_
      exact ⟨_, c, by rw [HB.out]; rfl, by rw [HT.out]; exact q2⟩

set_option maxHeartbeats 3200000 in
theorem refGone_any (A : Option Addr) (n c me : Nat) (P : Int) (l : List Wd) (w : World) (hl : l.length = n) (hn : n ≤ 64) (hc : n ≤ c ∧ c ≤ maxLen) (hL : Lies w w.heap.size A (flat encW l)) :
    Calls Try.prog 10 #[.agg (dgc (.slice A n c) me), .int .i64 P] w fun e w' =>
      ∃ A' c', e = .returned (.tuple #[.agg (dgc (.slice A' n c') me), .int .i64 (goneN l me P : Int)]) ∧ Hid (Dgot w A l (goneL l me P) A' c' w') := by
  have mixed := mixedOrders
  have HC := Lib.hid hc
  have HLL := Lib.hid hl
  have HK := Lib.hid hL
  clear hc hl hL
  by_cases hp : hasB l P = true
  · obtain ⟨k, rfl, hk⟩ := hasB_iff.1 hp
    have hkn : k < n := by rw [← HLL.out]; exact hk
    obtain ⟨b, off, rfl, hbl, hcc⟩ := dws_at HK.out hk
    obtain ⟨ct, ch⟩ := hcc k hk
    have d1 : decide ((k : Int) < 0) = false := by simp
    have d2 : decide (n ≤ k) = false := by simp; omega
    by_cases hm : k = me
    · have HG : Hid (goneB l me (k : Int) = false) := by show _ = _; unfold goneB; rw [hp, Int.toNat_natCast, decide_eq_false (by simpa using hm)]; rfl
      have HT : Hid (goneL l me (k : Int) = l) := by show _ = _; unfold goneL; rw [HG.out]; rfl
      have HB : Hid (goneN l me (k : Int) = 0) := by show _ = _; unfold goneN; rw [HG.out]; rfl
      have d3 : ((k : Int) == (me : Int)) = true := by simp; omega
      clear hcc hp hk hm ct ch
      unfold dgc
      go_enter Try.func10, Try.ntmps10
      go_upto_region 1 with fail
      generalize hw0 : World.alloc (World.alloc w _) _ = w0
      have HX := Lib.hid (TBox.start hw0)
      clear hw0
      have x0 : w0.cell? ⟨w.heap.size, 0, none⟩ = some (.slice (some ⟨b, off, none⟩) n c) := HX.out.cellG 0
      have x1 : w0.cell? ⟨w.heap.size, 1, none⟩ = some (.int .i64 (me : Int)) := HX.out.cellG 1
      have r0 : w0.cell? ⟨w.heap.size + 1, 0, none⟩ = some (.slice none 0 0) := HX.out.cellR 0
      have r1 : w0.cell? ⟨w.heap.size + 1, 1, none⟩ = some (.int .i64 0) := HX.out.cellR 1
      have rf0 := HX.out.frR 0
      have rf1 := HX.out.frR 1
      go_wp2
      obtain ⟨q1, q2⟩ := answer_same HX.out HLL.out HC.out
      refine bodyPost_ret (results_cell_tmp rfl _ _ (w.heap.size + 1) _ rfl (load_rowG q1 rfl)) rfl ?_
      exact ⟨_, c, by rw [HB.out]; rfl, by rw [HT.out]; exact q2⟩
    · have d3 : ((k : Int) == (me : Int)) = false := by simp; omega
      cases hh : (wat l k).h
      · have HG : Hid (goneB l me (k : Int) = true) := by show _ = _; unfold goneB; rw [hp, Int.toNat_natCast, decide_eq_true hm, hh]; rfl
        have HT : Hid (goneL l me (k : Int) = l.set k ⟨(wat l k).t, true⟩) := by show _ = _; unfold goneL; rw [if_pos HG.out, Int.toNat_natCast]
        have HB : Hid (goneN l me (k : Int) = 1) := by show _ = _; unfold goneN; rw [HG.out]; rfl
        rw [hh] at ch
        have HW : Hid (∀ W, RowKit.Below w.heap.size w W → Calls Try.prog 20 #[.agg (dgc (.slice (some ⟨b, off, none⟩) n c) me), .int .i64 (k : Int), .agg #[.int .u64 ((wat l k).t : Int), .bool true]] W fun e w' =>
          ∃ A' c', e = .returned (.agg (dgc (.slice A' n c') me)) ∧ Hid (Dgot W (some ⟨b, off, none⟩) l (l.set k ⟨(wat l k).t, true⟩) A' c' w')) := fun W hW => refWith_any (some ⟨b, off, none⟩) n c me k (wat l k).t true l W HLL.out hn hkn (HK.out.on hW)
        generalize (wat l k).t = t at ct HT HW
        clear hcc hp hk hm hh
        unfold dgc at HW ⊢
        go_enter Try.func10, Try.ntmps10
        go_upto_region 1 with fail
        generalize hw0 : World.alloc (World.alloc w _) _ = w0
        have HX := Lib.hid (TBox.start hw0)
        clear hw0
        have x0 : w0.cell? ⟨w.heap.size, 0, none⟩ = some (.slice (some ⟨b, off, none⟩) n c) := HX.out.cellG 0
        have x1 : w0.cell? ⟨w.heap.size, 1, none⟩ = some (.int .i64 (me : Int)) := HX.out.cellG 1
        have yt : w0.cell? ⟨b, off + k * 2, none⟩ = some (.int .u64 (t : Int)) := (HX.out.below.cell (p := ⟨b, off + k * 2, none⟩) hbl).trans ct
        have yh : w0.cell? ⟨b, off + k * 2 + 1, none⟩ = some (.bool false) := (HX.out.below.cell (p := ⟨b, off + k * 2 + 1, none⟩) hbl).trans ch
        clear ct ch
        go_upto_region 3 with fail
        have HZ : Hid (∀ V, OnlyE w0 V (fun b => b = w.heap.size + 1) → V.cell? ⟨w.heap.size, 0, none⟩ = some (.slice (some ⟨b, off, none⟩) n c) ∧ V.cell? ⟨w.heap.size, 1, none⟩ = some (.int .i64 (me : Int)) ∧ V.cell? ⟨b, off + k * 2, none⟩ = some (.int .u64 (t : Int)) ∧ V.cell? ⟨b, off + k * 2 + 1, none⟩ = some (.bool false)) := fun V hV => by
          have h1 := HX.out.lt
          exact ⟨(hV.cell (by omega) (by omega)).trans x0, (hV.cell (by omega) (by omega)).trans x1, (hV.cell (by omega) (by omega)).trans yt, (hV.cell (by omega) (by omega)).trans yh⟩
        clear x0 x1 yt yh
        refine wp_region_Z 11 (fun V => OnlyE w0 V (fun b => b = w.heap.size + 1)) (by kernel_rfl) ?_
        have hHeld : OnlyE w0 w0.drew (fun b => b = w.heap.size + 1) := OnlyE.of_below (drewB w0)
        have hW : RowKit.Below w0.heap.size w0 w0.drew := drewB w0
        generalize hW00 : World.drew w0 = W00 at hHeld hW ⊢
        clear hW00
        refine wpZ_take (i := 0) (d := 30) (v := ?_) rfl rfl (by kernel_rfl) (by kernel_rfl) (by kernel_rfl) (by kernel_rfl) (fun _ _ _ h => h) (Or.inl ⟨by rfl, ?_⟩) hHeld ?_
        rotate_left
        · (intro _ hSw; obtain ⟨x0, x1, yt, yh⟩ := HZ.out _ hSw; go_simp; try with_reducible rfl)
        simp only [List.setIfInBounds_toArray, List.set_cons_zero, List.set_cons_succ]
        refine wpZ_take (i := 1) (d := 31) (v := ?_) rfl rfl (by kernel_rfl) (by kernel_rfl) (by kernel_rfl) (by kernel_rfl) (fun _ _ _ h => h) (Or.inl ⟨by rfl, ?_⟩) hHeld ?_
        rotate_left
        · (intro _ hSw; obtain ⟨x0, x1, yt, yh⟩ := HZ.out _ hSw; go_simp; try with_reducible rfl)
        simp only [List.setIfInBounds_toArray, List.set_cons_zero, List.set_cons_succ]
        refine wpZ_take (i := 2) (d := 32) (v := ?_) rfl rfl (by kernel_rfl) (by kernel_rfl) (by kernel_rfl) (by kernel_rfl) (fun _ _ _ h => h) (Or.inl ⟨by rfl, ?_⟩) hHeld ?_
        rotate_left
        · (intro _ hSw; obtain ⟨x0, x1, yt, yh⟩ := HZ.out _ hSw; go_simp; try with_reducible rfl)
        simp only [List.setIfInBounds_toArray, List.set_cons_zero, List.set_cons_succ]
        refine wpZ_take (i := 3) (d := 33) (v := ?_) rfl rfl (by kernel_rfl) (by kernel_rfl) (by kernel_rfl) (by kernel_rfl) (fun _ _ _ h => h) (Or.inl ⟨by rfl, ?_⟩) hHeld ?_
        rotate_left
        · (intro _ hSw; obtain ⟨x0, x1, yt, yh⟩ := HZ.out _ hSw; go_simp; try with_reducible rfl)
        simp only [List.setIfInBounds_toArray, List.set_cons_zero, List.set_cons_succ]
        refine wpZ_take (i := 4) (d := 34) (v := ?_) rfl rfl (by kernel_rfl) (by kernel_rfl) (by kernel_rfl) (by kernel_rfl) (fun _ _ _ h => h) (Or.inl ⟨by rfl, ?_⟩) hHeld ?_
        rotate_left
        · (intro _ hSw; obtain ⟨x0, x1, yt, yh⟩ := HZ.out _ hSw; go_simp; try with_reducible rfl)
        simp only [List.setIfInBounds_toArray, List.set_cons_zero, List.set_cons_succ]
        refine wpZ_take (i := 5) (d := 35) (v := ?_) rfl rfl (by kernel_rfl) (by kernel_rfl) (by kernel_rfl) (by kernel_rfl) (fun _ _ _ h => h) (Or.inl ⟨by rfl, ?_⟩) hHeld ?_
        rotate_left
        · (intro _ hSw; obtain ⟨x0, x1, yt, yh⟩ := HZ.out _ hSw; go_simp; try with_reducible rfl)
        simp only [List.setIfInBounds_toArray, List.set_cons_zero, List.set_cons_succ]
        refine wpZ_take (i := 6) (d := 36) (v := ?_) rfl rfl (by kernel_rfl) (by kernel_rfl) (by kernel_rfl) (by kernel_rfl) (fun _ _ _ h => h) (Or.inl ⟨by rfl, ?_⟩) hHeld ?_
        rotate_left
        · (intro _ hSw; obtain ⟨x0, x1, yt, yh⟩ := HZ.out _ hSw; go_simp; try with_reducible rfl)
        simp only [List.setIfInBounds_toArray, List.set_cons_zero, List.set_cons_succ]
        refine wpZ_take (i := 7) (d := 37) (v := ?_) rfl rfl (by kernel_rfl) (by kernel_rfl) (by kernel_rfl) (by kernel_rfl) (fun _ _ _ h => h) (Or.inl ⟨by rfl, ?_⟩) hHeld ?_
        rotate_left
        · (intro _ hSw; obtain ⟨x0, x1, yt, yh⟩ := HZ.out _ hSw; go_simp; try with_reducible rfl)
        simp only [List.setIfInBounds_toArray, List.set_cons_zero, List.set_cons_succ]
        refine wpZ_take (i := 8) (d := 38) (v := ?_) rfl rfl (by kernel_rfl) (by kernel_rfl) (by kernel_rfl) (by kernel_rfl) (fun _ _ _ h => h) (Or.inl ⟨by rfl, ?_⟩) hHeld ?_
        rotate_left
        · (intro _ hSw; obtain ⟨x0, x1, yt, yh⟩ := HZ.out _ hSw; go_simp; try with_reducible rfl)
        simp only [List.setIfInBounds_toArray, List.set_cons_zero, List.set_cons_succ]
        refine wpZ_ready (rs := [9]) (by kernel_rfl) (by simp) ?_
        refine AllReadyZ.cons rfl (fun K hK => ?_) AllReadyZ.nil
        go_simp
        refine (HW.out W00 (HX.out.below.trans (hW.mono HX.out.below.size))).mono ?_
        rintro e W1 ⟨A', c', rfl, hD⟩
        have HX1 := Lib.hid ((HX.out.on hW).on hD.out.2.2.1)
        have HWL : Hid (RowKit.Below w.heap.size w W00 ∧ w.heap.size + 1 < W00.heap.size) := ⟨HX.out.below.trans (hW.mono HX.out.below.size), (HX.out.on hW).lt⟩
        have hHeld2 := hHeld.trans (OnlyE.of_below hD.out.2.2.1)
        refine hK.out _ _ (fun _ => hHeld2) ?_
        clear hK K hHeld
        have hHeld := hHeld2
        clear hHeld2
        have r0 : W1.cell? ⟨w.heap.size + 1, 0, none⟩ = some (.slice none 0 0) := HX1.out.cellR 0
        have r1 : W1.cell? ⟨w.heap.size + 1, 1, none⟩ = some (.int .i64 0) := HX1.out.cellR 1
        have rf0 := HX1.out.frR 0
        have rf1 := HX1.out.frR 1
        clear hW HX HZ HW
        refine wpZ_ready (rs := [10]) (by kernel_rfl) (by simp) ?_
        refine AllReadyZ.cons rfl (fun K hK => ?_) AllReadyZ.nil
        go_simp
        have hHeld2 := hHeld.trans ((onlyE_set (w := W1) (D := fun b => b = w.heap.size + 1) rfl 0 (.slice A' n c')).trans (onlyE_set (D := fun b => b = w.heap.size + 1) rfl 1 (.int .i64 (me : Int))))
        refine hK.out _ _ (fun _ => hHeld2) ?_
        clear hK K hHeld
        have hHeld := hHeld2
        clear hHeld2
        refine wpZ_ready (rs := [11]) (by kernel_rfl) (by simp) ?_
        refine AllReadyZ.cons rfl (fun K hK => ?_) AllReadyZ.nil
        go_simp
        refine hK.out _ _ (fun h => absurd rfl h) ?_
        clear hK K
        refine wpZ_done (by kernel_rfl) ?_ _
        obtain ⟨q1, q2⟩ := answer_new (n := n) (me := me) HX1.out HWL.out.1 HWL.out.2 hD.out
        clear r0 r1 rf0 rf1 hHeld HX1 HWL hD
        generalize World.setCell (W1.setCell _ _) _ _ = W2 at q1 q2 ⊢
        have Q1 := Lib.hid q1
        have Q2 := Lib.hid q2
        clear q1 q2
        go_wp2
        refine bodyPost_ret (results_cell_tmp rfl _ _ (w.heap.size + 1) _ rfl (load_rowG Q1.out rfl)) rfl ?_
        exact ⟨A', c', by rw [HB.out]; rfl, by rw [HT.out]; exact Q2.out⟩
      · have HG : Hid (goneB l me (k : Int) = false) := by show _ = _; unfold goneB; rw [hp, Int.toNat_natCast, decide_eq_true hm, hh]; rfl
        have HT : Hid (goneL l me (k : Int) = l) := by show _ = _; unfold goneL; rw [HG.out]; rfl
        have HB : Hid (goneN l me (k : Int) = 0) := by show _ = _; unfold goneN; rw [HG.out]; rfl
        rw [hh] at ch
        clear hcc hp hk hm hh ct
        unfold dgc
        go_enter Try.func10, Try.ntmps10
        go_upto_region 1 with fail
        generalize hw0 : World.alloc (World.alloc w _) _ = w0
        have HX := Lib.hid (TBox.start hw0)
        clear hw0
        have x0 : w0.cell? ⟨w.heap.size, 0, none⟩ = some (.slice (some ⟨b, off, none⟩) n c) := HX.out.cellG 0
        have x1 : w0.cell? ⟨w.heap.size, 1, none⟩ = some (.int .i64 (me : Int)) := HX.out.cellG 1
        have r0 : w0.cell? ⟨w.heap.size + 1, 0, none⟩ = some (.slice none 0 0) := HX.out.cellR 0
        have r1 : w0.cell? ⟨w.heap.size + 1, 1, none⟩ = some (.int .i64 0) := HX.out.cellR 1
        have rf0 := HX.out.frR 0
        have rf1 := HX.out.frR 1
        have yh : w0.cell? ⟨b, off + k * 2 + 1, none⟩ = some (.bool true) := (HX.out.below.cell (p := ⟨b, off + k * 2 + 1, none⟩) hbl).trans ch
        clear ch
        go_wp2
        obtain ⟨q1, q2⟩ := answer_same HX.out HLL.out HC.out
        refine bodyPost_ret (results_cell_tmp rfl _ _ (w.heap.size + 1) _ rfl (load_rowG q1 rfl)) rfl ?_
        exact ⟨_, c, by rw [HB.out]; rfl, by rw [HT.out]; exact q2⟩
  · rw [Bool.not_eq_true] at hp
    have HG : Hid (goneB l me P = false) := by show _ = _; unfold goneB; rw [hp]; rfl
    have HT : Hid (goneL l me P = l) := by show _ = _; unfold goneL; rw [HG.out]; rfl
    have HB : Hid (goneN l me P = 0) := by show _ = _; unfold goneN; rw [HG.out]; rfl
    have hP : P < 0 ∨ (n : Int) ≤ P := by
      by_cases h : P < 0
      · exact .inl h
      · refine .inr ?_
        have : ¬ P.toNat < n := fun h' => by
          have := (hasB_iff (l := l) (P := P)).2 ⟨P.toNat, by omega, by rw [HLL.out]; exact h'⟩
          rw [hp] at this
          cases this
        omega
    clear hp
    unfold dgc
    rcases hP with h | h
    · skip
      go_enter Try.func10, Try.ntmps10
      go_upto_region 1 with fail
      generalize hw0 : World.alloc (World.alloc w _) _ = w0
      have HX := Lib.hid (TBox.start hw0)
      clear hw0
      have x0 : w0.cell? ⟨w.heap.size, 0, none⟩ = some (.slice A n c) := HX.out.cellG 0
      have x1 : w0.cell? ⟨w.heap.size, 1, none⟩ = some (.int .i64 (me : Int)) := HX.out.cellG 1
      have r0 : w0.cell? ⟨w.heap.size + 1, 0, none⟩ = some (.slice none 0 0) := HX.out.cellR 0
      have r1 : w0.cell? ⟨w.heap.size + 1, 1, none⟩ = some (.int .i64 0) := HX.out.cellR 1
      have rf0 := HX.out.frR 0
      have rf1 := HX.out.frR 1
      go_wp2
      obtain ⟨q1, q2⟩ := answer_same HX.out HLL.out HC.out
      refine bodyPost_ret (results_cell_tmp rfl _ _ (w.heap.size + 1) _ rfl (load_rowG q1 rfl)) rfl ?_
      exact ⟨_, c, by rw [HB.out]; rfl, by rw [HT.out]; exact q2⟩
    · have h0 : ¬ P < 0 := by omega
      go_enter Try.func10, Try.ntmps10
      go_upto_region 1 with fail
      generalize hw0 : World.alloc (World.alloc w _) _ = w0
      have HX := Lib.hid (TBox.start hw0)
      clear hw0
      have x0 : w0.cell? ⟨w.heap.size, 0, none⟩ = some (.slice A n c) := HX.out.cellG 0
      have x1 : w0.cell? ⟨w.heap.size, 1, none⟩ = some (.int .i64 (me : Int)) := HX.out.cellG 1
      have r0 : w0.cell? ⟨w.heap.size + 1, 0, none⟩ = some (.slice none 0 0) := HX.out.cellR 0
      have r1 : w0.cell? ⟨w.heap.size + 1, 1, none⟩ = some (.int .i64 0) := HX.out.cellR 1
      have rf0 := HX.out.frR 0
      have rf1 := HX.out.frR 1
      go_wp2
      obtain ⟨q1, q2⟩ := answer_same HX.out HLL.out HC.out
      refine bodyPost_ret (results_cell_tmp rfl _ _ (w.heap.size + 1) _ rfl (load_rowG q1 rfl)) rfl ?_
      exact ⟨_, c, by rw [HB.out]; rfl, by rw [HT.out]; exact q2⟩

end Go.Proofs.Ytenaoinkjdaoeaa
