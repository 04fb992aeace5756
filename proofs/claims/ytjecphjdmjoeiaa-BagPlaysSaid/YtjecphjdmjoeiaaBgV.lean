/- The document's Take. -/
import Derived.Test.YtjecphjdmjoeiaaBgU
namespace Go.Proofs.Ytjecphjdmjoeiaa
open Go.RowKit Go.Sort

theorem refTake_no (A : Option Addr) (n c room lost : Nat) (gl : List (List UInt8 × Bool)) (i : Int) (goes : Bool) (w : World) (hl : gl.length = n) (hnc : n ≤ c) (hcm : c ≤ maxLen) (hi : ¬ (0 ≤ i ∧ i < n)) :
    Calls Try.prog 22 #[.agg #[.int .i64 (room : Int), .slice A n c, .int .i64 (lost : Int)], .int .i64 i, .bool goes] w (GGot w A gl room gl lost #[.string ⟨#[]⟩, .bool false]) := by
  have HL := Lib.hid hl
  have hbw : ∀ o1 o2, RowKit.Below w.heap.size w ((w.alloc o1).alloc o2) := fun o1 o2 => ((RowKit.Below.refl _ _).alloc (Nat.le_refl _) _).alloc (by simp) _
  clear hl
  by_cases h0 : i < 0
  · have d0 : decide (i < 0) = true := by simpa using h0
    clear hi
    go_enter Try.func22, Try.ntmps22
    go_wp2
    refine bodyPost_ret (results_cell_tmp2 rfl _ _ (w.heap.size + 1) _ rfl (load_rowG (alloc2_new _ _ _) rfl)) rfl ?_
    exact ⟨A, c, by rw [HL.out]; rfl, by rw [HL.out]; exact hnc, hcm, KeepsG.same A gl (hbw _ _), hbw _ _⟩
  · have d0 : decide (i < 0) = false := by simpa using h0
    have h1 : (n : Int) ≤ i := by omega
    have d1 : decide ((n : Int) ≤ i) = true := by simpa using h1
    have d1' : decide (i < (n : Int)) = false := by simp; omega
    clear hi
    go_enter Try.func22, Try.ntmps22
    go_wp2
    refine bodyPost_ret (results_cell_tmp2 rfl _ _ (w.heap.size + 1) _ rfl (load_rowG (alloc2_new _ _ _) rfl)) rfl ?_
    exact ⟨A, c, by rw [HL.out]; rfl, by rw [HL.out]; exact hnc, hcm, KeepsG.same A gl (hbw _ _), hbw _ _⟩

theorem refTake_look (A : Option Addr) (n c room lost : Nat) (gl : List (List UInt8 × Bool)) (i : Nat) (w : World) (hl : gl.length = n) (hnc : n ≤ c) (hcm : c ≤ maxLen) (hi : i < gl.length) (hG : Lies w w.heap.size A (flat encG gl)) :
    Calls Try.prog 22 #[.agg #[.int .i64 (room : Int), .slice A n c, .int .i64 (lost : Int)], .int .i64 (i : Int), .bool false] w (GGot w A gl room gl lost #[.string (str gl[i].1), .bool true]) := by
  have HL := Lib.hid hl
  have hbw : ∀ o1 o2, RowKit.Below w.heap.size w ((w.alloc o1).alloc o2) := fun o1 o2 => ((RowKit.Below.refl _ _).alloc (Nat.le_refl _) _).alloc (by simp) _
  have d1 : decide ((n : Int) ≤ (i : Int)) = false := by simp; omega
  have d1' : decide ((i : Int) < (n : Int)) = true := by simp; omega
  have hin : i < n := by omega
  obtain ⟨bL, off, rfl, hbL, k0, -⟩ := gl_at hG hi
  generalize gl[i] = y at k0 ⊢
  have k0' := ((hbw (.cells #[.int .i64 (room : Int), .slice (some ⟨bL, off, none⟩) n c, .int .i64 (lost : Int)] 28) (.cells #[.int .i64 0, .slice none 0 0, .int .i64 0] 28)).cell (p := ⟨bL, off + i * 2, none⟩) hbL).trans k0
  clear k0 hl hi hG
  go_enter Try.func22, Try.ntmps22
  go_wp2
  refine bodyPost_ret (results_cell_tmp2 rfl _ _ (w.heap.size + 1) _ rfl (load_rowG (alloc2_new _ _ _) rfl)) rfl ?_
  exact ⟨_, c, by rw [HL.out]; rfl, by rw [HL.out]; exact hnc, hcm, KeepsG.same _ gl (hbw _ _), hbw _ _⟩

theorem glies_take {w : World} {B : Nat} {A : Option Addr} {gl : List (List UInt8 × Bool)} (h : Lies w B A (flat encG gl)) (i : Nat) (hi : i ≤ gl.length) : Lies w B A (flat encG (gl.take i)) := fun hn => by
  have hn0 : flat encG gl ≠ [] := by
    intro h0
    rw [← flat_take encG_len gl i hi, h0] at hn
    simp at hn
  obtain ⟨b, off, e, hb, hc⟩ := h hn0
  refine ⟨b, off, e, hb, fun j u hu => hc j u ?_⟩
  rw [← flat_take encG_len gl i hi, List.getElem?_take] at hu
  split at hu
  · exact hu
  · cases hu
theorem glies_drop {w : World} {B b off : Nat} {gl : List (List UInt8 × Bool)} (h : Lies w B (some ⟨b, off, none⟩) (flat encG gl)) (i : Nat) (hi : i ≤ gl.length) : Lies w B (some ⟨b, off + i * 2, none⟩) (flat encG (gl.drop i)) := fun hn => by
  have hn0 : flat encG gl ≠ [] := by
    intro h0
    rw [← flat_drop encG_len gl i hi, h0] at hn
    simp at hn
  obtain ⟨b', off', e, hb, hc⟩ := h hn0
  injection e with e
  injection e with e1 e2
  subst e1 e2
  refine ⟨_, _, rfl, hb, fun j u hu => ?_⟩
  rw [← flat_drop encG_len gl i hi, List.getElem?_drop] at hu
  have := hc _ u hu
  rwa [← Nat.add_assoc] at this

set_option maxHeartbeats 1600000 in
theorem refTake_goes (A : Option Addr) (n c room lost : Nat) (gl : List (List UInt8 × Bool)) (i : Nat) (w : World) (hl : gl.length = n) (hnc : n ≤ c) (hcm : c ≤ maxLen) (hi : i < gl.length) (hn : n ≤ 5000) (hG : Lies w w.heap.size A (flat encG gl)) :
    Calls Try.prog 22 #[.agg #[.int .i64 (room : Int), .slice A n c, .int .i64 (lost : Int)], .int .i64 (i : Int), .bool true] w (GGot w A gl room (gl.eraseIdx i) lost #[.string (str gl[i].1), .bool true]) := by
  have HL := Lib.hid hl
  have hbw : ∀ o1 o2, RowKit.Below w.heap.size w ((w.alloc o1).alloc o2) := fun o1 o2 => ((RowKit.Below.refl _ _).alloc (Nat.le_refl _) _).alloc (by simp) _
  have d1 : decide ((n : Int) ≤ (i : Int)) = false := by simp; omega
  have d1' : decide ((i : Int) < (n : Int)) = true := by simp; omega
  have hin : i < n := by omega
  have hcl : (c : Int) ≤ 9223372036854775807 := by unfold maxLen at hcm; omega
  have HER : Hid (gl.eraseIdx i = gl.take i ++ gl.drop (i + 1)) := List.eraseIdx_eq_take_drop_succ _ _
  have HLE : Hid ((gl.eraseIdx i).length = n - 1) := by show _ = _; rw [List.length_eraseIdx, if_pos hi, hl]
  obtain ⟨bL, off, rfl, hbL, k0, -⟩ := gl_at hG hi
  generalize gl[i] = y at k0 ⊢
  have HT : Hid (∀ W, RowKit.Below w.heap.size w W → Lies W w.heap.size (some ⟨bL, off, none⟩) (flat encG (gl.take i))) := fun W hW => (glies_take hG i (by omega)).below hW
  have HD : Hid (∀ W, RowKit.Below w.heap.size w W → Lies W w.heap.size (some ⟨bL, off + (i + 1) * 2, none⟩) (flat encG (gl.drop (i + 1)))) := fun W hW => (glies_drop hG (i + 1) (by omega)).below hW
  have HTL : Hid ((gl.take i).length = i) := by show _ = _; rw [List.length_take]; omega
  have HDL : Hid ((gl.drop (i + 1)).length = n - (i + 1)) := by show _ = _; rw [List.length_drop, hl]
  have k0' := ((hbw (.cells #[.int .i64 (room : Int), .slice (some ⟨bL, off, none⟩) n c, .int .i64 (lost : Int)] 28) (.cells #[.int .i64 0, .slice none 0 0, .int .i64 0] 28)).cell (p := ⟨bL, off + i * 2, none⟩) hbL).trans k0
  clear k0 hl hi hG hbw
  generalize gl.eraseIdx i = ge at HER HLE ⊢
  have f0 : ¬ n ≤ i := by omega
  have f00 : (0 : Int) ≤ (i : Int) := by omega
  have f1 : i ≤ c := by omega
  have f2 : i + 1 ≤ n := by omega
  have f3 : i + 1 ≤ c := by omega
  have f4 : (i : Int) + 1 ≤ (c : Int) := by omega
  generalize hW9 : World.alloc (World.alloc w (.cells #[.int .i64 (room : Int), .slice (some ⟨bL, off, none⟩) n c, .int .i64 (lost : Int)] 28)) (.cells #[.int .i64 0, .slice none 0 0, .int .i64 0] 28) = W9 at k0'
  have H0 : Hid (GBox w (gCells room (.slice (some ⟨bL, off, none⟩) n c) lost) zeroG W9) := GBox.start hW9
  subst hW9
  have hO := World.ownsRow_lit (base := w.heap.size + 2) (size := 2) (e := 40) (World.alloc (World.alloc w (.cells #[.int .i64 (room : Int), .slice (some ⟨bL, off, none⟩) n c, .int .i64 (lost : Int)] 28)) (.cells #[.int .i64 0, .slice none 0 0, .int .i64 0] 28)) #[] 0 H0.out.lt (Nat.zero_le _) rfl
  have hO : (World.alloc (World.alloc (World.alloc w (.cells #[.int .i64 (room : Int), .slice (some ⟨bL, off, none⟩) n c, .int .i64 (lost : Int)] 28)) (.cells #[.int .i64 0, .slice none 0 0, .int .i64 0] 28)) (.cells #[] 40)).ownsRow (w.heap.size + 2) 40 2 (.slice (some ⟨w.heap.size + 1 + 1, 0, none⟩) 0 0) 0 [] := by
    rw [show (World.alloc (World.alloc w (.cells #[.int .i64 (room : Int), .slice (some ⟨bL, off, none⟩) n c, .int .i64 (lost : Int)] 28)) (.cells #[.int .i64 0, .slice none 0 0, .int .i64 0] 28)).heap.size = w.heap.size + 1 + 1 by simp] at hO
    exact hO
  have hT := HT.out ((World.alloc (World.alloc w (.cells #[.int .i64 (room : Int), .slice (some ⟨bL, off, none⟩) n c, .int .i64 (lost : Int)] 28)) (.cells #[.int .i64 0, .slice none 0 0, .int .i64 0] 28)).alloc (.cells #[] 40)) (H0.out.below.alloc (by have := H0.out.lt; omega) _)
  obtain ⟨i0, hi, hz0, hz1, hz2⟩ := info_parts Try.infoT
  go_enter Try.func22, Try.ntmps22
  by_cases hcj : c = i + 1
  · have hni : n = c := by omega
    subst hni
    have hcj' : i + 1 = n := hcj.symm
    clear hcj
    go_wp2_with (at_builtin; refine wpList_append_lstK rfl _ _ 26 rfl (w.heap.size + 2) 2 (by decide) 40 i0 (.agg #[.string ⟨#[]⟩, .bool false]) 24 Try.underlying26 hi hz0 hz1 hz2 rfl _ 0 [] rfl hO _ _ _ _ (flat encG (gl.take i)) rfl ?d0 hT (flat_one encG_one _) ?d2 ?d3 ?d4 ?_)
    case d0 => rw [flat_length encG_len, HTL.out]
    case d2 => unfold maxLen; omega
    case d3 => omega
    intro v1 w4 hown4 _ hb4 _
    try rw [Nat.zero_add] at hown4
    try rw [List.nil_append] at hown4
    obtain ⟨A4, c4, rfl, -, -⟩ := own_sliceK hown4
    have hG4 := H0.out.up ((RowKit.Below.refl _ _).alloc H0.out.lt (.cells #[] 40) |>.trans hb4)
    have HO4 := Lib.hid hown4
    have HG4 := Lib.hid hG4
    have hs4 := hG4.lt
    have z0 := hG4.cell 0
    have z1 := hG4.cell 1
    have z2 := hG4.cell 2
    have q0 := hG4.cellR 0
    have q1 := hG4.cellR 1
    have q2 := hG4.cellR 2
    have y1 := hG4.fr 1
    have r0 := hG4.frR 0
    have r1 := hG4.frR 1
    have r2 := hG4.frR 2
    simp only [gCells, zeroG, List.getElem?_toArray, List.getElem?_cons_succ, List.getElem?_cons_zero] at z0 z1 z2 q0 q1 q2
    clear hown4 hb4 hG4 hO k0'
    have hge : Hid (ge = gl.take i) := by show _ = _; rw [HER.out, List.eq_nil_of_length_eq_zero (l := gl.drop (i + 1)) (by rw [HDL.out]; omega), List.append_nil]
    go_wp2_with (at_builtin; refine wpList_append_lstK rfl _ _ 26 rfl (w.heap.size + 2) 2 (by decide) 40 i0 (.agg #[.string ⟨#[]⟩, .bool false]) 24 Try.underlying26 hi hz0 hz1 hz2 rfl _ i (flat encG (gl.take i)) rfl HO4.out _ _ _ _ (flat encG ([] : List (List UInt8 × Bool))) rfl ?e0 (Lies.nil (w := w4) (B := w.heap.size) (A := some ⟨bL, off, none⟩)) (flat_one encG_one _) ?e2 ?e3 ?e4 ?_)
    case e0 => simp [flat]
    case e2 => unfold maxLen; omega
    case e3 => omega
    case e4 => exact hs4
    intro v2 w5 hown5 _ hb5 _
    have hown6 : w5.ownsRow (w.heap.size + 2) 40 2 v2 (n - 1) (flat encG ge) := by
      rw [show n - 1 = i by omega, hge.out]
      simpa [flat] using hown5
    clear hown5
    have hown5 := hown6
    clear hown6
    obtain ⟨A5, c5, rfl, hc5, hm5⟩ := own_sliceK hown5
    have hG5 := HG4.out.up hb5
    have HO5 := Lib.hid hown5
    have HG5 := Lib.hid hG5
    have HC5 := Lib.hid hc5
    have HM5 := Lib.hid hm5
    clear z0 z1 z2 q0 q1 q2 y1 r0 r1 r2 hown5 hb5 hc5 hm5
    have z0 := hG5.cell 0
    have z1 := hG5.cell 1
    have z2 := hG5.cell 2
    have q0 := hG5.cellR 0
    have q1 := hG5.cellR 1
    have q2 := hG5.cellR 2
    have y1 := hG5.fr 1
    have r0 := hG5.frR 0
    have r1 := hG5.frR 1
    have r2 := hG5.frR 2
    simp only [gCells, zeroG, List.getElem?_toArray, List.getElem?_cons_succ, List.getElem?_cons_zero] at z0 z1 z2 q0 q1 q2
    clear hG5 HO4 HG4
    go_wp2_with fail
    have hS := HG5.out.setBox 1 (.slice A5 (n - 1) c5)
    have hR := ((hS.setRes 0 (.int .i64 (room : Int))).setRes 1 (.slice A5 (n - 1) c5)).setRes 2 (.int .i64 (lost : Int))
    have hbw := hR.below
    refine bodyPost_ret (results_cell_tmp2 rfl _ _ (w.heap.size + 1) _ rfl (load_rowG hR.res rfl)) rfl ?_
    refine ⟨A5, c5, by rw [HLE.out]; rfl, by rw [HLE.out]; exact HC5.out, HM5.out, ?_, hbw⟩
    have hD : ∀ b, (Value.slice A5 (n - 1) c5).ownBlock = some b → ¬ (b = w.heap.size ∨ b = w.heap.size + 1) := fun b hb e => by have := (HO5.out.lt b hb).1; omega
    have h1 := own_only HO5.out ((onlyE_set (D := fun k => k = w.heap.size ∨ k = w.heap.size + 1) (.inl rfl) 1 (.slice A5 (n - 1) c5)).trans ((onlyE_set (D := fun k => k = w.heap.size ∨ k = w.heap.size + 1) (.inr rfl) 0 (.int .i64 (room : Int))).trans ((onlyE_set (D := fun k => k = w.heap.size ∨ k = w.heap.size + 1) (.inr rfl) 1 (.slice A5 (n - 1) c5)).trans (onlyE_set (D := fun k => k = w.heap.size ∨ k = w.heap.size + 1) (.inr rfl) 2 (.int .i64 (lost : Int)))))) hD
    exact KeepsG.new h1 (by omega)
  · skip
    go_wp2_with (at_builtin; refine wpList_append_lstK rfl _ _ 26 rfl (w.heap.size + 2) 2 (by decide) 40 i0 (.agg #[.string ⟨#[]⟩, .bool false]) 24 Try.underlying26 hi hz0 hz1 hz2 rfl _ 0 [] rfl hO _ _ _ _ (flat encG (gl.take i)) rfl ?g0 hT (flat_one encG_one _) ?g2 ?g3 ?g4 ?_)
    case g0 => rw [flat_length encG_len, HTL.out]
    case g2 => unfold maxLen; omega
    case g3 => omega
    intro v1 w4 hown4 _ hb4 _
    try rw [Nat.zero_add] at hown4
    try rw [List.nil_append] at hown4
    obtain ⟨A4, c4, rfl, -, -⟩ := own_sliceK hown4
    have hG4 := H0.out.up ((RowKit.Below.refl _ _).alloc H0.out.lt (.cells #[] 40) |>.trans hb4)
    have HO4 := Lib.hid hown4
    have HG4 := Lib.hid hG4
    have hDr := HD.out w4 hG4.below
    have hs4 := hG4.lt
    have z0 := hG4.cell 0
    have z1 := hG4.cell 1
    have z2 := hG4.cell 2
    have q0 := hG4.cellR 0
    have q1 := hG4.cellR 1
    have q2 := hG4.cellR 2
    have y1 := hG4.fr 1
    have r0 := hG4.frR 0
    have r1 := hG4.frR 1
    have r2 := hG4.frR 2
    simp only [gCells, zeroG, List.getElem?_toArray, List.getElem?_cons_succ, List.getElem?_cons_zero] at z0 z1 z2 q0 q1 q2
    clear hown4 hb4 hG4 hO k0'
    go_wp2_with (at_builtin; refine wpList_append_lstK rfl _ _ 26 rfl (w.heap.size + 2) 2 (by decide) 40 i0 (.agg #[.string ⟨#[]⟩, .bool false]) 24 Try.underlying26 hi hz0 hz1 hz2 rfl _ i (flat encG (gl.take i)) rfl HO4.out _ _ _ _ (flat encG (gl.drop (i + 1))) rfl ?h0 hDr (flat_one encG_one _) ?h2 ?h3 ?h4 ?_)
    case h0 => rw [flat_length encG_len, HDL.out]
    case h2 => unfold maxLen; omega
    case h3 => omega
    case h4 => exact hs4
    intro v2 w5 hown5 _ hb5 _
    rw [← flat_append, ← HER.out, show i + (n - (i + 1)) = n - 1 by omega] at hown5
    obtain ⟨A5, c5, rfl, hc5, hm5⟩ := own_sliceK hown5
    have hG5 := HG4.out.up hb5
    have HO5 := Lib.hid hown5
    have HG5 := Lib.hid hG5
    have HC5 := Lib.hid hc5
    have HM5 := Lib.hid hm5
    clear z0 z1 z2 q0 q1 q2 y1 r0 r1 r2 hown5 hb5 hc5 hm5
    have z0 := hG5.cell 0
    have z1 := hG5.cell 1
    have z2 := hG5.cell 2
    have q0 := hG5.cellR 0
    have q1 := hG5.cellR 1
    have q2 := hG5.cellR 2
    have y1 := hG5.fr 1
    have r0 := hG5.frR 0
    have r1 := hG5.frR 1
    have r2 := hG5.frR 2
    simp only [gCells, zeroG, List.getElem?_toArray, List.getElem?_cons_succ, List.getElem?_cons_zero] at z0 z1 z2 q0 q1 q2
    clear hG5 HO4 HG4
    go_wp2_with fail
    have hS := HG5.out.setBox 1 (.slice A5 (n - 1) c5)
    have hR := ((hS.setRes 0 (.int .i64 (room : Int))).setRes 1 (.slice A5 (n - 1) c5)).setRes 2 (.int .i64 (lost : Int))
    have hbw := hR.below
    refine bodyPost_ret (results_cell_tmp2 rfl _ _ (w.heap.size + 1) _ rfl (load_rowG hR.res rfl)) rfl ?_
    refine ⟨A5, c5, by rw [HLE.out]; rfl, by rw [HLE.out]; exact HC5.out, HM5.out, ?_, hbw⟩
    have hD : ∀ b, (Value.slice A5 (n - 1) c5).ownBlock = some b → ¬ (b = w.heap.size ∨ b = w.heap.size + 1) := fun b hb e => by have := (HO5.out.lt b hb).1; omega
    have h1 := own_only HO5.out ((onlyE_set (D := fun k => k = w.heap.size ∨ k = w.heap.size + 1) (.inl rfl) 1 (.slice A5 (n - 1) c5)).trans ((onlyE_set (D := fun k => k = w.heap.size ∨ k = w.heap.size + 1) (.inr rfl) 0 (.int .i64 (room : Int))).trans ((onlyE_set (D := fun k => k = w.heap.size ∨ k = w.heap.size + 1) (.inr rfl) 1 (.slice A5 (n - 1) c5)).trans (onlyE_set (D := fun k => k = w.heap.size ∨ k = w.heap.size + 1) (.inr rfl) 2 (.int .i64 (lost : Int)))))) hD
    exact KeepsG.new h1 (by omega)

end Go.Proofs.Ytjecphjdmjoeiaa
