/- The document's Turn. -/
import Derived.Test.YtjecphjdmjoeiaaBgV
namespace Go.Proofs.Ytjecphjdmjoeiaa
open Go.RowKit Go.Sort

theorem refTurn_no (A : Option Addr) (n c room lost : Nat) (gl : List (List UInt8 × Bool)) (i at_ s : Int) (w : World) (hl : gl.length = n) (hnc : n ≤ c) (hcm : c ≤ maxLen) (hi : ¬ (0 ≤ i ∧ i < n) ∨ s = 0 ∨ at_ < 0) :
    Calls Try.prog 24 #[.agg #[.int .i64 (room : Int), .slice A n c, .int .i64 (lost : Int)], .int .i64 i, .int .i64 at_, .int .u32 s] w (GGot w A gl room gl lost #[.bool false]) := by
  have HL := Lib.hid hl
  have hbw : ∀ o1 o2, RowKit.Below w.heap.size w ((w.alloc o1).alloc o2) := fun o1 o2 => ((RowKit.Below.refl _ _).alloc (Nat.le_refl _) _).alloc (by simp) _
  clear hl
  by_cases h0 : i < 0
  · have d0 : decide (i < 0) = true := by simpa using h0
    clear hi
    go_enter Try.func24, Try.ntmps24
    go_wp2
    refine bodyPost_ret (results_cell_tmp rfl _ _ (w.heap.size + 1) _ rfl (load_rowG (alloc2_new _ _ _) rfl)) rfl ?_
    exact ⟨A, c, by rw [HL.out]; rfl, by rw [HL.out]; exact hnc, hcm, KeepsG.same A gl (hbw _ _), hbw _ _⟩
  · have d0 : decide (i < 0) = false := by simpa using h0
    by_cases h1 : (n : Int) ≤ i
    · have d1 : decide ((n : Int) ≤ i) = true := by simpa using h1
      have d1' : decide (i < (n : Int)) = false := by simp; omega
      clear hi
      go_enter Try.func24, Try.ntmps24
      go_wp2
      refine bodyPost_ret (results_cell_tmp rfl _ _ (w.heap.size + 1) _ rfl (load_rowG (alloc2_new _ _ _) rfl)) rfl ?_
      exact ⟨A, c, by rw [HL.out]; rfl, by rw [HL.out]; exact hnc, hcm, KeepsG.same A gl (hbw _ _), hbw _ _⟩
    · have d1 : decide ((n : Int) ≤ i) = false := by simpa using h1
      have d1' : decide (i < (n : Int)) = true := by simp; omega
      by_cases h2 : s = 0
      · subst h2
        clear hi
        go_enter Try.func24, Try.ntmps24
        go_wp2
        refine bodyPost_ret (results_cell_tmp rfl _ _ (w.heap.size + 1) _ rfl (load_rowG (alloc2_new _ _ _) rfl)) rfl ?_
        exact ⟨A, c, by rw [HL.out]; rfl, by rw [HL.out]; exact hnc, hcm, KeepsG.same A gl (hbw _ _), hbw _ _⟩
      · have d2 : (s == 0) = false := by simpa using h2
        have h3 : at_ < 0 := by omega
        have d3 : decide (at_ < 0) = true := by simpa using h3
        clear hi h2
        go_enter Try.func24, Try.ntmps24
        go_wp2
        refine bodyPost_ret (results_cell_tmp rfl _ _ (w.heap.size + 1) _ rfl (load_rowG (alloc2_new _ _ _) rfl)) rfl ?_
        exact ⟨A, c, by rw [HL.out]; rfl, by rw [HL.out]; exact hnc, hcm, KeepsG.same A gl (hbw _ _), hbw _ _⟩

theorem gl_set (l : List (List UInt8 × Bool)) (i : Nat) (x : List UInt8 × Bool) (h : i < l.length) : ((flat encG l).set (i * 2) (.string (str x.1))).set (i * 2 + 1) (.bool x.2) = flat encG (l.set i x) := by
  induction l generalizing i with
  | nil => simp at h
  | cons y l ih =>
    rcases i with _ | i
    · simp [flat_cons, encG]
    · have := ih i (by simpa using h)
      rw [List.set_cons_succ, flat_cons, flat_cons, ← this]
      simp [encG, Nat.succ_mul]

set_option maxHeartbeats 800000 in
theorem refTurn_not (A : Option Addr) (n c room lost : Nat) (gl : List (List UInt8 × Bool)) (i : Nat) (at_ s : Int) (w : World) (hl : gl.length = n) (hnc : n ≤ c) (hcm : c ≤ maxLen) (hi : i < gl.length) (hs : s ≠ 0) (ha : 0 ≤ at_) (hG : Lies w w.heap.size A (flat encG gl)) (hyl : gl[i].1.length ≤ 1000)
    (hm : ¬ mayT gl[i].2 gl[i].1.length at_ s) :
    Calls Try.prog 24 #[.agg #[.int .i64 (room : Int), .slice A n c, .int .i64 (lost : Int)], .int .i64 (i : Int), .int .i64 at_, .int .u32 s] w (GGot w A gl room gl lost #[.bool false]) := by
  have HL := Lib.hid hl
  have hbw : ∀ o1 o2, RowKit.Below w.heap.size w ((w.alloc o1).alloc o2) := fun o1 o2 => ((RowKit.Below.refl _ _).alloc (Nat.le_refl _) _).alloc (by simp) _
  have hbw3 : ∀ o1 o2 o3, RowKit.Below w.heap.size w (((w.alloc o1).alloc o2).alloc o3) := fun o1 o2 o3 => (hbw o1 o2).alloc (by simp; omega) _
  have d0 : decide ((i : Int) < 0) = false := by simp
  have d1 : decide ((n : Int) ≤ (i : Int)) = false := by simp; omega
  have d1' : decide ((i : Int) < (n : Int)) = true := by simp; omega
  have d2 : (s == 0) = false := by simpa using hs
  have d3 : decide (at_ < 0) = false := by simp; omega
  have hin : i < n := by omega
  have f0 : ¬ n ≤ i := by omega
  obtain ⟨bL, off, rfl, hbL, k0, k1⟩ := gl_at hG hi
  generalize gl[i] = y at k0 k1 hm hyl
  obtain ⟨yb, yt⟩ := y
  simp only [] at k0 k1 hm hyl
  have sz : (str yb).size = yb.length := by simp [str, ByteArray.size]
  have q0 := ((hbw (.cells #[.int .i64 (room : Int), .slice (some ⟨bL, off, none⟩) n c, .int .i64 (lost : Int)] 28) (.cells #[.int .i64 0, .slice none 0 0, .int .i64 0] 28)).cell (p := ⟨bL, off + i * 2, none⟩) hbL).trans k0
  have q1 := ((hbw (.cells #[.int .i64 (room : Int), .slice (some ⟨bL, off, none⟩) n c, .int .i64 (lost : Int)] 28) (.cells #[.int .i64 0, .slice none 0 0, .int .i64 0] 28)).cell (p := ⟨bL, off + i * 2 + 1, none⟩) hbL).trans k1
  clear k0 k1 hl hi hG hs
  have hyl' : (yb.length : Int) ≤ 1000 := by omega
  cases yt with
  | true =>
    clear hm
    go_enter Try.func24, Try.ntmps24
    go_wp2
    refine bodyPost_ret (results_cell_tmp rfl _ _ (w.heap.size + 1) _ rfl (load_rowG ((heap_alloc_old _ _ (by simp)).trans (alloc2_new _ _ _)) rfl)) rfl ?_
    exact ⟨_, c, by rw [HL.out]; rfl, by rw [HL.out]; exact hnc, hcm, KeepsG.same _ gl (hbw3 _ _ _), hbw3 _ _ _⟩
  | false =>
    have hgt : 8 * (yb.length : Int) - 32 < at_ := by
      by_cases h : 8 * (yb.length : Int) - 32 < at_
      · exact h
      · exact absurd ⟨rfl, by simpa using d2, ha, by omega⟩ hm
    have d4 : decide (8 * (yb.length : Int) - 32 < at_) = true := by simpa using hgt
    clear hm hgt
    go_enter Try.func24, Try.ntmps24
    go_wp2
    refine bodyPost_ret (results_cell_tmp rfl _ _ (w.heap.size + 1) _ rfl (load_rowG ((heap_alloc_old _ _ (by simp)).trans (alloc2_new _ _ _)) rfl)) rfl ?_
    exact ⟨_, c, by rw [HL.out]; rfl, by rw [HL.out]; exact hnc, hcm, KeepsG.same _ gl (hbw3 _ _ _), hbw3 _ _ _⟩

set_option maxHeartbeats 1600000 in
theorem refTurn_any (A : Option Addr) (n c room lost : Nat) (gl : List (List UInt8 × Bool)) (i at_ s : Nat) (w : World) (hl : gl.length = n) (hn : n ≤ 5000) (hi : i < gl.length) (hG : Lies w w.heap.size A (flat encG gl)) (hyl : gl[i].1.length ≤ 1000) (hs4 : s < 4294967296)
    (hm : mayT gl[i].2 gl[i].1.length (at_ : Int) (s : Int)) :
    Calls Try.prog 24 #[.agg #[.int .i64 (room : Int), .slice A n c, .int .i64 (lost : Int)], .int .i64 (i : Int), .int .i64 (at_ : Int), .int .u32 (s : Int)] w (GGot w A gl room (gl.set i (turnN gl[i].1 at_ s 32, true)) lost #[.bool true]) := by
  have HL := Lib.hid hl
  have d0 : decide ((i : Int) < 0) = false := by simp
  have d1 : decide ((n : Int) ≤ (i : Int)) = false := by simp; omega
  have d1' : decide ((i : Int) < (n : Int)) = true := by simp; omega
  have d2 : ((s : Int) == 0) = false := by simpa using hm.2.1
  have d3 : decide ((at_ : Int) < 0) = false := by simp
  have hin : i < n := by omega
  have f0 : ¬ n ≤ i := by omega
  obtain ⟨bL, off, rfl, hbL, k0, k1⟩ := gl_at hG hi
  have HSET := Lib.hid (fun x => gl_set gl i x hi)
  generalize gl[i] = y at k0 k1 hm hyl ⊢
  obtain ⟨yb, yt⟩ := y
  simp only [] at k0 k1 hm hyl ⊢
  obtain rfl : yt = false := hm.1
  have sz : (str yb).size = yb.length := by simp [str, ByteArray.size]
  have hbw : ∀ o1 o2, RowKit.Below w.heap.size w ((w.alloc o1).alloc o2) := fun o1 o2 => ((RowKit.Below.refl _ _).alloc (Nat.le_refl _) _).alloc (by simp) _
  have q0 := ((hbw (.cells #[.int .i64 (room : Int), .slice (some ⟨bL, off, none⟩) n c, .int .i64 (lost : Int)] 28) (.cells #[.int .i64 0, .slice none 0 0, .int .i64 0] 28)).cell (p := ⟨bL, off + i * 2, none⟩) hbL).trans k0
  have q1 := ((hbw (.cells #[.int .i64 (room : Int), .slice (some ⟨bL, off, none⟩) n c, .int .i64 (lost : Int)] 28) (.cells #[.int .i64 0, .slice none 0 0, .int .i64 0] 28)).cell (p := ⟨bL, off + i * 2 + 1, none⟩) hbL).trans k1
  have hyl' : (yb.length : Int) ≤ 1000 := by omega
  have hle : (at_ : Int) ≤ 8 * (yb.length : Int) - 32 := hm.2.2.2
  have d4 : decide (8 * (yb.length : Int) - 32 < (at_ : Int)) = false := by simp; omega
  have HTN : Hid (∀ W, Calls Try.prog 20 #[.string (str yb), .int .i64 (at_ : Int), .int .u32 (s : Int)] W fun e w' => e = .returned (.string (str (turnN yb at_ s 32))) ∧ RowKit.Below W.heap.size W w') := fun W => refTurned_any yb at_ s W hyl hs4 (by omega)
  have HLEN : Hid ((gl.set i (turnN yb at_ s 32, true)).length = n) := by show _ = _; rw [List.length_set, hl]
  have HSET2 : Hid (((flat encG gl).set (i * 2) (.string (str (turnN yb at_ s 32)))).set (i * 2 + 1) (.bool true) = flat encG (gl.set i (turnN yb at_ s 32, true))) := HSET.out (turnN yb at_ s 32, true)
  generalize turnN yb at_ s 32 = b2 at HTN HLEN HSET2 ⊢
  generalize gl.set i (b2, true) = gs at HLEN HSET2 ⊢
  have H0 : Hid (GBox w (gCells room (.slice (some ⟨bL, off, none⟩) n c) lost) zeroG (World.alloc (World.alloc w (.cells #[.int .i64 (room : Int), .slice (some ⟨bL, off, none⟩) n c, .int .i64 (lost : Int)] 28)) (.cells #[.int .i64 0, .slice none 0 0, .int .i64 0] 28))) := GBox.start rfl
  have H3 : Hid (GBox w (gCells room (.slice (some ⟨bL, off, none⟩) n c) lost) zeroG (World.alloc (World.alloc (World.alloc w (.cells #[.int .i64 (room : Int), .slice (some ⟨bL, off, none⟩) n c, .int .i64 (lost : Int)] 28)) (.cells #[.int .i64 0, .slice none 0 0, .int .i64 0] 28)) (.cells #[.string (str yb), .bool false] 40))) := H0.out.on ((RowKit.Below.refl _ _).alloc (Nat.le_refl _) _)
  have hsz : (World.alloc (World.alloc (World.alloc w (.cells #[.int .i64 (room : Int), .slice (some ⟨bL, off, none⟩) n c, .int .i64 (lost : Int)] 28)) (.cells #[.int .i64 0, .slice none 0 0, .int .i64 0] 28)) (.cells #[.string (str yb), .bool false] 40)).heap.size = w.heap.size + 1 + 1 + 1 := by simp
  have hO : (World.alloc (World.alloc (World.alloc (World.alloc w (.cells #[.int .i64 (room : Int), .slice (some ⟨bL, off, none⟩) n c, .int .i64 (lost : Int)] 28)) (.cells #[.int .i64 0, .slice none 0 0, .int .i64 0] 28)) (.cells #[.string (str yb), .bool false] 40)) (.cells #[] 40)).ownsRow (w.heap.size + 3) 40 2 (.slice (some ⟨w.heap.size + 1 + 1 + 1, 0, none⟩) 0 0) 0 [] := by
    have := World.ownsRow_lit (base := w.heap.size + 3) (size := 2) (e := 40) (World.alloc (World.alloc (World.alloc w (.cells #[.int .i64 (room : Int), .slice (some ⟨bL, off, none⟩) n c, .int .i64 (lost : Int)] 28)) (.cells #[.int .i64 0, .slice none 0 0, .int .i64 0] 28)) (.cells #[.string (str yb), .bool false] 40)) #[] 0 (by rw [hsz]; omega) (Nat.zero_le _) rfl
    rw [hsz] at this
    exact this
  have hG4 : Lies (World.alloc (World.alloc (World.alloc (World.alloc w (.cells #[.int .i64 (room : Int), .slice (some ⟨bL, off, none⟩) n c, .int .i64 (lost : Int)] 28)) (.cells #[.int .i64 0, .slice none 0 0, .int .i64 0] 28)) (.cells #[.string (str yb), .bool false] 40)) (.cells #[] 40)) w.heap.size (some ⟨bL, off, none⟩) (flat encG gl) := hG.below (H3.out.below.alloc (by have := H3.out.lt; omega) _)
  have hx3 : (World.alloc (World.alloc (World.alloc (World.alloc w (.cells #[.int .i64 (room : Int), .slice (some ⟨bL, off, none⟩) n c, .int .i64 (lost : Int)] 28)) (.cells #[.int .i64 0, .slice none 0 0, .int .i64 0] 28)) (.cells #[.string (str yb), .bool false] 40)) (.cells #[] 40)).cell? ⟨w.heap.size + 1 + 1, 0, none⟩ = some (.string (str yb)) := by
    have e : (World.alloc (World.alloc w (.cells #[.int .i64 (room : Int), .slice (some ⟨bL, off, none⟩) n c, .int .i64 (lost : Int)] 28)) (.cells #[.int .i64 0, .slice none 0 0, .int .i64 0] 28)).heap.size = w.heap.size + 1 + 1 := by simp
    have h1 : (World.alloc (World.alloc (World.alloc (World.alloc w (.cells #[.int .i64 (room : Int), .slice (some ⟨bL, off, none⟩) n c, .int .i64 (lost : Int)] 28)) (.cells #[.int .i64 0, .slice none 0 0, .int .i64 0] 28)) (.cells #[.string (str yb), .bool false] 40)) (.cells #[] 40)).heap[(World.alloc (World.alloc w (.cells #[.int .i64 (room : Int), .slice (some ⟨bL, off, none⟩) n c, .int .i64 (lost : Int)] 28)) (.cells #[.int .i64 0, .slice none 0 0, .int .i64 0] 28)).heap.size]? = some (.cells #[.string (str yb), .bool false] 40) := (heap_alloc_old _ _ (by simp)).trans (heap_alloc_new _ _)
    rw [e] at h1
    exact cell_of_row _ _ 0 _ _ _ h1
  obtain ⟨i0, hi0, hz0, hz1, hz2⟩ := info_parts Try.infoT
  have hb4s : w.heap.size + 3 ≤ (World.alloc (World.alloc (World.alloc (World.alloc w (.cells #[.int .i64 (room : Int), .slice (some ⟨bL, off, none⟩) n c, .int .i64 (lost : Int)] 28)) (.cells #[.int .i64 0, .slice none 0 0, .int .i64 0] 28)) (.cells #[.string (str yb), .bool false] 40)) (.cells #[] 40)).heap.size := by simp
  clear hl hi hG k0 k1 hm HSET hbw hsz
  go_enter Try.func24, Try.ntmps24
  go_wp2_with (at_builtin; refine wpList_append_lstK rfl _ _ 26 rfl (w.heap.size + 3) 2 (by decide) 40 i0 (.agg #[.string ⟨#[]⟩, .bool false]) 24 Try.underlying26 hi0 hz0 hz1 hz2 rfl _ 0 [] rfl hO _ _ _ _ (flat encG gl) rfl ?d0 hG4 (flat_one encG_one _) ?d2 ?d3 hb4s ?_)
  case d0 => rw [flat_length encG_len, HL.out]
  case d2 => unfold maxLen; omega
  case d3 => omega
  intro v1 w4 hown4 _ hb4 _
  try rw [Nat.zero_add] at hown4
  try rw [List.nil_append] at hown4
  obtain ⟨g4, c4, rfl, hg3, hg4⟩ := hown4.form (by omega)
  obtain ⟨A9, c9, hv9, hc9, hm9⟩ := own_sliceK hown4
  obtain rfl : c4 = c9 := by injection hv9
  have hG4' := H3.out.up (((RowKit.Below.refl _ _).alloc H3.out.lt (.cells #[] 40)).trans (hb4.mono (by omega)))
  have x3 := (hb4.cell (p := ⟨w.heap.size + 1 + 1, 0, none⟩) (by show w.heap.size + 1 + 1 < w.heap.size + 3; omega)).trans hx3
  have HO4 := Lib.hid hown4
  have HG4 := Lib.hid hG4'
  have HC9 := Lib.hid hc9
  have HM9 := Lib.hid hm9
  clear hown4 hG4' hG4 hO hx3 q0 q1 hv9 hc9 hm9 hb4 H0 H3
  go_wp2_with fail
  refine (HTN.out w4).mono ?_
  rintro e w5 ⟨rfl, hb5⟩
  have hown5 := own_below HO4.out hb5
  have hG5 := HG4.out.on hb5
  obtain ⟨u0, p0⟩ : ∃ u, w5.cell? ⟨g4, i * 2, none⟩ = some u := ⟨_, (hown5.cellAt _ (by omega)).trans (List.getElem?_eq_getElem (by rw [flat_length encG_len, HL.out]; omega))⟩
  obtain ⟨u1, p1⟩ : ∃ u, w5.cell? ⟨g4, i * 2 + 1, none⟩ = some u := ⟨_, (hown5.cellAt _ (by omega)).trans (List.getElem?_eq_getElem (by rw [flat_length encG_len, HL.out]; omega))⟩
  have p2 := hown5.frozenAt (i * 2)
  have p3 := hown5.frozenAt (i * 2 + 1)
  have z0 := hG5.cell 0
  have z1 := hG5.cell 1
  have z2 := hG5.cell 2
  have q0 := hG5.cellR 0
  have q1 := hG5.cellR 1
  have q2 := hG5.cellR 2
  have y1 := hG5.fr 1
  have r0 := hG5.frR 0
  have r1 := hG5.frR 1
  have r2 := hG5.frR 2
  simp only [gCells, zeroG, List.getElem?_toArray, List.getElem?_cons_succ, List.getElem?_cons_zero] at z0 z1 z2 q0 q1 q2
  have hn1 : g4 ≠ w.heap.size := by omega
  have hn2 : g4 ≠ w.heap.size + 1 := by omega
  have hn3 : w.heap.size ≠ g4 := by omega
  have hn4 : w.heap.size + 1 ≠ g4 := by omega
  have HO5 := Lib.hid hown5
  have HG5 := Lib.hid hG5
  clear hown5 hG5 HO4 HG4 x3 hb5 HTN
  go_wp2
  have h1 := ((HO5.out.stored (i * 2) (.string (str b2))).1.stored (i * 2 + 1) (.bool true)).1
  rw [HSET2.out] at h1
  have hS := HG5.out.up ((((RowKit.Below.refl (w.heap.size + 2) w5).setCell (p := ⟨g4, i * 2, none⟩) (by show _ ≤ g4; omega) (.string (str b2)))).setCell (p := ⟨g4, i * 2 + 1, none⟩) (by show _ ≤ g4; omega) (.bool true))
  have hR := (((hS.setBox 1 (.slice (some ⟨g4, 0, none⟩) n c4)).setRes 0 (.int .i64 (room : Int))).setRes 1 (.slice (some ⟨g4, 0, none⟩) n c4)).setRes 2 (.int .i64 (lost : Int))
  have hbw := hR.below
  refine bodyPost_ret (results_cell_tmp rfl _ _ (w.heap.size + 1) _ rfl (load_rowG hR.res rfl)) rfl ?_
  refine ⟨some ⟨g4, 0, none⟩, c4, by rw [HLEN.out]; rfl, by rw [HLEN.out]; exact HC9.out, HM9.out, ?_, hbw⟩
  have hD : ∀ b, (Value.slice (some ⟨g4, 0, none⟩) n c4).ownBlock = some b → ¬ (b = w.heap.size ∨ b = w.heap.size + 1) := fun b hb e => by have := (HO5.out.lt b hb).1; omega
  have h2 := own_only h1 ((onlyE_set (D := fun k => k = w.heap.size ∨ k = w.heap.size + 1) (.inl rfl) 1 (.slice (some ⟨g4, 0, none⟩) n c4)).trans ((onlyE_set (D := fun k => k = w.heap.size ∨ k = w.heap.size + 1) (.inr rfl) 0 (.int .i64 (room : Int))).trans ((onlyE_set (D := fun k => k = w.heap.size ∨ k = w.heap.size + 1) (.inr rfl) 1 (.slice (some ⟨g4, 0, none⟩) n c4)).trans (onlyE_set (D := fun k => k = w.heap.size ∨ k = w.heap.size + 1) (.inr rfl) 2 (.int .i64 (lost : Int)))))) hD
  exact KeepsG.new h2 (by omega)

end Go.Proofs.Ytjecphjdmjoeiaa
