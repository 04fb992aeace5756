/- Stage 13: what is made of a chunk: nothing is kept. -/
import Derived.Test.YthkongnjokmmfaaDoorGtY
set_option maxRecDepth 20000
namespace Go.Proofs.YthkongnjokmmfaaDoor
open Go.RowKit Go.Sort

/-- What is told: bytes, in the gatherer's blocks (or none), outside of its box. -/
def Told (w : World) (gp : Nat) (D : Nat → Prop) (v : Value) (d : List UInt8) : Prop := ∃ A n c, v = .slice A n c ∧ d.length = n ∧ n ≤ c ∧ c ≤ maxLen ∧ LiesX w (fun k => k = gp ∨ ¬ D k) A (bvs d)
/-- What is made of a chunk: the gatherer behind it, what is told. -/
def Came (w : World) (base gp : Nat) (D : Nat → Prop) (g' : Gm) (d : List UInt8) (made : Nat) (e : Ending) (w' : World) : Prop :=
  ∃ T' L' D' vp, e = .returned (.tuple #[vp, .int .u8 (made : Int)]) ∧ GtAt w' base gp T' L' g' D' ∧ OnlyE w w' D ∧ (∀ k, D' k → D k ∨ w.heap.size ≤ k) ∧ (∀ k, D k → D' k) ∧ Told w' gp D' vp d
theorem told_nil (w : World) (gp : Nat) (D : Nat → Prop) : Told w gp D (.slice none 0 0) [] := ⟨none, 0, 0, rfl, rfl, Nat.le_refl _, by unfold maxLen; omega, LiesX.nil⟩
theorem liesX_own {w : World} {b n gp : Nat} {D : Nat → Prop} {xs : List Value} (h : w.ownsRow 0 5 1 (.slice (some ⟨b, 0, none⟩) n n) n xs) (hb : gp ≠ b ∧ D b) : LiesX w (fun k => k = gp ∨ ¬ D k) (some ⟨b, 0, none⟩) xs := fun hn => by
  obtain ⟨b2, off, e, h2, h3⟩ := Lies.of_own h hn
  injection e with e
  injection e with e1 e2
  subst e1
  exact ⟨b, off, by rw [← e2], h2, fun e => e.elim (fun e => hb.1 e.symm) fun e => e hb.2, h3⟩

section
variable {w : World} {base gp : Nat} {T : Value} {L : List Pz} {g : Gm} {D : Nat → Prop}


set_option maxHeartbeats 6400000 in
theorem come_a (h : GtAt w base gp T L g D) (hwt : g.weight ≤ 100000) (F : Fr) (cs : Array Value) (hF : FrX w D F cs) (hw : F.Wf) (hr : (mayB F.id && rightZ F g.chunk g.most) = false) :
    Calls Tryd.prog 29 #[.pointer (some ⟨gp, 0, none⟩), .agg cs] w (Came w base gp D g [] 1) := by
  have mixed := mixedOrders
  have hLw := h.lenw
  have hlt := h.lt
  have HG := Lib.hid h
  obtain ⟨vp0, hptr⟩ : ∃ v, ptrOf L F.id = v := ⟨_, rfl⟩
  have HFI : Hid (∀ W, RowKit.Below w.heap.size w W → Calls Tryd.prog 34 #[.pointer (some ⟨gp, 0, none⟩), valId F.id] W fun e w' => e = .returned (vp0) ∧ RowKit.Below W.heap.size W w') := fun W hW => by
    have := find_any (h.on hW) (by omega) F.id
    rw [hptr] at this
    exact this
  have HRI : Hid (∀ W, RowKit.Below w.heap.size w W → Calls Tryd.prog 39 #[.pointer (some ⟨gp, 0, none⟩), .agg cs] W fun e w' => e = .returned (.bool false) ∧ RowKit.Below W.heap.size W w') := fun W hW => by
    have := gright_any (h.on hW) F cs (hF.toL.on hW) hw
    rw [hr] at this
    exact this
  clear hptr
  obtain ⟨pf, rfl, hq0, hq1, hq2, hq3, hq4⟩ := hF
  have HQ4 := Lib.hid hq4
  clear hq0 hq1 hq2 hq3 hq4
  have ha2 := hw.at_
  have hs2 := hw.size
  have ewa : IntKind.i64.wrap (F.at_ : Int) = (F.at_ : Int) := by rw [IntKind.wrap_i64] <;> omega
  have ews : IntKind.i64.wrap (F.size : Int) = (F.size : Int) := by rw [IntKind.wrap_i64] <;> omega
  unfold frCells at HRI ⊢
  unfold valId at HFI
  clear h hw
  go_enter Tryd.func29, Tryd.ntmps29
  go_wp2_with fail
  generalize hw0 : World.alloc w _ = w0
  obtain ⟨hs0, hG, hcc⟩ := box1 w w0 _ _ hw0
  have hbe : RowKit.Below w.heap.size w w0 := hG.below
  have hw00 : w.heap.size < w0.heap.size := by omega
  have HCC := Lib.hid hcc
  clear hcc hw0 hG
  refine (HFI.out w0 hbe).mono ?_
  rintro e w1 ⟨rfl, hb1⟩
  have HB1 := Lib.hid (hbe.trans (hb1.mono hbe.size))
  have HX := Lib.hid (fun (W : World) (hW : RowKit.Below w1.heap.size w1 W) (j : Nat) (u : Value) hu => (hW.cell (p := ⟨w.heap.size, j, none⟩) (Nat.lt_of_lt_of_le hw00 hb1.size)).trans ((hb1.cell (p := ⟨w.heap.size, j, none⟩) hw00).trans (HCC.out j u hu)))
  have hw1 : w.heap.size < w1.heap.size := Nat.lt_of_lt_of_le hw00 hb1.size
  clear HCC hb1 hbe HFI
  have HRI1 := Lib.hid (fun p : Later w1 => HRI.out p.w (HB1.out.trans (p.hb.mono HB1.out.size)))
  have hb0 := RowKit.Below.refl w1.heap.size w1
  have x0 := later_cell (w0 := w1) (b := w.heap.size) hw1 (HX.out w1 (RowKit.Below.refl _ _) 0 _ rfl)
  have x1 := later_cell (w0 := w1) (b := w.heap.size) hw1 (HX.out w1 (RowKit.Below.refl _ _) 1 _ rfl)
  have x2 := later_cell (w0 := w1) (b := w.heap.size) hw1 (HX.out w1 (RowKit.Below.refl _ _) 2 _ rfl)
  have x3 := later_cell (w0 := w1) (b := w.heap.size) hw1 (HX.out w1 (RowKit.Below.refl _ _) 3 _ rfl)
  have x4 := later_cell (w0 := w1) (b := w.heap.size) hw1 (HX.out w1 (RowKit.Below.refl _ _) 4 _ rfl)
  have x5 := later_cell (w0 := w1) (b := w.heap.size) hw1 (HX.out w1 (RowKit.Below.refl _ _) 5 _ rfl)
  have x6 := later_cell (w0 := w1) (b := w.heap.size) hw1 (HX.out w1 (RowKit.Below.refl _ _) 6 _ rfl)
  have x7 := later_cell (w0 := w1) (b := w.heap.size) hw1 (HX.out w1 (RowKit.Below.refl _ _) 7 _ rfl)
  have x8 := later_cell (w0 := w1) (b := w.heap.size) hw1 (HX.out w1 (RowKit.Below.refl _ _) 8 _ rfl)
  have x9 := later_cell (w0 := w1) (b := w.heap.size) hw1 (HX.out w1 (RowKit.Below.refl _ _) 9 _ rfl)
  have x10 := later_cell (w0 := w1) (b := w.heap.size) hw1 (HX.out w1 (RowKit.Below.refl _ _) 10 _ rfl)
  have x11 := later_cell (w0 := w1) (b := w.heap.size) hw1 (HX.out w1 (RowKit.Below.refl _ _) 11 _ rfl)
  have x12 := later_cell (w0 := w1) (b := w.heap.size) hw1 (HX.out w1 (RowKit.Below.refl _ _) 12 _ rfl)
  have x13 := later_cell (w0 := w1) (b := w.heap.size) hw1 (HX.out w1 (RowKit.Below.refl _ _) 13 _ rfl)
  have x14 := later_cell (w0 := w1) (b := w.heap.size) hw1 (HX.out w1 (RowKit.Below.refl _ _) 14 _ rfl)
  have x15 := later_cell (w0 := w1) (b := w.heap.size) hw1 (HX.out w1 (RowKit.Below.refl _ _) 15 _ rfl)
  go_wp2_with fail
  refine wp_region_later mixed (by kernel_rfl) ?_
  repeat (go_big_quiet_step ((go_at_call 39; exact later_of (HRI1.out _))))
  refine wpQuiet_nil ?_
  intro _ hw'
  obtain ⟨p, rfl⟩ := hw'
  have hbp : RowKit.Below w1.heap.size w1 p.w := hb0.trans (p.hb.mono hb0.size)
  have HE := Lib.hid (HB1.out.trans (hbp.mono HB1.out.size))
  go_wp2
  go_ret2
  exact ⟨T, L, D, _, rfl, HG.out.on HE.out, OnlyE.of_below HE.out, fun k hk => .inl hk, fun k hk => hk, told_nil _ _ _⟩


set_option maxHeartbeats 6400000 in
theorem come_c (h : GtAt w base gp T L g D) (hwt : g.weight ≤ 100000) (F : Fr) (cs : Array Value) (hF : FrX w D F cs) (hw : F.Wf) (hr : (mayB F.id && rightZ F g.chunk g.most) = true) (i : Nat) (hi : i < L.length) (hidx : idxP g.l F.id = i) (hne : L[i].x.size ≠ F.size) :
    Calls Tryd.prog 29 #[.pointer (some ⟨gp, 0, none⟩), .agg cs] w (Came w base gp D g [] 1) := by
  have mixed := mixedOrders
  have hLw := h.lenw
  have hlt := h.lt
  have HG := Lib.hid h
  have hii : idxP (L.map Pz.x) F.id = i := by rw [← h.gl]; exact hidx
  have hptr : ptrOf L F.id = .pointer (some ⟨L[i].p, 0, none⟩) := by unfold ptrOf; rw [dif_pos (by rw [hii]; exact hi)]; simp only [hii]; rfl
  have HFI : Hid (∀ W, RowKit.Below w.heap.size w W → Calls Tryd.prog 34 #[.pointer (some ⟨gp, 0, none⟩), valId F.id] W fun e w' => e = .returned (.pointer (some ⟨L[i].p, 0, none⟩)) ∧ RowKit.Below W.heap.size W w') := fun W hW => by
    have := find_any (h.on hW) (by omega) F.id
    rw [hptr] at this
    exact this
  have HRI : Hid (∀ W, RowKit.Below w.heap.size w W → Calls Tryd.prog 39 #[.pointer (some ⟨gp, 0, none⟩), .agg cs] W fun e w' => e = .returned (.bool true) ∧ RowKit.Below W.heap.size W w') := fun W hW => by
    have := gright_any (h.on hW) F cs (hF.toL.on hW) hw
    rw [hr] at this
    exact this
  clear hptr
  have hne1 : ((L[i].x.size : Int) != (F.size : Int)) = true := by rw [bne_iff_ne]; omega
  obtain ⟨pf, rfl, hq0, hq1, hq2, hq3, hq4⟩ := hF
  have HQ4 := Lib.hid hq4
  clear hq0 hq1 hq2 hq3 hq4
  have ha2 := hw.at_
  have hs2 := hw.size
  have ewa : IntKind.i64.wrap (F.at_ : Int) = (F.at_ : Int) := by rw [IntKind.wrap_i64] <;> omega
  have ews : IntKind.i64.wrap (F.size : Int) = (F.size : Int) := by rw [IntKind.wrap_i64] <;> omega
  unfold frCells at HRI ⊢
  unfold valId at HFI
  clear h hw
  go_enter Tryd.func29, Tryd.ntmps29
  go_wp2_with fail
  generalize hw0 : World.alloc w _ = w0
  obtain ⟨hs0, hG, hcc⟩ := box1 w w0 _ _ hw0
  have hbe : RowKit.Below w.heap.size w w0 := hG.below
  have hw00 : w.heap.size < w0.heap.size := by omega
  have HCC := Lib.hid hcc
  clear hcc hw0 hG
  refine (HFI.out w0 hbe).mono ?_
  rintro e w1 ⟨rfl, hb1⟩
  have HB1 := Lib.hid (hbe.trans (hb1.mono hbe.size))
  have HX := Lib.hid (fun (W : World) (hW : RowKit.Below w1.heap.size w1 W) (j : Nat) (u : Value) hu => (hW.cell (p := ⟨w.heap.size, j, none⟩) (Nat.lt_of_lt_of_le hw00 hb1.size)).trans ((hb1.cell (p := ⟨w.heap.size, j, none⟩) hw00).trans (HCC.out j u hu)))
  have hw1 : w.heap.size < w1.heap.size := Nat.lt_of_lt_of_le hw00 hb1.size
  clear HCC hb1 hbe HFI
  have HRI1 := Lib.hid (fun p : Later w1 => HRI.out p.w (HB1.out.trans (p.hb.mono HB1.out.size)))
  have hb0 := RowKit.Below.refl w1.heap.size w1
  have hplt : L[i].p < w.heap.size := (HG.out.part hi).lt (.inl rfl)
  have hpl1 : L[i].p < w1.heap.size := by omega
  have y3 := later_cell (w0 := w1) (b := L[i].p) hpl1 ((HG.out.on HB1.out).part hi).c3
  have x0 := later_cell (w0 := w1) (b := w.heap.size) hw1 (HX.out w1 (RowKit.Below.refl _ _) 0 _ rfl)
  have x1 := later_cell (w0 := w1) (b := w.heap.size) hw1 (HX.out w1 (RowKit.Below.refl _ _) 1 _ rfl)
  have x2 := later_cell (w0 := w1) (b := w.heap.size) hw1 (HX.out w1 (RowKit.Below.refl _ _) 2 _ rfl)
  have x3 := later_cell (w0 := w1) (b := w.heap.size) hw1 (HX.out w1 (RowKit.Below.refl _ _) 3 _ rfl)
  have x4 := later_cell (w0 := w1) (b := w.heap.size) hw1 (HX.out w1 (RowKit.Below.refl _ _) 4 _ rfl)
  have x5 := later_cell (w0 := w1) (b := w.heap.size) hw1 (HX.out w1 (RowKit.Below.refl _ _) 5 _ rfl)
  have x6 := later_cell (w0 := w1) (b := w.heap.size) hw1 (HX.out w1 (RowKit.Below.refl _ _) 6 _ rfl)
  have x7 := later_cell (w0 := w1) (b := w.heap.size) hw1 (HX.out w1 (RowKit.Below.refl _ _) 7 _ rfl)
  have x8 := later_cell (w0 := w1) (b := w.heap.size) hw1 (HX.out w1 (RowKit.Below.refl _ _) 8 _ rfl)
  have x9 := later_cell (w0 := w1) (b := w.heap.size) hw1 (HX.out w1 (RowKit.Below.refl _ _) 9 _ rfl)
  have x10 := later_cell (w0 := w1) (b := w.heap.size) hw1 (HX.out w1 (RowKit.Below.refl _ _) 10 _ rfl)
  have x11 := later_cell (w0 := w1) (b := w.heap.size) hw1 (HX.out w1 (RowKit.Below.refl _ _) 11 _ rfl)
  have x12 := later_cell (w0 := w1) (b := w.heap.size) hw1 (HX.out w1 (RowKit.Below.refl _ _) 12 _ rfl)
  have x13 := later_cell (w0 := w1) (b := w.heap.size) hw1 (HX.out w1 (RowKit.Below.refl _ _) 13 _ rfl)
  have x14 := later_cell (w0 := w1) (b := w.heap.size) hw1 (HX.out w1 (RowKit.Below.refl _ _) 14 _ rfl)
  have x15 := later_cell (w0 := w1) (b := w.heap.size) hw1 (HX.out w1 (RowKit.Below.refl _ _) 15 _ rfl)
  go_wp2_with fail
  refine wp_region_later mixed (by kernel_rfl) ?_
  repeat (go_big_quiet_step ((go_at_call 39; exact later_of (HRI1.out _))))
  refine wpQuiet_nil ?_
  intro _ hw'
  obtain ⟨p, rfl⟩ := hw'
  have hbp : RowKit.Below w1.heap.size w1 p.w := hb0.trans (p.hb.mono hb0.size)
  have HE := Lib.hid (HB1.out.trans (hbp.mono HB1.out.size))
  go_wp2
  go_ret2
  exact ⟨T, L, D, _, rfl, HG.out.on HE.out, OnlyE.of_below HE.out, fun k hk => .inl hk, fun k hk => hk, told_nil _ _ _⟩


set_option maxHeartbeats 6400000 in
theorem come_old (h : GtAt w base gp T L g D) (hwt : g.weight ≤ 100000) (F : Fr) (cs : Array Value) (hF : FrX w D F cs) (hw : F.Wf) (hr : (mayB F.id && rightZ F g.chunk g.most) = true) (i : Nat) (hi : i < L.length) (hidx : idxP g.l F.id = i) (heq : L[i].x.size = F.size) (hat : F.at_ < L[i].x.has.length) (hhas : L[i].x.has.getD F.at_ false = true) :
    Calls Tryd.prog 29 #[.pointer (some ⟨gp, 0, none⟩), .agg cs] w (Came w base gp D g [] 2) := by
  have mixed := mixedOrders
  have hLw := h.lenw
  have hlt := h.lt
  have HG := Lib.hid h
  have hii : idxP (L.map Pz.x) F.id = i := by rw [← h.gl]; exact hidx
  have hptr : ptrOf L F.id = .pointer (some ⟨L[i].p, 0, none⟩) := by unfold ptrOf; rw [dif_pos (by rw [hii]; exact hi)]; simp only [hii]; rfl
  have HFI : Hid (∀ W, RowKit.Below w.heap.size w W → Calls Tryd.prog 34 #[.pointer (some ⟨gp, 0, none⟩), valId F.id] W fun e w' => e = .returned (.pointer (some ⟨L[i].p, 0, none⟩)) ∧ RowKit.Below W.heap.size W w') := fun W hW => by
    have := find_any (h.on hW) (by omega) F.id
    rw [hptr] at this
    exact this
  have HRI : Hid (∀ W, RowKit.Below w.heap.size w W → Calls Tryd.prog 39 #[.pointer (some ⟨gp, 0, none⟩), .agg cs] W fun e w' => e = .returned (.bool true) ∧ RowKit.Below W.heap.size W w') := fun W hW => by
    have := gright_any (h.on hW) F cs (hF.toL.on hW) hw
    rw [hr] at this
    exact this
  clear hptr
  have hne1 : ((L[i].x.size : Int) != (F.size : Int)) = false := by rw [heq, bne_self_eq_false]
  obtain ⟨pf, rfl, hq0, hq1, hq2, hq3, hq4⟩ := hF
  have HQ4 := Lib.hid hq4
  clear hq0 hq1 hq2 hq3 hq4
  have ha2 := hw.at_
  have hs2 := hw.size
  have ewa : IntKind.i64.wrap (F.at_ : Int) = (F.at_ : Int) := by rw [IntKind.wrap_i64] <;> omega
  have ews : IntKind.i64.wrap (F.size : Int) = (F.size : Int) := by rw [IntKind.wrap_i64] <;> omega
  unfold frCells at HRI ⊢
  unfold valId at HFI
  clear h hw
  go_enter Tryd.func29, Tryd.ntmps29
  go_wp2_with fail
  generalize hw0 : World.alloc w _ = w0
  obtain ⟨hs0, hG, hcc⟩ := box1 w w0 _ _ hw0
  have hbe : RowKit.Below w.heap.size w w0 := hG.below
  have hw00 : w.heap.size < w0.heap.size := by omega
  have HCC := Lib.hid hcc
  clear hcc hw0 hG
  refine (HFI.out w0 hbe).mono ?_
  rintro e w1 ⟨rfl, hb1⟩
  have HB1 := Lib.hid (hbe.trans (hb1.mono hbe.size))
  have HX := Lib.hid (fun (W : World) (hW : RowKit.Below w1.heap.size w1 W) (j : Nat) (u : Value) hu => (hW.cell (p := ⟨w.heap.size, j, none⟩) (Nat.lt_of_lt_of_le hw00 hb1.size)).trans ((hb1.cell (p := ⟨w.heap.size, j, none⟩) hw00).trans (HCC.out j u hu)))
  have hw1 : w.heap.size < w1.heap.size := Nat.lt_of_lt_of_le hw00 hb1.size
  clear HCC hb1 hbe HFI
  have HRI1 := Lib.hid (fun p : Later w1 => HRI.out p.w (HB1.out.trans (p.hb.mono HB1.out.size)))
  have hb0 := RowKit.Below.refl w1.heap.size w1
  have hplt : L[i].p < w.heap.size := (HG.out.part hi).lt (.inl rfl)
  have hpl1 : L[i].p < w1.heap.size := by omega
  have y3 := later_cell (w0 := w1) (b := L[i].p) hpl1 ((HG.out.on HB1.out).part hi).c3
  have x0 := later_cell (w0 := w1) (b := w.heap.size) hw1 (HX.out w1 (RowKit.Below.refl _ _) 0 _ rfl)
  have x1 := later_cell (w0 := w1) (b := w.heap.size) hw1 (HX.out w1 (RowKit.Below.refl _ _) 1 _ rfl)
  have x2 := later_cell (w0 := w1) (b := w.heap.size) hw1 (HX.out w1 (RowKit.Below.refl _ _) 2 _ rfl)
  have x3 := later_cell (w0 := w1) (b := w.heap.size) hw1 (HX.out w1 (RowKit.Below.refl _ _) 3 _ rfl)
  have x4 := later_cell (w0 := w1) (b := w.heap.size) hw1 (HX.out w1 (RowKit.Below.refl _ _) 4 _ rfl)
  have x5 := later_cell (w0 := w1) (b := w.heap.size) hw1 (HX.out w1 (RowKit.Below.refl _ _) 5 _ rfl)
  have x6 := later_cell (w0 := w1) (b := w.heap.size) hw1 (HX.out w1 (RowKit.Below.refl _ _) 6 _ rfl)
  have x7 := later_cell (w0 := w1) (b := w.heap.size) hw1 (HX.out w1 (RowKit.Below.refl _ _) 7 _ rfl)
  have x8 := later_cell (w0 := w1) (b := w.heap.size) hw1 (HX.out w1 (RowKit.Below.refl _ _) 8 _ rfl)
  have x9 := later_cell (w0 := w1) (b := w.heap.size) hw1 (HX.out w1 (RowKit.Below.refl _ _) 9 _ rfl)
  have x10 := later_cell (w0 := w1) (b := w.heap.size) hw1 (HX.out w1 (RowKit.Below.refl _ _) 10 _ rfl)
  have x11 := later_cell (w0 := w1) (b := w.heap.size) hw1 (HX.out w1 (RowKit.Below.refl _ _) 11 _ rfl)
  have x12 := later_cell (w0 := w1) (b := w.heap.size) hw1 (HX.out w1 (RowKit.Below.refl _ _) 12 _ rfl)
  have x13 := later_cell (w0 := w1) (b := w.heap.size) hw1 (HX.out w1 (RowKit.Below.refl _ _) 13 _ rfl)
  have x14 := later_cell (w0 := w1) (b := w.heap.size) hw1 (HX.out w1 (RowKit.Below.refl _ _) 14 _ rfl)
  have x15 := later_cell (w0 := w1) (b := w.heap.size) hw1 (HX.out w1 (RowKit.Below.refl _ _) 15 _ rfl)
  go_wp2_with fail
  refine wp_region_later mixed (by kernel_rfl) ?_
  repeat (go_big_quiet_step ((go_at_call 39; exact later_of (HRI1.out _))))
  refine wpQuiet_nil ?_
  intro _ hw'
  obtain ⟨p, rfl⟩ := hw'
  have hbp : RowKit.Below w1.heap.size w1 p.w := hb0.trans (p.hb.mono hb0.size)
  have HB2 := Lib.hid (HB1.out.trans (hbp.mono HB1.out.size))
  have hbx : RowKit.Below w1.heap.size w1 p.w := hbp
  clear x0 x1 x2 x3 x4 x5 x6 x7 x8 x9 x10 x11 x12 x13 x14 x15
  clear y3
  clear hbp hb0
  generalize p.w = W2 at HB2 hbx ⊢
  clear p HRI1
  have hW2 : w1.heap.size ≤ W2.heap.size := hbx.size
  have r6 := later_cell (w0 := W2) (b := w.heap.size) (by omega) (HX.out W2 hbx 6 _ rfl)
  have r0 := later_cell (w0 := W2) (b := L[i].p) (by omega) ((HG.out.on HB2.out).part hi).c0
  have HHA : Hid (∀ p : Later W2, Calls Tryd.prog 40 #[.pointer (some ⟨L[i].s, 0, none⟩), .int .i64 (F.at_ : Int)] p.w fun e w' => e = .returned (.bool true) ∧ RowKit.Below p.w.heap.size p.w w') := fun p => by
    have := has_yes ((HG.out.on (HB2.out.trans (p.hb.mono HB2.out.size))).part hi).set F.at_ hat
    rw [hhas] at this
    exact this.mono fun _ _ ⟨e1, e2⟩ => ⟨e1, e2 ▸ RowKit.Below.refl _ _⟩
  have hb0 := RowKit.Below.refl W2.heap.size W2
  go_wp2_with fail
  refine wp_region_later mixed (by kernel_rfl) ?_
  repeat (go_big_quiet_step ((go_at_call 40; exact later_of (HHA.out _))))
  refine wpQuiet_nil ?_
  intro _ hw'
  obtain ⟨p, rfl⟩ := hw'
  have hbp : RowKit.Below W2.heap.size W2 p.w := hb0.trans (p.hb.mono hb0.size)
  have HE := Lib.hid (HB2.out.trans (hbp.mono HB2.out.size))
  go_wp2
  go_ret2
  exact ⟨T, L, D, _, rfl, HG.out.on HE.out, OnlyE.of_below HE.out, fun k hk => .inl hk, fun k hk => hk, told_nil _ _ _⟩


set_option maxHeartbeats 6400000 in
theorem come_lost (h : GtAt w base gp T L g D) (hwt : g.weight ≤ 100000) (F : Fr) (cs : Array Value) (hF : FrX w D F cs) (hw : F.Wf) (hr : (mayB F.id && rightZ F g.chunk g.most) = true) (hi : ¬ idxP g.l F.id < g.l.length) (h1 : g.room < usedL g.l + F.size) (h2 : F.id ≠ g.wanted) :
    Calls Tryd.prog 29 #[.pointer (some ⟨gp, 0, none⟩), .agg cs] w (Came w base gp D g [] 3) := by
  have mixed := mixedOrders
  have hLw := h.lenw
  have hlt := h.lt
  have HG := Lib.hid h
  have hptr : ptrOf L F.id = .pointer none := by unfold ptrOf; rw [← h.gl, dif_neg (by rw [← h.len]; exact hi)]
  have HFI : Hid (∀ W, RowKit.Below w.heap.size w W → Calls Tryd.prog 34 #[.pointer (some ⟨gp, 0, none⟩), valId F.id] W fun e w' => e = .returned (.pointer none) ∧ RowKit.Below W.heap.size W w') := fun W hW => by
    have := find_any (h.on hW) (by omega) F.id
    rw [hptr] at this
    exact this
  have HRI : Hid (∀ W, RowKit.Below w.heap.size w W → Calls Tryd.prog 39 #[.pointer (some ⟨gp, 0, none⟩), .agg cs] W fun e w' => e = .returned (.bool true) ∧ RowKit.Below W.heap.size W w') := fun W hW => by
    have := gright_any (h.on hW) F cs (hF.toL.on hW) hw
    rw [hr] at this
    exact this
  clear hptr
  have HMR : Hid (∀ W, RowKit.Below w.heap.size w W → Calls Tryd.prog 41 #[.pointer (some ⟨gp, 0, none⟩), .agg cs] W fun e w' => ∃ T', e = .returned (.bool false) ∧ GtAt w' base gp T' L g D ∧ OnlyE W w' D ∧ T'.ownBlock = T.ownBlock) := fun W hW =>
    makeRoom_no (h.on hW) (by omega) F cs (hF.toL.on hW) (hw.size) h1 h2
  obtain ⟨pf, rfl, hq0, hq1, hq2, hq3, hq4⟩ := hF
  have HQ4 := Lib.hid hq4
  clear hq0 hq1 hq2 hq3 hq4
  have ha2 := hw.at_
  have hs2 := hw.size
  have ewa : IntKind.i64.wrap (F.at_ : Int) = (F.at_ : Int) := by rw [IntKind.wrap_i64] <;> omega
  have ews : IntKind.i64.wrap (F.size : Int) = (F.size : Int) := by rw [IntKind.wrap_i64] <;> omega
  unfold frCells at HRI ⊢
  unfold valId at HFI
  clear h hw
  go_enter Tryd.func29, Tryd.ntmps29
  go_wp2_with fail
  generalize hw0 : World.alloc w _ = w0
  obtain ⟨hs0, hG, hcc⟩ := box1 w w0 _ _ hw0
  have hbe : RowKit.Below w.heap.size w w0 := hG.below
  have hw00 : w.heap.size < w0.heap.size := by omega
  have HCC := Lib.hid hcc
  clear hcc hw0 hG
  refine (HFI.out w0 hbe).mono ?_
  rintro e w1 ⟨rfl, hb1⟩
  have HB1 := Lib.hid (hbe.trans (hb1.mono hbe.size))
  have HX := Lib.hid (fun (W : World) (hW : RowKit.Below w1.heap.size w1 W) (j : Nat) (u : Value) hu => (hW.cell (p := ⟨w.heap.size, j, none⟩) (Nat.lt_of_lt_of_le hw00 hb1.size)).trans ((hb1.cell (p := ⟨w.heap.size, j, none⟩) hw00).trans (HCC.out j u hu)))
  have hw1 : w.heap.size < w1.heap.size := Nat.lt_of_lt_of_le hw00 hb1.size
  clear HCC hb1 hbe HFI
  have HRI1 := Lib.hid (fun p : Later w1 => HRI.out p.w (HB1.out.trans (p.hb.mono HB1.out.size)))
  have hb0 := RowKit.Below.refl w1.heap.size w1
  have x0 := later_cell (w0 := w1) (b := w.heap.size) hw1 (HX.out w1 (RowKit.Below.refl _ _) 0 _ rfl)
  have x1 := later_cell (w0 := w1) (b := w.heap.size) hw1 (HX.out w1 (RowKit.Below.refl _ _) 1 _ rfl)
  have x2 := later_cell (w0 := w1) (b := w.heap.size) hw1 (HX.out w1 (RowKit.Below.refl _ _) 2 _ rfl)
  have x3 := later_cell (w0 := w1) (b := w.heap.size) hw1 (HX.out w1 (RowKit.Below.refl _ _) 3 _ rfl)
  have x4 := later_cell (w0 := w1) (b := w.heap.size) hw1 (HX.out w1 (RowKit.Below.refl _ _) 4 _ rfl)
  have x5 := later_cell (w0 := w1) (b := w.heap.size) hw1 (HX.out w1 (RowKit.Below.refl _ _) 5 _ rfl)
  have x6 := later_cell (w0 := w1) (b := w.heap.size) hw1 (HX.out w1 (RowKit.Below.refl _ _) 6 _ rfl)
  have x7 := later_cell (w0 := w1) (b := w.heap.size) hw1 (HX.out w1 (RowKit.Below.refl _ _) 7 _ rfl)
  have x8 := later_cell (w0 := w1) (b := w.heap.size) hw1 (HX.out w1 (RowKit.Below.refl _ _) 8 _ rfl)
  have x9 := later_cell (w0 := w1) (b := w.heap.size) hw1 (HX.out w1 (RowKit.Below.refl _ _) 9 _ rfl)
  have x10 := later_cell (w0 := w1) (b := w.heap.size) hw1 (HX.out w1 (RowKit.Below.refl _ _) 10 _ rfl)
  have x11 := later_cell (w0 := w1) (b := w.heap.size) hw1 (HX.out w1 (RowKit.Below.refl _ _) 11 _ rfl)
  have x12 := later_cell (w0 := w1) (b := w.heap.size) hw1 (HX.out w1 (RowKit.Below.refl _ _) 12 _ rfl)
  have x13 := later_cell (w0 := w1) (b := w.heap.size) hw1 (HX.out w1 (RowKit.Below.refl _ _) 13 _ rfl)
  have x14 := later_cell (w0 := w1) (b := w.heap.size) hw1 (HX.out w1 (RowKit.Below.refl _ _) 14 _ rfl)
  have x15 := later_cell (w0 := w1) (b := w.heap.size) hw1 (HX.out w1 (RowKit.Below.refl _ _) 15 _ rfl)
  go_wp2_with fail
  refine wp_region_later mixed (by kernel_rfl) ?_
  repeat (go_big_quiet_step ((go_at_call 39; exact later_of (HRI1.out _))))
  refine wpQuiet_nil ?_
  intro _ hw'
  obtain ⟨p, rfl⟩ := hw'
  have hbp : RowKit.Below w1.heap.size w1 p.w := hb0.trans (p.hb.mono hb0.size)
  have HB2 := Lib.hid (HB1.out.trans (hbp.mono HB1.out.size))
  have hbx : RowKit.Below w1.heap.size w1 p.w := hbp
  clear x0 x1 x2 x3 x4 x5 x6 x7 x8 x9 x10 x11 x12 x13 x14 x15
  clear hbp hb0
  generalize p.w = W2 at HB2 hbx ⊢
  clear p HRI1
  have hb0 := RowKit.Below.refl W2.heap.size W2
  go_wp2_with fail
  refine wp_region_later mixed (by kernel_rfl) ?_
  repeat (go_big_quiet_step (fail))
  refine wpQuiet_nil ?_
  intro _ hw'
  obtain ⟨p, rfl⟩ := hw'
  have hbp : RowKit.Below W2.heap.size W2 p.w := hb0.trans (p.hb.mono hb0.size)
  have HB3 := Lib.hid (HB2.out.trans (hbp.mono HB2.out.size))
  have hbx3 : RowKit.Below w1.heap.size w1 p.w := hbx.trans (hbp.mono hbx.size)
  clear hbp hb0 hbx
  generalize p.w = W3 at HB3 hbx3 ⊢
  clear p
  have x0 := HX.out W3 hbx3 0 _ rfl
  have x1 := HX.out W3 hbx3 1 _ rfl
  have x2 := HX.out W3 hbx3 2 _ rfl
  have x3 := HX.out W3 hbx3 3 _ rfl
  have x4 := HX.out W3 hbx3 4 _ rfl
  have x5 := HX.out W3 hbx3 5 _ rfl
  have x6 := HX.out W3 hbx3 6 _ rfl
  have x7 := HX.out W3 hbx3 7 _ rfl
  have x8 := HX.out W3 hbx3 8 _ rfl
  have x9 := HX.out W3 hbx3 9 _ rfl
  have x10 := HX.out W3 hbx3 10 _ rfl
  have x11 := HX.out W3 hbx3 11 _ rfl
  have x12 := HX.out W3 hbx3 12 _ rfl
  have x13 := HX.out W3 hbx3 13 _ rfl
  have x14 := HX.out W3 hbx3 14 _ rfl
  have x15 := HX.out W3 hbx3 15 _ rfl
  go_wp2_with fail
  refine (HMR.out W3 HB3.out).mono ?_
  rintro e w4 ⟨T', rfl, hg4, ho4, -⟩
  have HG4 := Lib.hid hg4
  have HO4 := Lib.hid ((OnlyE.of_below (D := D) HB3.out).trans ho4)
  clear hg4 ho4 HMR
  clear x0 x1 x2 x3 x4 x5 x6 x7 x8 x9 x10 x11 x12 x13 x14 x15
  go_wp2
  go_ret2
  exact ⟨T', L, D, _, rfl, HG4.out, HO4.out, fun k hk => .inl hk, fun k hk => hk, told_nil _ _ _⟩

end

end Go.Proofs.YthkongnjokmmfaaDoor

