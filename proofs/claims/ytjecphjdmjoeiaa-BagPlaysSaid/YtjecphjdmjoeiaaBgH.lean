/- Twice: one more like the thing at a place. -/
import Derived.Test.YtjecphjdmjoeiaaBgG
namespace Go.Proofs.Ytjecphjdmjoeiaa
open Go.RowKit Go.Sort

/-- A thing in a box of its own. -/
def XBox (g : Nat) (A : Option Addr) (n c : Nat) (t : Bool) (W : World) : Prop := W.heap[g]? = some (.cells #[.slice A n c, .bool t] 64 (0, 0))
theorem XBox.c0 {g n c : Nat} {A : Option Addr} {t : Bool} {W : World} (h : XBox g A n c t W) : W.cell? ⟨g, 0, none⟩ = some (.slice A n c) := cell_of_row W g 0 _ _ _ h
theorem XBox.c1 {g n c : Nat} {A : Option Addr} {t : Bool} {W : World} (h : XBox g A n c t W) : W.cell? ⟨g, 1, none⟩ = some (.bool t) := cell_of_row W g 1 _ _ _ h
theorem XBox.below {g n c : Nat} {A : Option Addr} {t : Bool} {W W' : World} (h : XBox g A n c t W) (hb : RowKit.Below (g + 1) W W') : XBox g A n c t W' := (hb.block g (Nat.lt_succ_self g)).trans h
theorem XBox.only {g n c : Nat} {A : Option Addr} {t : Bool} {W W' : World} {D : Nat → Prop} (h : XBox g A n c t W) (ho : OnlyE W W' D) (hd : ¬ D g) : XBox g A n c t W' := (ho.same g (Array.getElem?_eq_some_iff.1 h).1 hd).trans h
theorem XBox.unset {g n c p : Nat} {A : Option Addr} {t : Bool} {W : World} {u : Value} (h : XBox g A n c t (W.setCell ⟨p, 0, none⟩ u)) (hp : p ≠ g) : XBox g A n c t W := by
  have := heap_setCell_other W ⟨p, 0, none⟩ g u (fun e => hp e.symm)
  unfold XBox at h ⊢
  rw [← this]
  exact h

section
variable {w : World} {base p : Nat} {T : Value} {room lost : Nat} {l : List Th} {D : Nat → Prop}

theorem twice_none (h : BagAt w base p T room lost l D) (i : Int) (hi : ¬ (0 ≤ i ∧ i < l.length)) : Calls Try.prog 16 #[.pointer (some ⟨p, 0, none⟩), .int .i64 i] w fun e w' => e = .returned (.bool false) ∧ w' = w := by
  have hh := has_any h i
  rw [decide_eq_false hi] at hh
  clear h
  go_enter Try.func16, Try.ntmps16
  go_wp2_with (go_at_call 25; refine hh.mono ?_; rintro e w' ⟨rfl, rfl⟩)
  go_ret
  exact ⟨rfl, rfl⟩

theorem twice_full (h : BagAt w base p T room lost l D) (i : Nat) (hi : i < l.length) (hf : room ≤ l.length) : Calls Try.prog 16 #[.pointer (some ⟨p, 0, none⟩), .int .i64 (i : Int)] w fun e w' => e = .returned (.bool false) ∧ RowKit.Below w.heap.size w w' := by
  have hh := has_any h (i : Int)
  rw [decide_eq_true (by omega : 0 ≤ (i : Int) ∧ (i : Int) < l.length)] at hh
  have hfr := free_any h
  rw [show room - l.length = 0 by omega] at hfr
  clear h
  go_enter Try.func16, Try.ntmps16
  go_wp2_with (first | (go_at_call 25; refine hh.mono ?_; rintro e w' ⟨rfl, rfl⟩) | (go_at_call 27; refine hfr.mono ?_; rintro e w1 ⟨rfl, hb1⟩))
  go_ret
  exact ⟨rfl, hb1⟩

theorem PutIn.of_push {W0 w4 : World} {T2 : Value} {v : Value} {b : List UInt8} {t : Bool} (ho : OnlyE w W0 D) (hp : Pushed W0 base p T room lost l D ⟨v, b, t⟩ T2 w4) :
    PutIn w base p room lost l D [(b, t)] (w4.setCell ⟨p, 0, none⟩ T2) := by
  have := PutIn.step (l := l) (xs := []) (by simp) ho (fun _ => .inl) (fun _ => id) hp (RowKit.Below.refl _ _)
  simpa using this

set_option maxHeartbeats 1600000 in
theorem twice_any (h : BagAt w base p T room lost l D) (i : Nat) (hi : i < l.length) (hf : l.length < room) : Calls Try.prog 16 #[.pointer (some ⟨p, 0, none⟩), .int .i64 (i : Int)] w fun e w' => e = .returned (.bool true) ∧ PutIn w base p room lost l D [l[i].pl] w' := by
  have hh := has_any h (i : Int)
  rw [decide_eq_true (by omega : 0 ≤ (i : Int) ∧ (i : Int) < l.length)] at hh
  have hfr := free_any h
  have hne : (((room - l.length : Nat) : Int) == 0) = false := by simp; omega
  generalize ((room - l.length : Nat) : Int) = fr at hfr hne
  have hx : l[i]? = some l[i] := List.getElem?_eq_getElem hi
  generalize l[i] = x at hx ⊢
  obtain ⟨xv, bs, t⟩ := x
  rw [show (Th.mk xv bs t).pl = (bs, t) from rfl]
  have HX := Lib.hid hx
  have H := Lib.hid h
  clear h hx
  go_enter Try.func16, Try.ntmps16
  go_wp2_with fail
  refine hh.mono ?_
  rintro e w' ⟨rfl, rfl⟩
  go_wp2_with fail
  refine hfr.mono ?_
  rintro e w1 ⟨rfl, hb1⟩
  have h1 := H.out.on hb1
  have hli : l[i] = ⟨xv, bs, t⟩ := by have := HX.out; rw [List.getElem?_eq_getElem hi] at this; exact Option.some.inj this
  have HBM := Lib.hid (h1.bm _ (List.getElem_mem hi))
  obtain ⟨g, c, rfl, -, -, d0, d1, -⟩ := h1.thing hi
  obtain ⟨A, c1, hv, hc1, hc2, hL⟩ := h1.body hi
  rw [hv] at d0
  rw [hli] at d0 d1 hc1 hL HBM
  simp only [] at d0 d1 hc1 hL HBM
  have c0 := h1.c0
  have H1 := Lib.hid h1
  have HB1 := Lib.hid hb1
  have HLX := Lib.hid hL
  clear hv h1 hb1 hL hh hfr H hli HX
  have hi4 : i < 4096 := by have h1 := H1.out.fit; have h2 := H1.out.room2; omega
  go_wp2_with fail
  generalize hw0 : World.alloc w1 (.cells #[.slice A bs.length c1, .bool t] 64) = w2
  have HND : Hid (¬ D w1.heap.size) := fun hk => Nat.lt_irrefl _ (H1.out.din _ hk).2
  have HPX : Hid (p ≠ w1.heap.size) := by
    show p ≠ _
    have := H1.out.plt
    omega
  have hbw : RowKit.Below w1.heap.size w1 w2 := by rw [← hw0]; exact (RowKit.Below.refl _ _).alloc (Nat.le_refl _) _
  have hS : XBox w1.heap.size A bs.length c1 t w2 := by
    show _ = _
    rw [← hw0]
    exact heap_alloc_new _ _
  have hXB : w1.heap.size + 1 ≤ w2.heap.size := by rw [← hw0]; simp
  clear hw0
  have hdr : RowKit.Below w2.heap.size w2 w2.drew := (RowKit.Below.refl _ _).drew
  have hB0 := (H1.out.on hbw).on hdr
  have HB0 := Lib.hid hB0
  have HBX : Hid (RowKit.Below w1.heap.size w1 w2.drew) := hbw.trans (hdr.mono hbw.size)
  have HO0 : Hid (OnlyE w' w2.drew D) := (OnlyE.of_below HB1.out).trans (OnlyE.of_below HBX.out)
  have hc0 : w2.drew.cell? ⟨p, 0, none⟩ = some (.slice (some ⟨g, 0, none⟩) l.length c) := hB0.c0
  have HC : Hid (∀ W0, W0 = w2.drew → Calls Try.prog 26 #[.slice A bs.length c1] W0 (Owned W0 W0.heap.size (bvs bs))) := by
    rintro W0 rfl
    exact copyOf_any A bs.length c1 bs _ HBM.out rfl (HLX.out.on HBX.out)
  have hS0 : XBox w1.heap.size A bs.length c1 t w2.drew := hS
  have hXB0 : w1.heap.size + 1 ≤ w2.drew.heap.size := hXB
  refine wp_region_held_drew (S := XBox w1.heap.size A bs.length c1 t) (by kernel_rfl) hS0 (fun hHeld => ?_)
  clear hB0 c0 d0 d1 HLX hdr hS hXB hHeld
  generalize w2.drew = W0 at HB0 HO0 hc0 HC HBX hS0 hXB0 ⊢
  have HS0 := Lib.hid hS0
  have HXB := Lib.hid hXB0
  have c0 := hc0
  have hHeld := hS0
  clear hc0 hS0 hXB0
  refine wpAnyH_takeAt (i := 0) (d := 22) (v := ?_) rfl rfl (by kernel_rfl) (by kernel_rfl) (by kernel_rfl) (fun _ _ _ h => h) (Or.inl ⟨by rfl, ?_⟩) hHeld ?_
  rotate_left
  · (intro _ hSw; go_simp; try with_reducible rfl)
  simp only [List.setIfInBounds_toArray, List.set_cons_zero, List.set_cons_succ]
  refine wpAnyH_takeAt (i := 1) (d := 23) (v := ?_) rfl rfl (by kernel_rfl) (by kernel_rfl) (by kernel_rfl) (fun _ _ _ h => h) (Or.inl ⟨by rfl, ?_⟩) hHeld ?_
  rotate_left
  · (intro _ hSw; go_simp; try with_reducible rfl)
  simp only [List.setIfInBounds_toArray, List.set_cons_zero, List.set_cons_succ]
  refine wpAnyH_takeAt (i := 2) (d := 24) (v := ?_) rfl rfl (by kernel_rfl) (by kernel_rfl) (by kernel_rfl) (fun _ _ _ h => h) (Or.inl ⟨by rfl, ?_⟩) hHeld ?_
  rotate_left
  · (intro _ hSw; go_simp; try with_reducible rfl)
  simp only [List.setIfInBounds_toArray, List.set_cons_zero, List.set_cons_succ]
  refine wpAnyH_takeAt (i := 3) (d := 25) (v := ?_) rfl rfl (by kernel_rfl) (by kernel_rfl) (by kernel_rfl) (fun _ _ _ h => h) (Or.inl ⟨by rfl, ?_⟩) hHeld ?_
  rotate_left
  · (intro _ hSw; go_simp; try with_reducible rfl)
  simp only [List.setIfInBounds_toArray, List.set_cons_zero, List.set_cons_succ]
  refine wpAnyH_takeAt (i := 5) (d := 27) (v := ?_) rfl rfl (by kernel_rfl) (by kernel_rfl) (by kernel_rfl) (fun _ _ _ h => h) (Or.inl ⟨by rfl, ?_⟩) hHeld ?_
  rotate_left
  · (intro _ hSw; go_simp; try with_reducible rfl)
  simp only [List.setIfInBounds_toArray, List.set_cons_zero, List.set_cons_succ]
  refine wpAnyH_takeAt (i := 6) (d := 28) (v := ?_) rfl rfl (by kernel_rfl) (by kernel_rfl) (by kernel_rfl) (fun _ _ _ h => h) (Or.inl ⟨by rfl, ?_⟩) hHeld ?_
  rotate_left
  · (intro _ hSw; have x0 := hSw.c0; have x1 := hSw.c1; go_simp; try with_reducible rfl)
  simp only [List.setIfInBounds_toArray, List.set_cons_zero, List.set_cons_succ]
  refine wpAnyH_takeAt (i := 8) (d := 30) (v := ?_) rfl rfl (by kernel_rfl) (by kernel_rfl) (by kernel_rfl) (fun _ _ _ h => h) (Or.inl ⟨by rfl, ?_⟩) hHeld ?_
  rotate_left
  · (intro _ hSw; go_simp; try with_reducible rfl)
  simp only [List.setIfInBounds_toArray, List.set_cons_zero, List.set_cons_succ]
  refine wpAnyH_takeAt (i := 9) (d := 31) (v := ?_) rfl rfl (by kernel_rfl) (by kernel_rfl) (by kernel_rfl) (fun _ _ _ h => h) (Or.inl ⟨by rfl, ?_⟩) hHeld ?_
  rotate_left
  · (intro _ hSw; have x0 := hSw.c0; have x1 := hSw.c1; go_simp; try with_reducible rfl)
  simp only [List.setIfInBounds_toArray, List.set_cons_zero, List.set_cons_succ]
  refine wpAnyH_ready (rs := [4, 7]) (by kernel_rfl) (by simp) ?_
  refine AllReadyH.cons rfl (fun K hK => ?_) (AllReadyH.cons rfl (fun K hK => ?_) AllReadyH.nil)
  · skip
    go_simp
    refine hK.out _ _ HS0.out (fun hHeld => ?_)
    clear hK K
    refine wpAnyH_ready (rs := [7]) (by kernel_rfl) (by simp) ?_
    refine AllReadyH.cons rfl (fun K hK => ?_) AllReadyH.nil
    go_simp
    refine (HC.out W0 rfl).mono ?_
    rintro e w3 ⟨A1, n1, c1', rfl, hn1, -, -, ho1, hb1⟩
    rw [bvs_length] at hn1
    have hnb : bs.length = n1 := hn1.out
    subst hnb
    obtain ⟨A2, c2, w4, hrun, hP⟩ := HB0.out.push (.slice A1 bs.length c1') bs t hb1 ho1 HBM.out hf
    have HP := Lib.hid hP
    have hS3 := HS0.out.below (W' := w3) (hb1.mono HXB.out)
    have hbA := hb1.alloc hb1.size (.cells #[.slice A1 bs.length c1', .bool t] 64)
    have hS4 := HS0.out.below (hbA.mono HXB.out)
    have cB := (HB0.out.on hb1).c0
    have cC := (HB0.out.on hbA).c0
    have hS5 : XBox w1.heap.size A bs.length c1 t (w4.setCell ⟨p, 0, none⟩ (.slice A2 (l.length + 1) c2)) := HS0.out.only HP.out.2.1 HND.out
    have hS6 : XBox w1.heap.size A bs.length c1 t w4 := hS5.unset HPX.out
    clear ho1 hb1 hn1 hP hbA
    refine hK.out _ _ hS3 (fun hHeld => ?_)
    clear hK K
    refine wpAnyH_takeAt (i := 10) (d := 32) (v := ?_) rfl rfl (by kernel_rfl) (by kernel_rfl) (by kernel_rfl) (fun _ _ _ h => h) (Or.inl ⟨by rfl, ?_⟩) hHeld ?_
    rotate_left
    · (intro _ hSw; go_simp; try with_reducible rfl)
    simp only [List.setIfInBounds_toArray, List.set_cons_zero, List.set_cons_succ]
    refine wpAnyH_ready (rs := [11]) (by kernel_rfl) (by simp) ?_
    refine AllReadyH.cons rfl (fun K hK => ?_) AllReadyH.nil
    go_simp
    refine hK.out _ _ hS4 (fun hHeld => ?_)
    clear hK K
    refine wpAnyH_ready (rs := [12]) (by kernel_rfl) (by simp) ?_
    refine AllReadyH.cons rfl (fun K hK => ?_) AllReadyH.nil
    refine wp_append_step (s := .tmp 26) (x := .tmp 33) (t := 52) rfl rfl rfl rfl hrun ?_
    go_simp
    have d0 := HP.out.2.2.1
    have f0 := HP.out.2.2.2
    refine hK.out _ _ hS6 (fun hHeld => ?_)
    clear hK K
    refine wpAnyH_takeAt (i := 13) (d := 35) (v := ?_) rfl rfl (by kernel_rfl) (by kernel_rfl) (by kernel_rfl) (fun _ _ _ h => h) (Or.inl ⟨by rfl, ?_⟩) hHeld ?_
    rotate_left
    · (intro _ hSw; go_simp; try with_reducible rfl)
    simp only [List.setIfInBounds_toArray, List.set_cons_zero, List.set_cons_succ]
    refine wpAnyH_takeAt (i := 14) (d := 36) (v := ?_) rfl rfl (by kernel_rfl) (by kernel_rfl) (by kernel_rfl) (fun _ _ _ h => h) (Or.inl ⟨by rfl, ?_⟩) hHeld ?_
    rotate_left
    · (intro _ hSw; go_simp; try with_reducible rfl)
    simp only [List.setIfInBounds_toArray, List.set_cons_zero, List.set_cons_succ]
    refine wpAnyH_ready (rs := [15]) (by kernel_rfl) (by simp) ?_
    refine AllReadyH.cons rfl (fun K hK => ?_) AllReadyH.nil
    go_simp
    refine hK.out _ _ hS5 (fun hHeld => ?_)
    clear hK K
    refine wpAnyH_done (by kernel_rfl) ?_ _
    clear hrun d0 f0 cB cC c0
    go_wp2
    go_ret
    refine ⟨rfl, ?_⟩
    exact PutIn.of_push HO0.out HP.out
  · skip
    go_simp
    refine (HC.out W0 rfl).mono ?_
    rintro e w3 ⟨A1, n1, c1', rfl, hn1, -, -, ho1, hb1⟩
    rw [bvs_length] at hn1
    have hnb : bs.length = n1 := hn1.out
    subst hnb
    obtain ⟨A2, c2, w4, hrun, hP⟩ := HB0.out.push (.slice A1 bs.length c1') bs t hb1 ho1 HBM.out hf
    have HP := Lib.hid hP
    have hS3 := HS0.out.below (W' := w3) (hb1.mono HXB.out)
    have hbA := hb1.alloc hb1.size (.cells #[.slice A1 bs.length c1', .bool t] 64)
    have hS4 := HS0.out.below (hbA.mono HXB.out)
    have cB := (HB0.out.on hb1).c0
    have cC := (HB0.out.on hbA).c0
    have hS5 : XBox w1.heap.size A bs.length c1 t (w4.setCell ⟨p, 0, none⟩ (.slice A2 (l.length + 1) c2)) := HS0.out.only HP.out.2.1 HND.out
    have hS6 : XBox w1.heap.size A bs.length c1 t w4 := hS5.unset HPX.out
    clear ho1 hb1 hn1 hP hbA
    refine hK.out _ _ hS3 (fun hHeld => ?_)
    clear hK K
    refine wpAnyH_takeAt (i := 10) (d := 32) (v := ?_) rfl rfl (by kernel_rfl) (by kernel_rfl) (by kernel_rfl) (fun _ _ _ h => h) (Or.inl ⟨by rfl, ?_⟩) hHeld ?_
    rotate_left
    · (intro _ hSw; go_simp; try with_reducible rfl)
    simp only [List.setIfInBounds_toArray, List.set_cons_zero, List.set_cons_succ]
    refine wpAnyH_ready (rs := [4, 11]) (by kernel_rfl) (by simp) ?_
    refine AllReadyH.cons rfl (fun K hK => ?_) (AllReadyH.cons rfl (fun K hK => ?_) AllReadyH.nil)
    · skip
      go_simp
      refine hK.out _ _ hS3 (fun hHeld => ?_)
      clear hK K
      refine wpAnyH_ready (rs := [11]) (by kernel_rfl) (by simp) ?_
      refine AllReadyH.cons rfl (fun K hK => ?_) AllReadyH.nil
      go_simp
      refine hK.out _ _ hS4 (fun hHeld => ?_)
      clear hK K
      refine wpAnyH_ready (rs := [12]) (by kernel_rfl) (by simp) ?_
      refine AllReadyH.cons rfl (fun K hK => ?_) AllReadyH.nil
      refine wp_append_step (s := .tmp 26) (x := .tmp 33) (t := 52) rfl rfl rfl rfl hrun ?_
      go_simp
      have d0 := HP.out.2.2.1
      have f0 := HP.out.2.2.2
      refine hK.out _ _ hS6 (fun hHeld => ?_)
      clear hK K
      refine wpAnyH_takeAt (i := 13) (d := 35) (v := ?_) rfl rfl (by kernel_rfl) (by kernel_rfl) (by kernel_rfl) (fun _ _ _ h => h) (Or.inl ⟨by rfl, ?_⟩) hHeld ?_
      rotate_left
      · (intro _ hSw; go_simp; try with_reducible rfl)
      simp only [List.setIfInBounds_toArray, List.set_cons_zero, List.set_cons_succ]
      refine wpAnyH_takeAt (i := 14) (d := 36) (v := ?_) rfl rfl (by kernel_rfl) (by kernel_rfl) (by kernel_rfl) (fun _ _ _ h => h) (Or.inl ⟨by rfl, ?_⟩) hHeld ?_
      rotate_left
      · (intro _ hSw; go_simp; try with_reducible rfl)
      simp only [List.setIfInBounds_toArray, List.set_cons_zero, List.set_cons_succ]
      refine wpAnyH_ready (rs := [15]) (by kernel_rfl) (by simp) ?_
      refine AllReadyH.cons rfl (fun K hK => ?_) AllReadyH.nil
      go_simp
      refine hK.out _ _ hS5 (fun hHeld => ?_)
      clear hK K
      refine wpAnyH_done (by kernel_rfl) ?_ _
      clear hrun d0 f0 cB cC c0
      go_wp2
      go_ret
      refine ⟨rfl, ?_⟩
      exact PutIn.of_push HO0.out HP.out
    · skip
      go_simp
      refine hK.out _ _ hS4 (fun hHeld => ?_)
      clear hK K
      refine wpAnyH_ready (rs := [4]) (by kernel_rfl) (by simp) ?_
      refine AllReadyH.cons rfl (fun K hK => ?_) AllReadyH.nil
      go_simp
      refine hK.out _ _ hS4 (fun hHeld => ?_)
      clear hK K
      refine wpAnyH_ready (rs := [12]) (by kernel_rfl) (by simp) ?_
      refine AllReadyH.cons rfl (fun K hK => ?_) AllReadyH.nil
      refine wp_append_step (s := .tmp 26) (x := .tmp 33) (t := 52) rfl rfl rfl rfl hrun ?_
      go_simp
      have d0 := HP.out.2.2.1
      have f0 := HP.out.2.2.2
      refine hK.out _ _ hS6 (fun hHeld => ?_)
      clear hK K
      refine wpAnyH_takeAt (i := 13) (d := 35) (v := ?_) rfl rfl (by kernel_rfl) (by kernel_rfl) (by kernel_rfl) (fun _ _ _ h => h) (Or.inl ⟨by rfl, ?_⟩) hHeld ?_
      rotate_left
      · (intro _ hSw; go_simp; try with_reducible rfl)
      simp only [List.setIfInBounds_toArray, List.set_cons_zero, List.set_cons_succ]
      refine wpAnyH_takeAt (i := 14) (d := 36) (v := ?_) rfl rfl (by kernel_rfl) (by kernel_rfl) (by kernel_rfl) (fun _ _ _ h => h) (Or.inl ⟨by rfl, ?_⟩) hHeld ?_
      rotate_left
      · (intro _ hSw; go_simp; try with_reducible rfl)
      simp only [List.setIfInBounds_toArray, List.set_cons_zero, List.set_cons_succ]
      refine wpAnyH_ready (rs := [15]) (by kernel_rfl) (by simp) ?_
      refine AllReadyH.cons rfl (fun K hK => ?_) AllReadyH.nil
      go_simp
      refine hK.out _ _ hS5 (fun hHeld => ?_)
      clear hK K
      refine wpAnyH_done (by kernel_rfl) ?_ _
      clear hrun d0 f0 cB cC c0
      go_wp2
      go_ret
      refine ⟨rfl, ?_⟩
      exact PutIn.of_push HO0.out HP.out
end

end Go.Proofs.Ytjecphjdmjoeiaa
