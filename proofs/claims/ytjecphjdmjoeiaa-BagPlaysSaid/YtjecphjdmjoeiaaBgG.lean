/- Put: as many as there is room for. -/
import Derived.Test.YtjecphjdmjoeiaaBgF
namespace Go.Proofs.Ytjecphjdmjoeiaa
open Go.RowKit Go.Sort

/-- Rows that are handed in: each reads as bytes, outside of D. -/
def RowsX (w : World) (D : Nat → Prop) (vs : List Value) (ls : List (List UInt8)) : Prop := vs.length = ls.length ∧ ∀ i, (h : i < vs.length) → (h' : i < ls.length) → BytX w D vs[i] ls[i]
theorem RowsX.kept {w w' : World} {D : Nat → Prop} {vs : List Value} {ls : List (List UInt8)} (h : RowsX w D vs ls) (ho : OnlyE w w' D) : RowsX w' D vs ls := ⟨h.1, fun i h1 h2 => (h.2 i h1 h2).kept ho⟩

def fresh (b : List UInt8) : List UInt8 × Bool := (b, false)

/-- What a bag is while, and when, things have been put in. -/
def PutIn (w : World) (base p room lost : Nat) (l : List Th) (D : Nat → Prop) (xs : List (List UInt8 × Bool)) (w' : World) : Prop :=
  ∃ T' l' D', BagAt w' base p T' room lost l' D' ∧ l'.map Th.pl = l.map Th.pl ++ xs ∧ OnlyE w w' D ∧ (∀ b, D' b → D b ∨ w.heap.size ≤ b) ∧ (∀ b, D b → D' b)

def Put_ (w : World) (base p room lost : Nat) (l : List Th) (D : Nat → Prop) (ls : List (List UInt8)) (e : Ending) (w' : World) : Prop :=
  e = .returned (.int .i64 ((min ls.length (room - l.length) : Nat) : Int)) ∧ PutIn w base p room (lost + (ls.length - min ls.length (room - l.length))) l D ((ls.take (min ls.length (room - l.length))).map fresh) w'

section
variable {w : World} {base p : Nat} {T : Value} {room lost : Nat} {l : List Th} {D : Nat → Prop}

theorem PutIn.start (h : BagAt w base p T room lost l D) {w1 : World} (hb : RowKit.Below w.heap.size w w1) : PutIn w base p room lost l D [] w1 :=
  ⟨T, l, D, h.on hb, by simp, OnlyE.of_below hb, fun _ => .inl, fun _ => id⟩

theorem PutIn.len {xs : List (List UInt8 × Bool)} {l' : List Th} (h : l'.map Th.pl = l.map Th.pl ++ xs) : l'.length = l.length + xs.length := by
  have := congrArg List.length h
  simpa using this

theorem PutIn.step {wr w2 : World} {xs : List (List UInt8 × Bool)} {T' T2 : Value} {l' : List Th} {D' : Nat → Prop} {t : Bool} (hp : l'.map Th.pl = l.map Th.pl ++ xs) (ho : OnlyE w wr D) (hd : ∀ b, D' b → D b ∨ w.heap.size ≤ b) (hd2 : ∀ b, D b → D' b) {v : Value} {b : List UInt8}
    (h : Pushed wr base p T' room lost l' D' ⟨v, b, t⟩ T2 w2) {w3 : World} (hw3 : RowKit.Below (w2.setCell ⟨p, 0, none⟩ T2).heap.size (w2.setCell ⟨p, 0, none⟩ T2) w3) : PutIn w base p room lost l D (xs ++ [(b, t)]) w3 := by
  have hs := ho.size
  refine ⟨T2, _, _, h.1.on hw3, by rw [List.map_append, hp, List.append_assoc]; rfl, ?_, ?_, fun k hk => .inl (hd2 k hk)⟩
  · have h2 : OnlyE wr w3 D' := h.2.1.trans (OnlyE.of_below hw3)
    refine ⟨Nat.le_trans hs h2.size, fun k hk hn => ?_, ho.base.trans h2.base⟩
    refine (h2.same k (Nat.lt_of_lt_of_le hk hs) fun hk' => ?_).trans (ho.same k hk hn)
    rcases hd k hk' with h3 | h3
    · exact hn h3
    · omega
  · rintro k (hk | hk)
    · exact hd k hk
    · right; omega

set_option maxHeartbeats 3200000 in
theorem put_any (h : BagAt w base p T room lost l D) (A : Option Addr) (n c : Nat) (vs : List Value) (ls : List (List UInt8)) (hl : vs.length = n) (hn : n ≤ 1000) (hnc : n ≤ c) (hlost : lost + n ≤ 1000000) (hA : LiesX w D A vs) (hr : RowsX w D vs ls) (hls : ∀ x ∈ ls, x.length ≤ 1000) :
    Calls Try.prog 15 #[.pointer (some ⟨p, 0, none⟩), .slice A n c] w (Put_ w base p room lost l D ls) := by
  have hfree := free_any h
  have hlsn : ls.length = n := by rw [← hr.1]; exact hl
  unfold Put_
  rw [hlsn]
  have hfit := h.fit
  have hroom := h.room2
  have HM : Hid (min (n : Int) ((room - l.length : Nat) : Int) = ((min n (room - l.length) : Nat) : Int)) := by show _ = _; omega
  have hf1 : min n (room - l.length) ≤ n := Nat.min_le_left _ _
  have hf2 : min n (room - l.length) ≤ room - l.length := Nat.min_le_right _ _
  generalize min n (room - l.length) = fit at HM hf1 hf2 ⊢
  have HF2 := Lib.hid hf2
  have HFL := Lib.hid hfit
  have hfc : fit ≤ c := by omega
  have hf3 : fit ≤ 1000 := by omega
  have HLT : Hid (∀ b, D b → b < w.heap.size) := fun b hb => (h.din b hb).2
  have HH := Lib.hid h
  have HA := Lib.hid hA
  have HR := Lib.hid hr
  have HLS := Lib.hid hls
  have HLN := Lib.hid hlsn
  have HL := Lib.hid hl
  have hd0 : ((some ⟨p, 0, none⟩ : Option Addr) == none) = false := rfl
  generalize ((room - l.length : Nat) : Int) = fr at hfree HM
  clear h hA hr hls hlsn hl hf2 hfit
  go_enter Try.func15, Try.ntmps15
  go_wp2_with fail
  refine hfree.mono ?_
  rintro e w1 ⟨rfl, hb1⟩
  have HS : Hid (PutIn w base p room lost l D [] w1) := PutIn.start HH.out hb1
  clear hfree hb1
  have hmin := HM.out
  clear HM
  go_wp2_with fail
  go_loopw [7, 19] (fun _ i wr => ∃ k : Nat, k ≤ fit ∧ i = .int .i64 k ∧ PutIn w base p room lost l D ((ls.take k).map fresh) wr) (fun _ i _ => fit - (intOf i).toNat)
  case atStart => exact ⟨0, Nat.zero_le _, rfl, by rw [List.take_zero]; exact HS.out⟩
  case round =>
    clear HS hmin
    obtain ⟨k, hk, rfl, hR⟩ := hrel
    by_cases hlt : k < fit
    · obtain ⟨T', l', D', hB, hpl, ho, hd, hd2⟩ := hR
      have hkl : k < vs.length := by rw [HL.out]; omega
      have hks : k < ls.length := by rw [HLN.out]; omega
      obtain ⟨b, off, rfl, -, -, hc⟩ := (HA.out.kept ho) (by rintro rfl; simp at hkl)
      have hcell := hc k _ (List.getElem?_eq_getElem hkl)
      obtain ⟨Ar, nr, cr, hvr, hlr, _, _, hLr⟩ := (HR.out.kept ho).2 k hkl hks
      rw [hvr] at hcell
      have hbm := HLS.out ls[k] (List.getElem_mem hks)
      have HTK : Hid ((ls.take (k + 1)).map fresh = (ls.take k).map fresh ++ [(ls[k], false)]) := by show _ = _; rw [List.take_succ_eq_append_getElem hks, List.map_append]; rfl
      generalize ls[k] = bs at hlr hLr hbm HTK
      have hnr : nr ≤ 1000 := by omega
      have HLR := Lib.hid hlr
      have HBM := Lib.hid hbm
      have HPL := Lib.hid hpl
      have HO := Lib.hid ho
      have HD := Lib.hid hd
      have HD2 := Lib.hid hd2
      have HB := Lib.hid hB
      have HLX := Lib.hid hLr.lies
      obtain ⟨At, ct, rfl, -, -⟩ := hB.slice
      have c0 := hB.c0
      clear hB hpl ho hd hd2 hc hLr hlr hbm hvr
      go_wp2_with fail
      refine wp_region_held_drew (S := fun _ => True) (by kernel_rfl) trivial (fun hHeld => ?_)
      have hdr : RowKit.Below wr.heap.size wr wr.drew := (RowKit.Below.refl _ _).drew
      have hB0 := HB.out.on hdr
      have HB0 := Lib.hid hB0
      have HO0 : Hid (OnlyE w wr.drew D) := HO.out.trans (onlyE_drew _ _)
      have hc0 : wr.drew.cell? ⟨p, 0, none⟩ = some (.slice At l'.length ct) := hB0.c0
      have HC : Hid (∀ W0, W0 = wr.drew → Calls Try.prog 26 #[.slice Ar nr cr] W0 (Owned W0 W0.heap.size (bvs bs))) := by
        rintro W0 rfl
        exact copyOf_any Ar nr cr bs _ hnr HLR.out HLX.out
      have HLEN : Hid (l'.length < room) := by
        have h1 := PutIn.len HPL.out
        have h2 := HF2.out
        have h3 := HFL.out
        show _ < _
        rw [List.length_map, List.length_take, HLN.out] at h1
        omega
      clear hB0 c0 HB HO HLX hdr
      generalize wr.drew = W0 at HB0 HO0 hc0 HC ⊢
      have c0 := hc0
      clear hc0
      refine wpAnyH_takeAt (i := 0) (d := 23) (v := ?_) rfl rfl (by kernel_rfl) (by kernel_rfl) (by kernel_rfl) (fun _ _ _ h => h) (Or.inl ⟨by rfl, ?_⟩) hHeld ?_
      rotate_left
      · (intro _ hSw; go_simp; try with_reducible rfl)
      simp only [List.setIfInBounds_toArray, List.set_cons_zero, List.set_cons_succ]
      refine wpAnyH_takeAt (i := 1) (d := 24) (v := ?_) rfl rfl (by kernel_rfl) (by kernel_rfl) (by kernel_rfl) (fun _ _ _ h => h) (Or.inl ⟨by rfl, ?_⟩) hHeld ?_
      rotate_left
      · (intro _ hSw; go_simp; try with_reducible rfl)
      simp only [List.setIfInBounds_toArray, List.set_cons_zero, List.set_cons_succ]
      refine wpAnyH_takeAt (i := 2) (d := 25) (v := ?_) rfl rfl (by kernel_rfl) (by kernel_rfl) (by kernel_rfl) (fun _ _ _ h => h) (Or.inl ⟨by rfl, ?_⟩) hHeld ?_
      rotate_left
      · (intro _ hSw; go_simp; try with_reducible rfl)
      simp only [List.setIfInBounds_toArray, List.set_cons_zero, List.set_cons_succ]
      refine wpAnyH_takeAt (i := 3) (d := 26) (v := ?_) rfl rfl (by kernel_rfl) (by kernel_rfl) (by kernel_rfl) (fun _ _ _ h => h) (Or.inl ⟨by rfl, ?_⟩) hHeld ?_
      rotate_left
      · (intro _ hSw; go_simp; try with_reducible rfl)
      simp only [List.setIfInBounds_toArray, List.set_cons_zero, List.set_cons_succ]
      refine wpAnyH_takeAt (i := 5) (d := 28) (v := ?_) rfl rfl (by kernel_rfl) (by kernel_rfl) (by kernel_rfl) (fun _ _ _ h => h) (Or.inl ⟨by rfl, ?_⟩) hHeld ?_
      rotate_left
      · (intro _ hSw; go_simp; try with_reducible rfl)
      simp only [List.setIfInBounds_toArray, List.set_cons_zero, List.set_cons_succ]
      refine wpAnyH_ready (rs := [4, 6]) (by kernel_rfl) (by simp) ?_
      refine AllReadyH.cons rfl (fun K hK => ?_) (AllReadyH.cons rfl (fun K hK => ?_) AllReadyH.nil)
      · skip
        go_simp
        refine hK.out _ _ trivial (fun hHeld => ?_)
        clear hK K
        refine wpAnyH_ready (rs := [6]) (by kernel_rfl) (by simp) ?_
        refine AllReadyH.cons rfl (fun K hK => ?_) AllReadyH.nil
        go_simp
        refine (HC.out W0 rfl).mono ?_
        rintro e w1 ⟨A1, n1, c1, rfl, hn1, -, -, ho1, hb1⟩
        rw [bvs_length] at hn1
        have hnb : bs.length = n1 := hn1.out
        subst hnb
        obtain ⟨A2, c2, w2, hrun, hP⟩ := HB0.out.push (.slice A1 bs.length c1) bs false hb1 ho1 HBM.out HLEN.out
        have HP := Lib.hid hP
        have cB := (HB0.out.on hb1).c0
        have cC := (HB0.out.on (hb1.alloc hb1.size (.cells #[.slice A1 bs.length c1, .bool false] 64))).c0
        clear ho1 hb1 hn1 hP
        refine hK.out _ _ trivial (fun hHeld => ?_)
        clear hK K
        refine wpAnyH_takeAt (i := 7) (d := 30) (v := ?_) rfl rfl (by kernel_rfl) (by kernel_rfl) (by kernel_rfl) (fun _ _ _ h => h) (Or.inl ⟨by rfl, ?_⟩) hHeld ?_
        rotate_left
        · (intro _ hSw; go_simp; try with_reducible rfl)
        simp only [List.setIfInBounds_toArray, List.set_cons_zero, List.set_cons_succ]
        refine wpAnyH_ready (rs := [8]) (by kernel_rfl) (by simp) ?_
        refine AllReadyH.cons rfl (fun K hK => ?_) AllReadyH.nil
        go_simp
        refine hK.out _ _ trivial (fun hHeld => ?_)
        clear hK K
        refine wpAnyH_ready (rs := [9]) (by kernel_rfl) (by simp) ?_
        refine AllReadyH.cons rfl (fun K hK => ?_) AllReadyH.nil
        refine wp_append_step (s := .tmp 27) (x := .tmp 31) (t := 52) rfl rfl rfl rfl hrun ?_
        go_simp
        have d0 := HP.out.2.2.1
        have f0 := HP.out.2.2.2
        refine hK.out _ _ trivial (fun hHeld => ?_)
        clear hK K
        refine wpAnyH_takeAt (i := 10) (d := 33) (v := ?_) rfl rfl (by kernel_rfl) (by kernel_rfl) (by kernel_rfl) (fun _ _ _ h => h) (Or.inl ⟨by rfl, ?_⟩) hHeld ?_
        rotate_left
        · (intro _ hSw; go_simp; try with_reducible rfl)
        simp only [List.setIfInBounds_toArray, List.set_cons_zero, List.set_cons_succ]
        refine wpAnyH_takeAt (i := 11) (d := 34) (v := ?_) rfl rfl (by kernel_rfl) (by kernel_rfl) (by kernel_rfl) (fun _ _ _ h => h) (Or.inl ⟨by rfl, ?_⟩) hHeld ?_
        rotate_left
        · (intro _ hSw; go_simp; try with_reducible rfl)
        simp only [List.setIfInBounds_toArray, List.set_cons_zero, List.set_cons_succ]
        refine wpAnyH_ready (rs := [12]) (by kernel_rfl) (by simp) ?_
        refine AllReadyH.cons rfl (fun K hK => ?_) AllReadyH.nil
        go_simp
        refine hK.out _ _ trivial (fun hHeld => ?_)
        clear hK K
        refine wpAnyH_done (by kernel_rfl) ?_ _
        clear hrun d0 f0 cB cC c0 hcell
        go_wp2
        go_roundw
        case rel =>
          refine ⟨k + 1, by omega, by go_num, ?_⟩
          rw [HTK.out]
          exact PutIn.step HPL.out HO0.out HD.out HD2.out HP.out (RowKit.Below.refl _ _)
        case measure => simp [intOf]; omega
      · skip
        go_simp
        refine (HC.out W0 rfl).mono ?_
        rintro e w1 ⟨A1, n1, c1, rfl, hn1, -, -, ho1, hb1⟩
        rw [bvs_length] at hn1
        have hnb : bs.length = n1 := hn1.out
        subst hnb
        obtain ⟨A2, c2, w2, hrun, hP⟩ := HB0.out.push (.slice A1 bs.length c1) bs false hb1 ho1 HBM.out HLEN.out
        have HP := Lib.hid hP
        have cB := (HB0.out.on hb1).c0
        have cC := (HB0.out.on (hb1.alloc hb1.size (.cells #[.slice A1 bs.length c1, .bool false] 64))).c0
        clear ho1 hb1 hn1 hP
        refine hK.out _ _ trivial (fun hHeld => ?_)
        clear hK K
        refine wpAnyH_takeAt (i := 7) (d := 30) (v := ?_) rfl rfl (by kernel_rfl) (by kernel_rfl) (by kernel_rfl) (fun _ _ _ h => h) (Or.inl ⟨by rfl, ?_⟩) hHeld ?_
        rotate_left
        · (intro _ hSw; go_simp; try with_reducible rfl)
        simp only [List.setIfInBounds_toArray, List.set_cons_zero, List.set_cons_succ]
        refine wpAnyH_ready (rs := [4, 8]) (by kernel_rfl) (by simp) ?_
        refine AllReadyH.cons rfl (fun K hK => ?_) (AllReadyH.cons rfl (fun K hK => ?_) AllReadyH.nil)
        · skip
          go_simp
          refine hK.out _ _ trivial (fun hHeld => ?_)
          clear hK K
          refine wpAnyH_ready (rs := [8]) (by kernel_rfl) (by simp) ?_
          refine AllReadyH.cons rfl (fun K hK => ?_) AllReadyH.nil
          go_simp
          refine hK.out _ _ trivial (fun hHeld => ?_)
          clear hK K
          refine wpAnyH_ready (rs := [9]) (by kernel_rfl) (by simp) ?_
          refine AllReadyH.cons rfl (fun K hK => ?_) AllReadyH.nil
          refine wp_append_step (s := .tmp 27) (x := .tmp 31) (t := 52) rfl rfl rfl rfl hrun ?_
          go_simp
          have d0 := HP.out.2.2.1
          have f0 := HP.out.2.2.2
          refine hK.out _ _ trivial (fun hHeld => ?_)
          clear hK K
          refine wpAnyH_takeAt (i := 10) (d := 33) (v := ?_) rfl rfl (by kernel_rfl) (by kernel_rfl) (by kernel_rfl) (fun _ _ _ h => h) (Or.inl ⟨by rfl, ?_⟩) hHeld ?_
          rotate_left
          · (intro _ hSw; go_simp; try with_reducible rfl)
          simp only [List.setIfInBounds_toArray, List.set_cons_zero, List.set_cons_succ]
          refine wpAnyH_takeAt (i := 11) (d := 34) (v := ?_) rfl rfl (by kernel_rfl) (by kernel_rfl) (by kernel_rfl) (fun _ _ _ h => h) (Or.inl ⟨by rfl, ?_⟩) hHeld ?_
          rotate_left
          · (intro _ hSw; go_simp; try with_reducible rfl)
          simp only [List.setIfInBounds_toArray, List.set_cons_zero, List.set_cons_succ]
          refine wpAnyH_ready (rs := [12]) (by kernel_rfl) (by simp) ?_
          refine AllReadyH.cons rfl (fun K hK => ?_) AllReadyH.nil
          go_simp
          refine hK.out _ _ trivial (fun hHeld => ?_)
          clear hK K
          refine wpAnyH_done (by kernel_rfl) ?_ _
          clear hrun d0 f0 cB cC c0 hcell
          go_wp2
          go_roundw
          case rel =>
            refine ⟨k + 1, by omega, by go_num, ?_⟩
            rw [HTK.out]
            exact PutIn.step HPL.out HO0.out HD.out HD2.out HP.out (RowKit.Below.refl _ _)
          case measure => simp [intOf]; omega
        · skip
          go_simp
          refine hK.out _ _ trivial (fun hHeld => ?_)
          clear hK K
          refine wpAnyH_ready (rs := [4]) (by kernel_rfl) (by simp) ?_
          refine AllReadyH.cons rfl (fun K hK => ?_) AllReadyH.nil
          go_simp
          refine hK.out _ _ trivial (fun hHeld => ?_)
          clear hK K
          refine wpAnyH_ready (rs := [9]) (by kernel_rfl) (by simp) ?_
          refine AllReadyH.cons rfl (fun K hK => ?_) AllReadyH.nil
          refine wp_append_step (s := .tmp 27) (x := .tmp 31) (t := 52) rfl rfl rfl rfl hrun ?_
          go_simp
          have d0 := HP.out.2.2.1
          have f0 := HP.out.2.2.2
          refine hK.out _ _ trivial (fun hHeld => ?_)
          clear hK K
          refine wpAnyH_takeAt (i := 10) (d := 33) (v := ?_) rfl rfl (by kernel_rfl) (by kernel_rfl) (by kernel_rfl) (fun _ _ _ h => h) (Or.inl ⟨by rfl, ?_⟩) hHeld ?_
          rotate_left
          · (intro _ hSw; go_simp; try with_reducible rfl)
          simp only [List.setIfInBounds_toArray, List.set_cons_zero, List.set_cons_succ]
          refine wpAnyH_takeAt (i := 11) (d := 34) (v := ?_) rfl rfl (by kernel_rfl) (by kernel_rfl) (by kernel_rfl) (fun _ _ _ h => h) (Or.inl ⟨by rfl, ?_⟩) hHeld ?_
          rotate_left
          · (intro _ hSw; go_simp; try with_reducible rfl)
          simp only [List.setIfInBounds_toArray, List.set_cons_zero, List.set_cons_succ]
          refine wpAnyH_ready (rs := [12]) (by kernel_rfl) (by simp) ?_
          refine AllReadyH.cons rfl (fun K hK => ?_) AllReadyH.nil
          go_simp
          refine hK.out _ _ trivial (fun hHeld => ?_)
          clear hK K
          refine wpAnyH_done (by kernel_rfl) ?_ _
          clear hrun d0 f0 cB cC c0 hcell
          go_wp2
          go_roundw
          case rel =>
            refine ⟨k + 1, by omega, by go_num, ?_⟩
            rw [HTK.out]
            exact PutIn.step HPL.out HO0.out HD.out HD2.out HP.out (RowKit.Below.refl _ _)
          case measure => simp [intOf]; omega
    · obtain rfl : k = fit := by omega
      obtain ⟨T', l', D', hB, hpl, ho, hd, hd2⟩ := hR
      have c2 := hB.c2
      have f2 := hB.fr 2
      have HE : Hid ((lost : Int) + ((n : Int) - (k : Int)) = ((lost + (n - k) : Nat) : Int)) := by show _ = _; omega
      have HB := Lib.hid hB
      have HO := Lib.hid ho
      clear hB ho hlt
      go_wp2
      go_ret
      rw [HE.out]
      refine ⟨rfl, T', l', D', (HB.out.setLost _ (by omega)).1, hpl, HO.out.trans (onlyE_set HH.out.dp 2 _), hd, hd2⟩
end

end Go.Proofs.Ytjecphjdmjoeiaa
