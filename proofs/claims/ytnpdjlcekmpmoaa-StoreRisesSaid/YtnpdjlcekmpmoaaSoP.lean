/- Stage 14: the walk of Drop. -/
import Derived.Test.YtnpdjlcekmpmoaaSoQ
set_option maxRecDepth 20000
namespace Go.Proofs.Ytnpdjlcekmpmoaa
open Go.RowKit Go.Sort Go.Maps

section
variable {w : World} {base g mb fb : Nat} {m : Sm} {D : Nat → Prop}
set_option maxHeartbeats 3200000 in
theorem drop_any (h : StAt w base g mb fb m D) (a : List Nat) (A : Option Addr) (c : Nat) (v : Value) (ha : a.length ≤ 1000) (hc1 : 1 ≤ c) (hc : c ≤ maxLen) (hA : Lies w w.heap.size A [v]) (hv : Vec w w.heap.size v a) (hlen : m.l.length ≤ 1000) :
    Calls Try.prog 20 #[sptr g, .slice A 1 c] w fun e w' => e = .returned (.int .i64 ((m.l.length - (m.drop a).l.length : Nat) : Int)) ∧ StAt w' base g mb fb (m.drop a) D ∧ OnlyE w w' (own3 g mb fb) := by
  have mixed := mixedOrders
  have hM : Hid (∀ W, RowKit.Below w.heap.size w W → Calls Try.prog 34 #[.slice A 1 c] W (OwnedV W W.heap.size a)) := fun W hW => by
    have := max_any A 1 c [v] [a] W (by omega) hc1 hc (by simpa [longN] using ha) rfl (hA.later hW) (VecRows.cons (hv.later hW) VecRows.nil)
    rw [foldV_one] at this
    exact this
  have H := Lib.hid h
  have hn1 := h.ok.n1
  have hn2 := h.ok.n2
  obtain ⟨n, hn⟩ : ∃ n, m.n = n := ⟨_, rfl⟩
  have HN := Lib.hid hn
  have HF : Hid (m.fl.length = n) := by rw [← hn]; exact h.ok.fl
  have hfbD := h.df
  have hgD := h.dg
  have hne := h.ne
  rw [hn] at hn1 hn2
  clear h hv hA hn
  unfold sptr
  go_enter Try.func20, Try.ntmps20
  go_wp2_with fail
  generalize hw0 : World.alloc w _ = w0
  obtain ⟨hs0, hG, hcc⟩ := box1 w w0 _ _ hw0
  have hb0 : RowKit.Below w.heap.size w w0 := hG.below
  have k0 := hcc 0 _ rfl
  clear hcc hw0 hG
  refine (hM.out w0 hb0).mono ?_
  rintro e w1 ⟨A1, n1, ct, rfl, hl1, hnc1, hcm1, ho1, hb1⟩
  have hlt1 : w.heap.size < w1.heap.size := by have := hb1.size; omega
  have B0 : Hid (w1.cell? ⟨w.heap.size, 0, none⟩ = some (.pointer (some ⟨g, 0, none⟩))) := (hb1.cell (p := ⟨w.heap.size, 0, none⟩) (by show w.heap.size < _; omega)).trans k0
  have hbw1 : RowKit.Below w.heap.size w w1 := hb0.trans (hb1.mono hb0.size)
  have H1 : Hid (StAt w1 base g mb fb m D) := H.out.on hbw1
  have hT1 : Hid (LiesX w1 D A1 (uvs a)) := LiesX.of_own ho1 fun k hk => by have := (H.out.din k hk).2; omega
  have HB1 := Lib.hid hbw1
  have hbsD : ¬ D w.heap.size := fun hd => by have := (H.out.din _ hd).2; omega
  clear hM hb0 hb1 ho1 k0 hbw1 hs0
  have c1x := H1.out.c1
  rw [HN.out] at c1x
  have b0x := B0.out
  go_wp2
  clear c1x b0x
  go_loopw [17] (fun s17 wr => ∃ k : Nat, k ≤ n ∧ s17 = .int .i64 (k : Int) ∧ Hid (StAt wr base g mb fb { m with fl := flK m.fl a k } D) ∧ Hid (OnlyE w1 wr (own3 g mb fb))) (fun s17 _ => n - (intOf s17).toNat)
  case atStart => exact ⟨0, Nat.zero_le _, rfl, by rw [flK_zero]; exact H1, OnlyE.refl _ _⟩
  case round =>
    obtain ⟨k, hk, rfl, HS, HO⟩ := hrel
    have bx := (HO.out.cell hlt1 fun ho => hbsD (H.out.own ho)).trans B0.out
    have c1 := HS.out.c1
    have hltr : w.heap.size < wr.heap.size := Nat.lt_of_lt_of_le hlt1 HO.out.size
    rw [show ({ m with fl := flK m.fl a k } : Sm).n = n from HN.out] at c1
    by_cases hlt : k < n
    · have hkf : k < m.fl.length := by rw [HF.out]; exact hlt
      have cf : wr.cell? ⟨fb, k, none⟩ = some (.int .u64 (num m.fl k : Int)) := by
        have := HS.out.floor (i := k) (by show k < m.n; rw [HN.out]; exact hlt)
        rw [show num ({ m with fl := flK m.fl a k } : Sm).fl k = num m.fl k from flK_num hkf] at this
        exact this
      have ff : wr.frozen? ⟨fb, k, none⟩ = false := HS.out.row.frozenAt k
      have hT : Hid (∀ V, RowKit.Below wr.heap.size wr V → Lies V V.heap.size A1 (uvs a)) := fun V hV => (hT1.out.kept (HO.out.mono fun k hk => H.out.own hk)).lies.later hV
      have hgr : g < wr.heap.size := HS.out.lt
      have hfr : fb < wr.heap.size := (HS.out.din fb HS.out.df).2
      have j0 : ∀ V, RowKit.Below wr.heap.size wr V → V.cell? ⟨w.heap.size, 0, none⟩ = some (.pointer (some ⟨g, 0, none⟩)) := fun V hV => (hV.cell (p := ⟨w.heap.size, 0, none⟩) hltr).trans bx
      have j1 : ∀ V, RowKit.Below wr.heap.size wr V → V.cell? ⟨g, 1, none⟩ = some (.slice (some ⟨fb, 0, none⟩) n n) := fun V hV => (hV.cell (p := ⟨g, 1, none⟩) hgr).trans c1
      have j2 : ∀ V, RowKit.Below wr.heap.size wr V → V.cell? ⟨fb, k, none⟩ = some (.int .u64 (num m.fl k : Int)) := fun V hV => (hV.cell (p := ⟨fb, k, none⟩) hfr).trans cf
      have j3 : ∀ V, RowKit.Below wr.heap.size wr V → V.frozen? ⟨fb, k, none⟩ = false := fun V hV => (hV.frozen (p := ⟨fb, k, none⟩) hfr).trans ff
      have hnext : Hid (∀ V, RowKit.Below wr.heap.size wr V → StAt (V.setCell ⟨fb, k, none⟩ (.int .u64 (max (num m.fl k : Int) (min (num a k : Int) 4611686018427387904)))) base g mb fb { m with fl := flK m.fl a (k + 1) } D ∧ OnlyE w1 (V.setCell ⟨fb, k, none⟩ (.int .u64 (max (num m.fl k : Int) (min (num a k : Int) 4611686018427387904)))) (own3 g mb fb)) := fun V hV => by
        have e : (max (num m.fl k : Int) (min (num a k : Int) 4611686018427387904)) = ((max (num m.fl k) (min (num a k) MaxS) : Nat) : Int) := by unfold MaxS; omega
        rw [e]
        have hle : max (num m.fl k) (min (num a k) MaxS) ≤ MaxS := by
          have := num_le H1.out.ok.top k
          omega
        obtain ⟨q1, q2⟩ := (HS.out.on hV).setFloor (i := k) hle
        rw [← flK_next hkf]
        exact ⟨q1, HO.out.trans ((OnlyE.of_below hV).trans q2)⟩
      generalize num m.fl k = f0 at cf j2 hnext
      have hAT : Hid (∀ V, RowKit.Below wr.heap.size wr V → Calls Try.prog 35 #[.slice A1 n1 ct, .int .i64 (k : Int)] V fun e w' => e = .returned (.int .u64 (num a k : Int)) ∧ V = w') := fun V hV => at_nat A1 n1 ct k V.heap.size a V hl1.out (hT.out V hV)
      generalize num a k = t0 at hAT hnext
      clear hT bx
      go_wp2_with fail
      clear c1 cf ff
      refine wp_region_Z 12 (fun V => RowKit.Below wr.heap.size wr V) (by kernel_rfl) ?_
      have hHeld : RowKit.Below wr.heap.size wr wr.drew := drewB wr

      refine wpZ_take (i := 0) (d := 22) (v := ?_) rfl rfl (by kernel_rfl) (by kernel_rfl) (by kernel_rfl) (by kernel_rfl) (fun _ _ _ h => h) (Or.inl ⟨by rfl, ?_⟩) hHeld ?_
      rotate_left
      · (intro _ hSw; go_simp; try with_reducible rfl)
      simp only [List.setIfInBounds_toArray, List.set_cons_zero, List.set_cons_succ]
      refine wpZ_take (i := 1) (d := 23) (v := ?_) rfl rfl (by kernel_rfl) (by kernel_rfl) (by kernel_rfl) (by kernel_rfl) (fun _ _ _ h => h) (Or.inl ⟨by rfl, ?_⟩) hHeld ?_
      rotate_left
      · (intro _ hSw; go_simp; try with_reducible rfl)
      simp only [List.setIfInBounds_toArray, List.set_cons_zero, List.set_cons_succ]
      refine wpZ_take (i := 2) (d := 24) (v := ?_) rfl rfl (by kernel_rfl) (by kernel_rfl) (by kernel_rfl) (by kernel_rfl) (fun _ _ _ h => h) (Or.inl ⟨by rfl, ?_⟩) hHeld ?_
      rotate_left
      · (intro _ hSw; go_simp; try with_reducible rfl)
      simp only [List.setIfInBounds_toArray, List.set_cons_zero, List.set_cons_succ]
      refine wpZ_take (i := 3) (d := 25) (v := ?_) rfl rfl (by kernel_rfl) (by kernel_rfl) (by kernel_rfl) (by kernel_rfl) (fun _ _ _ h => h) (Or.inl ⟨by rfl, ?_⟩) hHeld ?_
      rotate_left
      · (intro _ hSw; go_simp; try with_reducible rfl)
      simp only [List.setIfInBounds_toArray, List.set_cons_zero, List.set_cons_succ]
      refine wpZ_take (i := 4) (d := 26) (v := ?_) rfl rfl (by kernel_rfl) (by kernel_rfl) (by kernel_rfl) (by kernel_rfl) (fun _ _ _ h => h) (Or.inl ⟨by rfl, ?_⟩) hHeld ?_
      rotate_left
      · (intro _ hSw; go_simp; try with_reducible rfl)
      simp only [List.setIfInBounds_toArray, List.set_cons_zero, List.set_cons_succ]
      refine wpZ_take (i := 5) (d := 27) (v := ?_) rfl rfl (by kernel_rfl) (by kernel_rfl) (by kernel_rfl) (by kernel_rfl) (fun _ _ _ h => h) (Or.inl ⟨by rfl, ?_⟩) hHeld ?_
      rotate_left
      · (intro _ hSw; go_simp; try with_reducible rfl)
      simp only [List.setIfInBounds_toArray, List.set_cons_zero, List.set_cons_succ]
      refine wpZ_take (i := 6) (d := 28) (v := ?_) rfl rfl (by kernel_rfl) (by kernel_rfl) (by kernel_rfl) (by kernel_rfl) (fun _ _ _ h => h) (Or.inl ⟨by rfl, ?_⟩) hHeld ?_
      rotate_left
      · (intro _ hSw; go_simp; try with_reducible rfl)
      simp only [List.setIfInBounds_toArray, List.set_cons_zero, List.set_cons_succ]
      refine wpZ_take (i := 7) (d := 29) (v := ?_) rfl rfl (by kernel_rfl) (by kernel_rfl) (by kernel_rfl) (by kernel_rfl) (fun _ _ _ h => h) (Or.inl ⟨by rfl, ?_⟩) hHeld ?_
      rotate_left
      · (intro _ hSw; go_simp; try with_reducible rfl)
      simp only [List.setIfInBounds_toArray, List.set_cons_zero, List.set_cons_succ]
      refine wpZ_ready (rs := [8]) (by kernel_rfl) (by simp) ?_
      refine AllReadyZ.cons rfl (fun K hK => ?_) AllReadyZ.nil
      go_simp
      refine (hAT.out _ hHeld).mono ?_
      rintro e V' ⟨rfl, he⟩
      subst he
      have hHeld2 := hHeld
      refine hK.out _ _ (fun _ => hHeld2) ?_
      clear hK K hHeld
      have hHeld := hHeld2
      clear hHeld2
      refine wpZ_take (i := 9) (d := 31) (v := ?_) rfl rfl (by kernel_rfl) (by kernel_rfl) (by kernel_rfl) (by kernel_rfl) (fun _ _ _ h => h) (Or.inl ⟨by rfl, ?_⟩) hHeld ?_
      rotate_left
      · (intro _ hSw; go_simp; try with_reducible rfl)
      simp only [List.setIfInBounds_toArray, List.set_cons_zero, List.set_cons_succ]
      refine wpZ_take (i := 10) (d := 32) (v := ?_) rfl rfl (by kernel_rfl) (by kernel_rfl) (by kernel_rfl) (by kernel_rfl) (fun _ _ _ h => h) (Or.inl ⟨by rfl, ?_⟩) hHeld ?_
      rotate_left
      · (intro _ hSw; go_simp; try with_reducible rfl)
      simp only [List.setIfInBounds_toArray, List.set_cons_zero, List.set_cons_succ]
      refine wpZ_take (i := 11) (d := 33) (v := ?_) rfl rfl (by kernel_rfl) (by kernel_rfl) (by kernel_rfl) (by kernel_rfl) (fun _ _ _ h => h) (Or.inl ⟨by rfl, ?_⟩) hHeld ?_
      rotate_left
      · (intro _ hSw; go_simp; try with_reducible rfl)
      simp only [List.setIfInBounds_toArray, List.set_cons_zero, List.set_cons_succ]
      refine wpZ_ready (rs := [12]) (by kernel_rfl) (by simp) ?_
      refine AllReadyZ.cons rfl (fun K hK => ?_) AllReadyZ.nil
      have m3 := j3 _ hHeld
      have m2 := j2 _ hHeld
      go_simp
      refine hK.out _ _ (fun h => absurd rfl h) ?_
      clear hK K
      refine wpZ_done (by kernel_rfl) ?_ _
      have HQ := Lib.hid (hnext.out wr.drew hHeld)
      clear hnext j0 j1 j2 j3 hAT m2 m3 hHeld
      go_wp2
      go_roundw
      case rel => exact ⟨k + 1, by omega, by go_num, HQ.out.1, HQ.out.2⟩
      case measure => simp [intOf]; omega
    · have hke : k = m.fl.length := by rw [HF.out]; omega
      have HS2 : Hid (StAt wr base g mb fb { m with fl := flN m.fl a } D) := by
        have := HS.out
        rw [hke, flK_all] at this
        exact this
      have eg : ∀ args w, (callFunc 37 args).run Try.prog w = .ok (.enter 37 args) w := enters_of Try.func37 (by kernel_rfl) rfl
      have hR := release_any HS2.out w.heap.size bx hltr hbsD hlen
      have ed : ({ ({ m with fl := flN m.fl a } : Sm) with l := ({ m with fl := flN m.fl a } : Sm).l.filter (keptB (flN m.fl a)) } : Sm) = m.drop a := rfl
      rw [ed] at hR
      have HOW : Hid (OnlyE w wr (own3 g mb fb)) := (OnlyE.of_below HB1.out).trans HO.out
      obtain ⟨m', hme⟩ : ∃ m', m.drop a = m' := ⟨_, rfl⟩
      have HME := Lib.hid hme
      have hR2 : Calls Try.prog 36 #[sptr g, .func (.func 37) #[] #[.pointer (some ⟨w.heap.size, 0, none⟩)]] wr fun e w' => e = .returned (.int .i64 ((m.l.length - m'.l.length : Nat) : Int)) ∧ StAt w' base g mb fb m' D ∧ OnlyE wr w' (own3 g mb fb) := by rw [← hme]; exact hR
      obtain ⟨cnt, hcn⟩ : ∃ cnt, m.l.length - m'.l.length = cnt := ⟨_, rfl⟩
      have HCN := Lib.hid hcn
      rw [hcn] at hR2
      clear hR hme hcn
      clear HS HS2 c1
      unfold sptr at hR2
      go_wp2_with fail
      refine hR2.mono ?_
      rintro e w5 ⟨rfl, hS5, hO5⟩
      have HS5 := Lib.hid hS5
      have HO5 := Lib.hid (HOW.out.trans hO5)
      clear hS5 hO5 hR2 bx
      go_wp2
      go_ret
      exact ⟨by rw [HME.out, HCN.out]; rfl, by rw [HME.out]; exact HS5.out, HO5.out⟩
end

end Go.Proofs.Ytnpdjlcekmpmoaa
