/- AcceptPlays: for every list of numbers, list of flags and kind the call returns true (any row of numbers is let in, or not, as the document says; what is owed, and how many of each kind came, too), and changes nothing that was there. No conditions. -/
import Derived.Test.YtpnihkepfcnglaaAcG
import Derived.ChangeOld
namespace Go.Proofs.Ytpnihkepfcnglaa
open Go.ChangeShapes Go.WideShapes Go.ChangeAt Go.RowKit

/-- The flags: each in a block that was there. -/
def Flags (w : World) (A : Option Addr) (n : Nat) : Prop := ∀ i, i < n → ∃ b off f, A = some ⟨b, off, none⟩ ∧ b < w.heap.size ∧ w.cell? ⟨b, off + i, none⟩ = some (.bool f)

set_option maxRecDepth 20000 in
set_option maxHeartbeats 6400000 in
theorem acceptPlays_walk (A : Option Addr) (n c : Nat) (l : List Nat) (At : Option Addr) (nt ct what : Nat) (w : World) (hl : l.length = n) (hn : n ≤ 200) (hA : Lies w w.heap.size A (uvs l)) (hls : ∀ x ∈ l, x < 18446744073709551616)
    (hT : Flags w At nt) (hw8 : what < 256) :
    Calls Try.prog 3 #[.slice A n c, .slice At nt ct, .int .u8 (what : Int)] w fun e w' => e = .returned (.bool true) ∧ Below w.heap.size w w' := by
  have mixed := mixedOrders
  have hd : decide (200 < (n : Int)) = false := by simp; omega
  have HL := Lib.hid hl
  have HA := Lib.hid hA
  have HLS := Lib.hid hls
  have HT := Lib.hid hT
  clear hl hA hls hT
  go_enter Try.func3, Try.ntmps3
  go_wp2_with fail
  refine (new_any w).mono ?_
  rintro e w1 ⟨rfl, hG1, hb1⟩
  have HG1 := Lib.hid hG1
  have HB1 := Lib.hid hb1
  clear hG1 hb1
  go_wp2_with fail
  generalize hw2 : World.alloc w1 _ = w2
  have hP := PlS.start (w := w) HG1.out (Nat.le_refl _) HB1.out hw2
  generalize w1.heap.size = q at hP
  have hO := owes_any hP.gate
  have hU := upto_any hP.gate
  have HP := Lib.hid hP
  clear hP hw2 HG1 HB1
  refine hO.mono ?_
  rintro e w3 ⟨rfl, he⟩
  subst he
  go_wp2_with fail
  refine hU.mono ?_
  rintro e w4 ⟨rfl, he⟩
  subst he
  clear hO hU
  go_wp2_with fail
  go_loopw [9] (fun s9 wr => ∃ (k : Nat) (g : Gt) (ks : List Nat) (o : Bool) (Am : Option Addr) (cm : Nat), k ≤ n ∧ s9 = .int .i64 k ∧ PlS w w.heap.size q k g g ks o Am cm wr) (fun s9 _ => n - (intOf s9).toNat)
  case atStart => exact ⟨0, _, _, _, _, _, Nat.zero_le _, rfl, HP.out⟩
  case round =>
    clear HP
    obtain ⟨k, g, ks, o, Am, cm, hk, rfl, hP⟩ := hrel
    by_cases hlt : k < n
    · have hkl : k < l.length := by rw [HL.out]; exact hlt
      obtain ⟨b, off, rfl, hb, hc⟩ := HA.out.at_ (uvs_at hkl)
      have hv := HLS.out l[k] (List.getElem_mem hkl)
      generalize l[k] = v at hc hv
      have HC := Lib.hid hc
      have HBW := Lib.hid hb
      have HP := Lib.hid hP
      have HHP := Lib.hid hP.hp
      have CTK := Lib.hid (hP.ctk v (by omega))
      have z0 : ∀ V, Below wr.heap.size wr V → V.cell? ⟨b, off + k, none⟩ = some (.int .u64 (v : Int)) := fun V hV => ((hP.below.trans (hV.mono hP.below.size)).cell (p := ⟨b, off + k, none⟩) hb).trans hc
      have y0 : ∀ V, Below wr.heap.size wr V → V.cell? ⟨q, 0, none⟩ = some (.slice Am k cm) := fun V hV => (hP.on hV).c0
      have y1 : ∀ V, Below wr.heap.size wr V → V.cell? ⟨q, 1, none⟩ = some (.int .u64 (g.u : Int)) := fun V hV => (hP.on hV).c1
      have y2 : ∀ V, Below wr.heap.size wr V → V.cell? ⟨q, 2, none⟩ = some (.bool o) := fun V hV => (hP.on hV).c2
      clear hkl hP hc hb
      go_wp2_with fail
      have hHD : Below wr.heap.size wr wr.drew := (Below.refl _ _).drew
      refine wp_region_held_drew (S := fun V => Below wr.heap.size wr V) (by kernel_rfl) hHD (fun hHeld => ?_)
      clear hHD
      have hHeld : Below wr.heap.size wr wr.drew := (Below.refl _ _).drew
      generalize wr.drew = X0 at hHeld ⊢
      refine wpAnyH_takeAt (i := 0) (d := 32) (v := ?_) rfl rfl (by kernel_rfl) (by kernel_rfl) (by kernel_rfl) (fun _ _ _ h => h) (Or.inl ⟨by rfl, ?_⟩) hHeld ?_
      rotate_left
      · (intro _ hSw; go_simp; try with_reducible rfl)
      simp only [List.setIfInBounds_toArray, List.set_cons_zero, List.set_cons_succ]
      refine wpAnyH_takeAt (i := 1) (d := 33) (v := ?_) rfl rfl (by kernel_rfl) (by kernel_rfl) (by kernel_rfl) (fun _ _ _ h => h) (Or.inl ⟨by rfl, ?_⟩) hHeld ?_
      rotate_left
      · (intro _ hSw; go_simp; try with_reducible rfl)
      simp only [List.setIfInBounds_toArray, List.set_cons_zero, List.set_cons_succ]
      refine wpAnyH_takeAt (i := 2) (d := 34) (v := ?_) rfl rfl (by kernel_rfl) (by kernel_rfl) (by kernel_rfl) (fun _ _ _ h => h) (Or.inl ⟨by rfl, ?_⟩) hHeld ?_
      rotate_left
      · (intro _ hSw; go_simp; try with_reducible rfl)
      simp only [List.setIfInBounds_toArray, List.set_cons_zero, List.set_cons_succ]
      refine wpAnyH_takeAt (i := 3) (d := 35) (v := ?_) rfl rfl (by kernel_rfl) (by kernel_rfl) (by kernel_rfl) (fun _ _ _ h => h) (Or.inl ⟨by rfl, ?_⟩) hHeld ?_
      rotate_left
      · (intro _ hSw; go_simp; try with_reducible rfl)
      simp only [List.setIfInBounds_toArray, List.set_cons_zero, List.set_cons_succ]
      refine wpAnyH_takeAt (i := 4) (d := 36) (v := ?_) rfl rfl (by kernel_rfl) (by kernel_rfl) (by kernel_rfl) (fun _ _ _ h => h) (Or.inl ⟨by rfl, ?_⟩) hHeld ?_
      rotate_left
      · (intro _ hSw; go_simp; try with_reducible rfl)
      simp only [List.setIfInBounds_toArray, List.set_cons_zero, List.set_cons_succ]
      refine wpAnyH_ready (rs := [5, 9]) (by kernel_rfl) (by simp) ?_
      refine AllReadyH.cons rfl (fun K hK => ?_) (AllReadyH.cons rfl (fun K hK => ?_) AllReadyH.nil)
      · go_simp
        refine (CTK.out _ hHeld).mono ?_
        rintro e V ⟨A', c', rfl, ho, hb⟩
        have hH : Below wr.heap.size wr V := hHeld.trans (hb.mono hHeld.size)
        have HO := Lib.hid (own_base ho hHeld.size)
        have HV := Lib.hid hH
        clear ho
        refine hK.out _ _ hH (fun _ => ?_)
        clear hK K hb hHeld
        have hHeld := hH
        clear hH
        refine wpAnyH_takeAt (i := 6) (d := 31) (v := ?_) rfl rfl (by kernel_rfl) (by kernel_rfl) (by kernel_rfl) (fun _ _ _ h => h) (Or.inl ⟨by rfl, ?_⟩) hHeld ?_
        rotate_left
        · (intro _ hSw; go_simp; try with_reducible rfl)
        simp only [List.setIfInBounds_toArray, List.set_cons_zero, List.set_cons_succ]
        refine wpAnyH_takeAt (i := 7) (d := 38) (v := ?_) rfl rfl (by kernel_rfl) (by kernel_rfl) (by kernel_rfl) (fun _ _ _ h => h) (Or.inl ⟨by rfl, ?_⟩) hHeld ?_
        rotate_left
        · (intro _ hSw; go_simp; try with_reducible rfl)
        simp only [List.setIfInBounds_toArray, List.set_cons_zero, List.set_cons_succ]
        refine wpAnyH_takeAt (i := 8) (d := 39) (v := ?_) rfl rfl (by kernel_rfl) (by kernel_rfl) (by kernel_rfl) (fun _ _ _ h => h) (Or.inl ⟨by rfl, ?_⟩) hHeld ?_
        rotate_left
        · (intro _ hSw; go_simp; try with_reducible rfl)
        simp only [List.setIfInBounds_toArray, List.set_cons_zero, List.set_cons_succ]
        refine wpAnyH_ready (rs := [9]) (by kernel_rfl) (by simp) ?_
        refine AllReadyH.cons rfl (fun K hK => ?_) AllReadyH.nil
        go_simp
        have hH : Below wr.heap.size wr (V.alloc (.cells #[.slice none 0 0, .int .u64 0, .bool false] 30)) := hHeld.trans (((Below.refl _ _).alloc (Nat.le_refl _) _).mono hHeld.size)
        have hb := hH
        refine hK.out _ _ hH (fun _ => ?_)
        clear hK K hb hHeld
        have hHeld := hH
        clear hH
        refine wpAnyH_ready (rs := [10]) (by kernel_rfl) (by simp) ?_
        refine AllReadyH.cons rfl (fun K hK => ?_) AllReadyH.nil
        go_simp
        generalize hV2 : World.alloc V _ = V2
        generalize hr : V.heap.size = r
        have hX : Nxt wr ks k (kindN g.u v) (g.step v).u r A' c' V2 := by rw [← hr]; exact Nxt.new HV.out HO.out hV2
        have hH := hX.below
        have hb := hH
        clear hV2 hr HO HV
        refine hK.out _ _ hH (fun _ => ?_)
        clear hK K hb hHeld
        have hHeld := hH
        clear hH
        refine wpAnyH_takeAt (i := 11) (d := 11) (v := ?_) rfl rfl (by kernel_rfl) (by kernel_rfl) (by kernel_rfl) (fun _ _ _ h => h) (Or.inl ⟨by rfl, ?_⟩) hHeld ?_
        rotate_left
        · (intro _ hSw; go_simp; try with_reducible rfl)
        simp only [List.setIfInBounds_toArray, List.set_cons_zero, List.set_cons_succ]
        refine wpAnyH_done (by kernel_rfl) ?_ _
        have HX := Lib.hid hX
        have hx0 := hX.cell 0
        have hx1 := hX.cell 1
        have hx2 := hX.cell 2
        simp only [List.getElem?_toArray, List.getElem?_cons_succ, List.getElem?_cons_zero] at hx0 hx1 hx2
        have hPV := HP.out.on hX.below
        have hq0 := hPV.c0
        have hq1 := hPV.c1
        have hq2 := hPV.c2
        have hf0 := hPV.fr 0
        have hf1 := hPV.fr 1
        have hf2 := hPV.fr 2
        clear hX hPV z0 y0 y1 y2 CTK hHeld
        go_wp2_with fail
        generalize hW10 : World.setCell _ _ _ = W10
        have hM : PlS w w.heap.size q (k + 1) g (g.step v) (ks ++ [kindN g.u v]) true A' c' W10 := by
          rw [← hW10]
          exact HP.out.mstep HX.out.below HX.out.own
        clear hW10 hx0 hx1 hx2 hq0 hq1 hq2 hf0 hf1 hf2 HX
        have HBB := Lib.hid hM.below
        have z0 : ∀ V, OP W10 w.heap.size V → V.cell? ⟨b, off + k, none⟩ = some (.int .u64 (v : Int)) := fun V hV => hV.cell HBW.out (Nat.le_refl _) HBB.out HC.out
        have y0 := hM.o0
        have y1 := hM.o1
        have y2 := hM.o2
        have CCT := Lib.hid (hM.cct what hw8 (by omega))
        have hHD : OP W10 w.heap.size W10.drew := onlyE_drew _ _
        refine wp_region_held_drew (S := fun V => OP W10 w.heap.size V) (by kernel_rfl) hHD (fun hHeld => ?_)
        clear hHD
        have hHeld : OP W10 w.heap.size W10.drew := onlyE_drew _ _
        have hMX := hM.on (drewB W10)
        generalize W10.drew = X at hHeld hMX ⊢
        have HCT := Lib.hid (take_one hMX.gate v v rfl hv (by have := HP.out.sum; omega))
        have HMX := Lib.hid hMX
        clear hMX hM
        refine wpAnyH_takeAt (i := 0) (d := 41) (v := ?_) rfl rfl (by kernel_rfl) (by kernel_rfl) (by kernel_rfl) (fun _ _ _ h => h) (Or.inl ⟨by rfl, ?_⟩) hHeld ?_
        rotate_left
        · (intro _ hSw; go_simp; try with_reducible rfl)
        simp only [List.setIfInBounds_toArray, List.set_cons_zero, List.set_cons_succ]
        refine wpAnyH_takeAt (i := 1) (d := 42) (v := ?_) rfl rfl (by kernel_rfl) (by kernel_rfl) (by kernel_rfl) (fun _ _ _ h => h) (Or.inl ⟨by rfl, ?_⟩) hHeld ?_
        rotate_left
        · (intro _ hSw; go_simp; try with_reducible rfl)
        simp only [List.setIfInBounds_toArray, List.set_cons_zero, List.set_cons_succ]
        refine wpAnyH_takeAt (i := 2) (d := 43) (v := ?_) rfl rfl (by kernel_rfl) (by kernel_rfl) (by kernel_rfl) (fun _ _ _ h => h) (Or.inl ⟨by rfl, ?_⟩) hHeld ?_
        rotate_left
        · (intro _ hSw; go_simp; try with_reducible rfl)
        simp only [List.setIfInBounds_toArray, List.set_cons_zero, List.set_cons_succ]
        refine wpAnyH_takeAt (i := 3) (d := 44) (v := ?_) rfl rfl (by kernel_rfl) (by kernel_rfl) (by kernel_rfl) (fun _ _ _ h => h) (Or.inl ⟨by rfl, ?_⟩) hHeld ?_
        rotate_left
        · (intro _ hSw; go_simp; try with_reducible rfl)
        simp only [List.setIfInBounds_toArray, List.set_cons_zero, List.set_cons_succ]
        refine wpAnyH_takeAt (i := 4) (d := 45) (v := ?_) rfl rfl (by kernel_rfl) (by kernel_rfl) (by kernel_rfl) (fun _ _ _ h => h) (Or.inl ⟨by rfl, ?_⟩) hHeld ?_
        rotate_left
        · (intro _ hSw; go_simp; try with_reducible rfl)
        simp only [List.setIfInBounds_toArray, List.set_cons_zero, List.set_cons_succ]
        refine wpAnyH_takeAt (i := 7) (d := 48) (v := ?_) rfl rfl (by kernel_rfl) (by kernel_rfl) (by kernel_rfl) (fun _ _ _ h => h) (Or.inl ⟨by rfl, ?_⟩) hHeld ?_
        rotate_left
        · (intro _ hSw; go_simp; try with_reducible rfl)
        simp only [List.setIfInBounds_toArray, List.set_cons_zero, List.set_cons_succ]
        refine wpAnyH_ready (rs := [5]) (by kernel_rfl) (by simp) ?_
        refine AllReadyH.cons rfl (fun K hK => ?_) AllReadyH.nil
        go_simp
        have hH : OP W10 w.heap.size (X.alloc (.cells #[.int .u64 (v : Int)] 28)) := OnlyE.trans hHeld (OnlyE.of_below ((Below.refl _ _).alloc (Nat.le_refl _) _))
        have HXO := Lib.hid hHeld
        refine hK.out _ _ hH (fun _ => ?_)
        clear hK K hHeld
        have hHeld := hH
        clear hH
        refine wpAnyH_ready (rs := [6]) (by kernel_rfl) (by simp) ?_
        refine AllReadyH.cons rfl (fun K hK => ?_) AllReadyH.nil
        go_simp
        refine HCT.out.mono ?_
        rintro e V6 ⟨rfl, hS⟩
        have hH : OP W10 w.heap.size V6 := OnlyE.trans HXO.out hS.2
        have hM6 := HMX.out.gstep hS rfl rfl rfl
        have HM6 := Lib.hid hM6
        have COW : Hid (Calls Try.prog 8 #[.pointer (some ⟨w.heap.size, 0, none⟩)] V6 fun e w' => e = .returned (.bool true) ∧ w' = V6) := (owes_any hM6.gate).mono fun e w' h => ⟨h.1, h.2⟩
        have CUP := Lib.hid (upto_any hM6.gate)
        have CCO := Lib.hid (count_any hM6.gate what hw8)
        refine hK.out _ _ hH (fun _ => ?_)
        clear hK K hHeld hS hM6 HCT HXO HMX
        have hHeld := hH
        clear hH
        refine wpAnyH_takeAt (i := 8) (d := 49) (v := ?_) rfl rfl (by kernel_rfl) (by kernel_rfl) (by kernel_rfl) (fun _ _ _ h => h) (Or.inl ⟨by rfl, ?_⟩) hHeld ?_
        rotate_left
        · (intro _ hSw; go_simp; try with_reducible rfl)
        simp only [List.setIfInBounds_toArray, List.set_cons_zero, List.set_cons_succ]
        refine wpAnyH_takeAt (i := 9) (d := 50) (v := ?_) rfl rfl (by kernel_rfl) (by kernel_rfl) (by kernel_rfl) (fun _ _ _ h => h) (Or.inl ⟨by rfl, ?_⟩) hHeld ?_
        rotate_left
        · (intro _ hSw; go_simp; try with_reducible rfl)
        simp only [List.setIfInBounds_toArray, List.set_cons_zero, List.set_cons_succ]
        refine wpAnyH_takeAt (i := 10) (d := 51) (v := ?_) rfl rfl (by kernel_rfl) (by kernel_rfl) (by kernel_rfl) (fun _ _ _ h => h) (Or.inl ⟨by rfl, ?_⟩) hHeld ?_
        rotate_left
        · (intro _ hSw; go_simp; try with_reducible rfl)
        simp only [List.setIfInBounds_toArray, List.set_cons_zero, List.set_cons_succ]
        refine wpAnyH_ready (rs := [11]) (by kernel_rfl) (by simp) ?_
        refine AllReadyH.cons rfl (fun K hK => ?_) AllReadyH.nil
        go_simp
        refine COW.out.mono ?_
        rintro e V' ⟨rfl, he⟩
        subst he
        refine hK.out _ _ hHeld (fun _ => ?_)
        clear hK K
        refine wpAnyH_takeAt (i := 12) (d := 53) (v := ?_) rfl rfl (by kernel_rfl) (by kernel_rfl) (by kernel_rfl) (fun _ _ _ h => h) (Or.inl ⟨by rfl, ?_⟩) hHeld ?_
        rotate_left
        · (intro _ hSw; go_simp; try with_reducible rfl)
        simp only [List.setIfInBounds_toArray, List.set_cons_zero, List.set_cons_succ]
        refine wpAnyH_takeAt (i := 13) (d := 54) (v := ?_) rfl rfl (by kernel_rfl) (by kernel_rfl) (by kernel_rfl) (fun _ _ _ h => h) (Or.inl ⟨by rfl, ?_⟩) hHeld ?_
        rotate_left
        · (intro _ hSw; go_simp; try with_reducible rfl)
        simp only [List.setIfInBounds_toArray, List.set_cons_zero, List.set_cons_succ]
        refine wpAnyH_takeAt (i := 14) (d := 55) (v := ?_) rfl rfl (by kernel_rfl) (by kernel_rfl) (by kernel_rfl) (fun _ _ _ h => h) (Or.inl ⟨by rfl, ?_⟩) hHeld ?_
        rotate_left
        · (intro _ hSw; go_simp; try with_reducible rfl)
        simp only [List.setIfInBounds_toArray, List.set_cons_zero, List.set_cons_succ]
        refine wpAnyH_takeAt (i := 15) (d := 56) (v := ?_) rfl rfl (by kernel_rfl) (by kernel_rfl) (by kernel_rfl) (fun _ _ _ h => h) (Or.inl ⟨by rfl, ?_⟩) hHeld ?_
        rotate_left
        · (intro _ hSw; go_simp; try with_reducible rfl)
        simp only [List.setIfInBounds_toArray, List.set_cons_zero, List.set_cons_succ]
        refine wpAnyH_takeAt (i := 17) (d := 58) (v := ?_) rfl rfl (by kernel_rfl) (by kernel_rfl) (by kernel_rfl) (fun _ _ _ h => h) (Or.inl ⟨by rfl, ?_⟩) hHeld ?_
        rotate_left
        · (intro _ hSw; go_simp; try with_reducible rfl)
        simp only [List.setIfInBounds_toArray, List.set_cons_zero, List.set_cons_succ]
        refine wpAnyH_takeAt (i := 18) (d := 59) (v := ?_) rfl rfl (by kernel_rfl) (by kernel_rfl) (by kernel_rfl) (fun _ _ _ h => h) (Or.inl ⟨by rfl, ?_⟩) hHeld ?_
        rotate_left
        · (intro _ hSw; go_simp; try with_reducible rfl)
        simp only [List.setIfInBounds_toArray, List.set_cons_zero, List.set_cons_succ]
        refine wpAnyH_ready (rs := [16]) (by kernel_rfl) (by simp) ?_
        refine AllReadyH.cons rfl (fun K hK => ?_) AllReadyH.nil
        go_simp
        refine CUP.out.mono ?_
        rintro e V' ⟨rfl, he⟩
        subst he
        refine hK.out _ _ hHeld (fun _ => ?_)
        clear hK K
        refine wpAnyH_takeAt (i := 19) (d := 60) (v := ?_) rfl rfl (by kernel_rfl) (by kernel_rfl) (by kernel_rfl) (fun _ _ _ h => h) (Or.inl ⟨by rfl, ?_⟩) hHeld ?_
        rotate_left
        · (intro _ hSw; go_simp; try with_reducible rfl)
        simp only [List.setIfInBounds_toArray, List.set_cons_zero, List.set_cons_succ]
        refine wpAnyH_takeAt (i := 20) (d := 61) (v := ?_) rfl rfl (by kernel_rfl) (by kernel_rfl) (by kernel_rfl) (fun _ _ _ h => h) (Or.inl ⟨by rfl, ?_⟩) hHeld ?_
        rotate_left
        · (intro _ hSw; go_simp; try with_reducible rfl)
        simp only [List.setIfInBounds_toArray, List.set_cons_zero, List.set_cons_succ]
        refine wpAnyH_takeAt (i := 21) (d := 62) (v := ?_) rfl rfl (by kernel_rfl) (by kernel_rfl) (by kernel_rfl) (fun _ _ _ h => h) (Or.inl ⟨by rfl, ?_⟩) hHeld ?_
        rotate_left
        · (intro _ hSw; go_simp; try with_reducible rfl)
        simp only [List.setIfInBounds_toArray, List.set_cons_zero, List.set_cons_succ]
        refine wpAnyH_takeAt (i := 22) (d := 63) (v := ?_) rfl rfl (by kernel_rfl) (by kernel_rfl) (by kernel_rfl) (fun _ _ _ h => h) (Or.inl ⟨by rfl, ?_⟩) hHeld ?_
        rotate_left
        · (intro _ hSw; go_simp; try with_reducible rfl)
        simp only [List.setIfInBounds_toArray, List.set_cons_zero, List.set_cons_succ]
        refine wpAnyH_takeAt (i := 23) (d := 64) (v := ?_) rfl rfl (by kernel_rfl) (by kernel_rfl) (by kernel_rfl) (fun _ _ _ h => h) (Or.inl ⟨by rfl, ?_⟩) hHeld ?_
        rotate_left
        · (intro _ hSw; go_simp; try with_reducible rfl)
        simp only [List.setIfInBounds_toArray, List.set_cons_zero, List.set_cons_succ]
        refine wpAnyH_takeAt (i := 25) (d := 66) (v := ?_) rfl rfl (by kernel_rfl) (by kernel_rfl) (by kernel_rfl) (fun _ _ _ h => h) (Or.inl ⟨by rfl, ?_⟩) hHeld ?_
        rotate_left
        · (intro _ hSw; go_simp; try with_reducible rfl)
        simp only [List.setIfInBounds_toArray, List.set_cons_zero, List.set_cons_succ]
        refine wpAnyH_takeAt (i := 26) (d := 67) (v := ?_) rfl rfl (by kernel_rfl) (by kernel_rfl) (by kernel_rfl) (fun _ _ _ h => h) (Or.inl ⟨by rfl, ?_⟩) hHeld ?_
        rotate_left
        · (intro _ hSw; go_simp; try with_reducible rfl)
        simp only [List.setIfInBounds_toArray, List.set_cons_zero, List.set_cons_succ]
        refine wpAnyH_ready (rs := [24]) (by kernel_rfl) (by simp) ?_
        refine AllReadyH.cons rfl (fun K hK => ?_) AllReadyH.nil
        go_simp
        refine CCO.out.mono ?_
        rintro e V' ⟨rfl, he⟩
        subst he
        refine hK.out _ _ hHeld (fun _ => ?_)
        clear hK K
        refine wpAnyH_ready (rs := [27]) (by kernel_rfl) (by simp) ?_
        refine AllReadyH.cons rfl (fun K hK => ?_) AllReadyH.nil
        go_simp
        refine (CCT.out _ hHeld).mono ?_
        rintro e V7 ⟨rfl, hb⟩
        have hH : OP W10 w.heap.size V7 := OnlyE.trans hHeld (OnlyE.of_below hb)
        have HM7 := Lib.hid (HM6.out.on hb)
        clear HM6
        refine hK.out _ _ hH (fun _ => ?_)
        clear hK K hb hHeld
        have hHeld := hH
        clear hH
        refine wpAnyH_takeAt (i := 28) (d := 69) (v := ?_) rfl rfl (by kernel_rfl) (by kernel_rfl) (by kernel_rfl) (fun _ _ _ h => h) (Or.inl ⟨by rfl, ?_⟩) hHeld ?_
        rotate_left
        · (intro _ hSw; go_simp; try with_reducible rfl)
        simp only [List.setIfInBounds_toArray, List.set_cons_zero, List.set_cons_succ]
        refine wpAnyH_takeAt (i := 29) (d := 70) (v := ?_) rfl rfl (by kernel_rfl) (by kernel_rfl) (by kernel_rfl) (fun _ _ _ h => h) (Or.inl ⟨by rfl, ?_⟩) hHeld ?_
        rotate_left
        · (intro _ hSw; go_simp; try with_reducible rfl)
        simp only [List.setIfInBounds_toArray, List.set_cons_zero, List.set_cons_succ]
        refine wpAnyH_done (by kernel_rfl) ?_ _
        clear hHeld z0 y0 y1 y2 CCT COW CUP CCO HBB
        by_cases hkt : k < nt
        · obtain ⟨bt, offt, f, e, hbt, hct⟩ := HT.out k hkt
          subst e
          have hct7 : V7.cell? ⟨bt, offt + k, none⟩ = some (.bool f) := (HM7.out.below.cell (p := ⟨bt, offt + k, none⟩) hbt).trans hct
          clear hct hbt
          cases f
          · go_wp2
            go_roundw
            case rel => exact ⟨k + 1, _, _, _, _, _, by omega, by go_num, HM7.out⟩
            case measure => simp [intOf]; omega
          · have HTD := Lib.hid (told_any HM7.out.gate)
            go_wp2_with fail
            refine HTD.out.mono ?_
            rintro e V8 ⟨rfl, hG8, hO8⟩
            have hM8 := HM7.out.gstep ⟨hG8, hO8⟩ rfl rfl rfl
            have HM8 := Lib.hid hM8
            have HOW := Lib.hid (owes_any hM8.gate)
            clear hM8 hG8 hO8 HM7 HTD hct7
            go_wp2_with fail
            refine HOW.out.mono ?_
            rintro e V9 ⟨rfl, he⟩
            subst he
            clear HOW
            go_wp2
            go_roundw
            case rel => exact ⟨k + 1, _, _, _, _, _, by omega, by go_num, HM8.out⟩
            case measure => simp [intOf]; omega
        · have hkt2 : ¬ (k : Int) < (nt : Int) := by omega
          go_wp2
          go_roundw
          case rel => exact ⟨k + 1, _, _, _, _, _, by omega, by go_num, HM7.out⟩
          case measure => simp [intOf]; omega
      · go_simp
        generalize hX1 : World.alloc X0 _ = X1
        have hb1 : Below X0.heap.size X0 X1 := by rw [← hX1]; exact (Below.refl _ _).alloc (Nat.le_refl _) _
        have hrow : X1.heap[X0.heap.size]? = some (.cells #[.slice none 0 0, .int .u64 0, .bool false] 30 (0, 0)) := by rw [← hX1]; exact heap_alloc_new _ _
        have hsz : X0.heap.size < X1.heap.size := (Array.getElem?_eq_some_iff.1 hrow).1
        have hle : wr.heap.size ≤ X0.heap.size := hHeld.size
        have hH : Below wr.heap.size wr X1 := hHeld.trans (hb1.mono hHeld.size)
        generalize X0.heap.size = r at hb1 hrow hsz hle
        have HROW := Lib.hid hrow
        have HSZ := Lib.hid hsz
        have HLE := Lib.hid hle
        have hb := hH
        clear hX1 hb1 hrow hsz hle
        refine hK.out _ _ hH (fun _ => ?_)
        clear hK K hb hHeld
        have hHeld := hH
        clear hH
        refine wpAnyH_ready (rs := [5]) (by kernel_rfl) (by simp) ?_
        refine AllReadyH.cons rfl (fun K hK => ?_) AllReadyH.nil
        go_simp
        refine (CTK.out _ hHeld).mono ?_
        rintro e V ⟨A', c', rfl, ho, hb⟩
        have hH : Below wr.heap.size wr V := hHeld.trans (hb.mono hHeld.size)
        have HV := Lib.hid hH
        have hrowV := (hb.block r HSZ.out).trans HROW.out
        have HRV := Lib.hid hrowV
        have HO := Lib.hid (own_base ho HSZ.out)
        have g0 := cell_of_row V r 0 _ _ _ hrowV
        have g1 := cell_of_row V r 1 _ _ _ hrowV
        have g2 := cell_of_row V r 2 _ _ _ hrowV
        simp only [List.getElem?_toArray, List.getElem?_cons_succ, List.getElem?_cons_zero] at g0 g1 g2
        have h0 := frozen_of_row V r 0 _ _ hrowV
        have h1 := frozen_of_row V r 1 _ _ hrowV
        have h2 := frozen_of_row V r 2 _ _ hrowV
        clear ho hrowV
        refine hK.out _ _ hH (fun _ => ?_)
        clear hK K hb hHeld
        have hHeld := hH
        clear hH
        refine wpAnyH_takeAt (i := 6) (d := 31) (v := ?_) rfl rfl (by kernel_rfl) (by kernel_rfl) (by kernel_rfl) (fun _ _ _ h => h) (Or.inl ⟨by rfl, ?_⟩) hHeld ?_
        rotate_left
        · (intro _ hSw; go_simp; try with_reducible rfl)
        simp only [List.setIfInBounds_toArray, List.set_cons_zero, List.set_cons_succ]
        refine wpAnyH_takeAt (i := 7) (d := 38) (v := ?_) rfl rfl (by kernel_rfl) (by kernel_rfl) (by kernel_rfl) (fun _ _ _ h => h) (Or.inl ⟨by rfl, ?_⟩) hHeld ?_
        rotate_left
        · (intro _ hSw; go_simp; try with_reducible rfl)
        simp only [List.setIfInBounds_toArray, List.set_cons_zero, List.set_cons_succ]
        refine wpAnyH_takeAt (i := 8) (d := 39) (v := ?_) rfl rfl (by kernel_rfl) (by kernel_rfl) (by kernel_rfl) (fun _ _ _ h => h) (Or.inl ⟨by rfl, ?_⟩) hHeld ?_
        rotate_left
        · (intro _ hSw; go_simp; try with_reducible rfl)
        simp only [List.setIfInBounds_toArray, List.set_cons_zero, List.set_cons_succ]
        refine wpAnyH_ready (rs := [10]) (by kernel_rfl) (by simp) ?_
        refine AllReadyH.cons rfl (fun K hK => ?_) AllReadyH.nil
        go_simp
        generalize hV2 : World.setCell _ _ _ = V2
        have hX : Nxt wr ks k (kindN g.u v) (g.step v).u r A' c' V2 := Nxt.old HV.out HLE.out HRV.out rfl HO.out hV2
        have hH := hX.below
        have hb := hH
        clear hV2 HO HV HRV HROW HSZ HLE g0 g1 g2 h0 h1 h2
        refine hK.out _ _ hH (fun _ => ?_)
        clear hK K hb hHeld
        have hHeld := hH
        clear hH
        refine wpAnyH_takeAt (i := 11) (d := 11) (v := ?_) rfl rfl (by kernel_rfl) (by kernel_rfl) (by kernel_rfl) (fun _ _ _ h => h) (Or.inl ⟨by rfl, ?_⟩) hHeld ?_
        rotate_left
        · (intro _ hSw; go_simp; try with_reducible rfl)
        simp only [List.setIfInBounds_toArray, List.set_cons_zero, List.set_cons_succ]
        refine wpAnyH_done (by kernel_rfl) ?_ _
        have HX := Lib.hid hX
        have hx0 := hX.cell 0
        have hx1 := hX.cell 1
        have hx2 := hX.cell 2
        simp only [List.getElem?_toArray, List.getElem?_cons_succ, List.getElem?_cons_zero] at hx0 hx1 hx2
        have hPV := HP.out.on hX.below
        have hq0 := hPV.c0
        have hq1 := hPV.c1
        have hq2 := hPV.c2
        have hf0 := hPV.fr 0
        have hf1 := hPV.fr 1
        have hf2 := hPV.fr 2
        clear hX hPV z0 y0 y1 y2 CTK hHeld
        go_wp2_with fail
        generalize hW10 : World.setCell _ _ _ = W10
        have hM : PlS w w.heap.size q (k + 1) g (g.step v) (ks ++ [kindN g.u v]) true A' c' W10 := by
          rw [← hW10]
          exact HP.out.mstep HX.out.below HX.out.own
        clear hW10 hx0 hx1 hx2 hq0 hq1 hq2 hf0 hf1 hf2 HX
        have HBB := Lib.hid hM.below
        have z0 : ∀ V, OP W10 w.heap.size V → V.cell? ⟨b, off + k, none⟩ = some (.int .u64 (v : Int)) := fun V hV => hV.cell HBW.out (Nat.le_refl _) HBB.out HC.out
        have y0 := hM.o0
        have y1 := hM.o1
        have y2 := hM.o2
        have CCT := Lib.hid (hM.cct what hw8 (by omega))
        have hHD : OP W10 w.heap.size W10.drew := onlyE_drew _ _
        refine wp_region_held_drew (S := fun V => OP W10 w.heap.size V) (by kernel_rfl) hHD (fun hHeld => ?_)
        clear hHD
        have hHeld : OP W10 w.heap.size W10.drew := onlyE_drew _ _
        have hMX := hM.on (drewB W10)
        generalize W10.drew = X at hHeld hMX ⊢
        have HCT := Lib.hid (take_one hMX.gate v v rfl hv (by have := HP.out.sum; omega))
        have HMX := Lib.hid hMX
        clear hMX hM
        refine wpAnyH_takeAt (i := 0) (d := 41) (v := ?_) rfl rfl (by kernel_rfl) (by kernel_rfl) (by kernel_rfl) (fun _ _ _ h => h) (Or.inl ⟨by rfl, ?_⟩) hHeld ?_
        rotate_left
        · (intro _ hSw; go_simp; try with_reducible rfl)
        simp only [List.setIfInBounds_toArray, List.set_cons_zero, List.set_cons_succ]
        refine wpAnyH_takeAt (i := 1) (d := 42) (v := ?_) rfl rfl (by kernel_rfl) (by kernel_rfl) (by kernel_rfl) (fun _ _ _ h => h) (Or.inl ⟨by rfl, ?_⟩) hHeld ?_
        rotate_left
        · (intro _ hSw; go_simp; try with_reducible rfl)
        simp only [List.setIfInBounds_toArray, List.set_cons_zero, List.set_cons_succ]
        refine wpAnyH_takeAt (i := 2) (d := 43) (v := ?_) rfl rfl (by kernel_rfl) (by kernel_rfl) (by kernel_rfl) (fun _ _ _ h => h) (Or.inl ⟨by rfl, ?_⟩) hHeld ?_
        rotate_left
        · (intro _ hSw; go_simp; try with_reducible rfl)
        simp only [List.setIfInBounds_toArray, List.set_cons_zero, List.set_cons_succ]
        refine wpAnyH_takeAt (i := 3) (d := 44) (v := ?_) rfl rfl (by kernel_rfl) (by kernel_rfl) (by kernel_rfl) (fun _ _ _ h => h) (Or.inl ⟨by rfl, ?_⟩) hHeld ?_
        rotate_left
        · (intro _ hSw; go_simp; try with_reducible rfl)
        simp only [List.setIfInBounds_toArray, List.set_cons_zero, List.set_cons_succ]
        refine wpAnyH_takeAt (i := 4) (d := 45) (v := ?_) rfl rfl (by kernel_rfl) (by kernel_rfl) (by kernel_rfl) (fun _ _ _ h => h) (Or.inl ⟨by rfl, ?_⟩) hHeld ?_
        rotate_left
        · (intro _ hSw; go_simp; try with_reducible rfl)
        simp only [List.setIfInBounds_toArray, List.set_cons_zero, List.set_cons_succ]
        refine wpAnyH_takeAt (i := 7) (d := 48) (v := ?_) rfl rfl (by kernel_rfl) (by kernel_rfl) (by kernel_rfl) (fun _ _ _ h => h) (Or.inl ⟨by rfl, ?_⟩) hHeld ?_
        rotate_left
        · (intro _ hSw; go_simp; try with_reducible rfl)
        simp only [List.setIfInBounds_toArray, List.set_cons_zero, List.set_cons_succ]
        refine wpAnyH_ready (rs := [5]) (by kernel_rfl) (by simp) ?_
        refine AllReadyH.cons rfl (fun K hK => ?_) AllReadyH.nil
        go_simp
        have hH : OP W10 w.heap.size (X.alloc (.cells #[.int .u64 (v : Int)] 28)) := OnlyE.trans hHeld (OnlyE.of_below ((Below.refl _ _).alloc (Nat.le_refl _) _))
        have HXO := Lib.hid hHeld
        refine hK.out _ _ hH (fun _ => ?_)
        clear hK K hHeld
        have hHeld := hH
        clear hH
        refine wpAnyH_ready (rs := [6]) (by kernel_rfl) (by simp) ?_
        refine AllReadyH.cons rfl (fun K hK => ?_) AllReadyH.nil
        go_simp
        refine HCT.out.mono ?_
        rintro e V6 ⟨rfl, hS⟩
        have hH : OP W10 w.heap.size V6 := OnlyE.trans HXO.out hS.2
        have hM6 := HMX.out.gstep hS rfl rfl rfl
        have HM6 := Lib.hid hM6
        have COW : Hid (Calls Try.prog 8 #[.pointer (some ⟨w.heap.size, 0, none⟩)] V6 fun e w' => e = .returned (.bool true) ∧ w' = V6) := (owes_any hM6.gate).mono fun e w' h => ⟨h.1, h.2⟩
        have CUP := Lib.hid (upto_any hM6.gate)
        have CCO := Lib.hid (count_any hM6.gate what hw8)
        refine hK.out _ _ hH (fun _ => ?_)
        clear hK K hHeld hS hM6 HCT HXO HMX
        have hHeld := hH
        clear hH
        refine wpAnyH_takeAt (i := 8) (d := 49) (v := ?_) rfl rfl (by kernel_rfl) (by kernel_rfl) (by kernel_rfl) (fun _ _ _ h => h) (Or.inl ⟨by rfl, ?_⟩) hHeld ?_
        rotate_left
        · (intro _ hSw; go_simp; try with_reducible rfl)
        simp only [List.setIfInBounds_toArray, List.set_cons_zero, List.set_cons_succ]
        refine wpAnyH_takeAt (i := 9) (d := 50) (v := ?_) rfl rfl (by kernel_rfl) (by kernel_rfl) (by kernel_rfl) (fun _ _ _ h => h) (Or.inl ⟨by rfl, ?_⟩) hHeld ?_
        rotate_left
        · (intro _ hSw; go_simp; try with_reducible rfl)
        simp only [List.setIfInBounds_toArray, List.set_cons_zero, List.set_cons_succ]
        refine wpAnyH_takeAt (i := 10) (d := 51) (v := ?_) rfl rfl (by kernel_rfl) (by kernel_rfl) (by kernel_rfl) (fun _ _ _ h => h) (Or.inl ⟨by rfl, ?_⟩) hHeld ?_
        rotate_left
        · (intro _ hSw; go_simp; try with_reducible rfl)
        simp only [List.setIfInBounds_toArray, List.set_cons_zero, List.set_cons_succ]
        refine wpAnyH_ready (rs := [11]) (by kernel_rfl) (by simp) ?_
        refine AllReadyH.cons rfl (fun K hK => ?_) AllReadyH.nil
        go_simp
        refine COW.out.mono ?_
        rintro e V' ⟨rfl, he⟩
        subst he
        refine hK.out _ _ hHeld (fun _ => ?_)
        clear hK K
        refine wpAnyH_takeAt (i := 12) (d := 53) (v := ?_) rfl rfl (by kernel_rfl) (by kernel_rfl) (by kernel_rfl) (fun _ _ _ h => h) (Or.inl ⟨by rfl, ?_⟩) hHeld ?_
        rotate_left
        · (intro _ hSw; go_simp; try with_reducible rfl)
        simp only [List.setIfInBounds_toArray, List.set_cons_zero, List.set_cons_succ]
        refine wpAnyH_takeAt (i := 13) (d := 54) (v := ?_) rfl rfl (by kernel_rfl) (by kernel_rfl) (by kernel_rfl) (fun _ _ _ h => h) (Or.inl ⟨by rfl, ?_⟩) hHeld ?_
        rotate_left
        · (intro _ hSw; go_simp; try with_reducible rfl)
        simp only [List.setIfInBounds_toArray, List.set_cons_zero, List.set_cons_succ]
        refine wpAnyH_takeAt (i := 14) (d := 55) (v := ?_) rfl rfl (by kernel_rfl) (by kernel_rfl) (by kernel_rfl) (fun _ _ _ h => h) (Or.inl ⟨by rfl, ?_⟩) hHeld ?_
        rotate_left
        · (intro _ hSw; go_simp; try with_reducible rfl)
        simp only [List.setIfInBounds_toArray, List.set_cons_zero, List.set_cons_succ]
        refine wpAnyH_takeAt (i := 15) (d := 56) (v := ?_) rfl rfl (by kernel_rfl) (by kernel_rfl) (by kernel_rfl) (fun _ _ _ h => h) (Or.inl ⟨by rfl, ?_⟩) hHeld ?_
        rotate_left
        · (intro _ hSw; go_simp; try with_reducible rfl)
        simp only [List.setIfInBounds_toArray, List.set_cons_zero, List.set_cons_succ]
        refine wpAnyH_takeAt (i := 17) (d := 58) (v := ?_) rfl rfl (by kernel_rfl) (by kernel_rfl) (by kernel_rfl) (fun _ _ _ h => h) (Or.inl ⟨by rfl, ?_⟩) hHeld ?_
        rotate_left
        · (intro _ hSw; go_simp; try with_reducible rfl)
        simp only [List.setIfInBounds_toArray, List.set_cons_zero, List.set_cons_succ]
        refine wpAnyH_takeAt (i := 18) (d := 59) (v := ?_) rfl rfl (by kernel_rfl) (by kernel_rfl) (by kernel_rfl) (fun _ _ _ h => h) (Or.inl ⟨by rfl, ?_⟩) hHeld ?_
        rotate_left
        · (intro _ hSw; go_simp; try with_reducible rfl)
        simp only [List.setIfInBounds_toArray, List.set_cons_zero, List.set_cons_succ]
        refine wpAnyH_ready (rs := [16]) (by kernel_rfl) (by simp) ?_
        refine AllReadyH.cons rfl (fun K hK => ?_) AllReadyH.nil
        go_simp
        refine CUP.out.mono ?_
        rintro e V' ⟨rfl, he⟩
        subst he
        refine hK.out _ _ hHeld (fun _ => ?_)
        clear hK K
        refine wpAnyH_takeAt (i := 19) (d := 60) (v := ?_) rfl rfl (by kernel_rfl) (by kernel_rfl) (by kernel_rfl) (fun _ _ _ h => h) (Or.inl ⟨by rfl, ?_⟩) hHeld ?_
        rotate_left
        · (intro _ hSw; go_simp; try with_reducible rfl)
        simp only [List.setIfInBounds_toArray, List.set_cons_zero, List.set_cons_succ]
        refine wpAnyH_takeAt (i := 20) (d := 61) (v := ?_) rfl rfl (by kernel_rfl) (by kernel_rfl) (by kernel_rfl) (fun _ _ _ h => h) (Or.inl ⟨by rfl, ?_⟩) hHeld ?_
        rotate_left
        · (intro _ hSw; go_simp; try with_reducible rfl)
        simp only [List.setIfInBounds_toArray, List.set_cons_zero, List.set_cons_succ]
        refine wpAnyH_takeAt (i := 21) (d := 62) (v := ?_) rfl rfl (by kernel_rfl) (by kernel_rfl) (by kernel_rfl) (fun _ _ _ h => h) (Or.inl ⟨by rfl, ?_⟩) hHeld ?_
        rotate_left
        · (intro _ hSw; go_simp; try with_reducible rfl)
        simp only [List.setIfInBounds_toArray, List.set_cons_zero, List.set_cons_succ]
        refine wpAnyH_takeAt (i := 22) (d := 63) (v := ?_) rfl rfl (by kernel_rfl) (by kernel_rfl) (by kernel_rfl) (fun _ _ _ h => h) (Or.inl ⟨by rfl, ?_⟩) hHeld ?_
        rotate_left
        · (intro _ hSw; go_simp; try with_reducible rfl)
        simp only [List.setIfInBounds_toArray, List.set_cons_zero, List.set_cons_succ]
        refine wpAnyH_takeAt (i := 23) (d := 64) (v := ?_) rfl rfl (by kernel_rfl) (by kernel_rfl) (by kernel_rfl) (fun _ _ _ h => h) (Or.inl ⟨by rfl, ?_⟩) hHeld ?_
        rotate_left
        · (intro _ hSw; go_simp; try with_reducible rfl)
        simp only [List.setIfInBounds_toArray, List.set_cons_zero, List.set_cons_succ]
        refine wpAnyH_takeAt (i := 25) (d := 66) (v := ?_) rfl rfl (by kernel_rfl) (by kernel_rfl) (by kernel_rfl) (fun _ _ _ h => h) (Or.inl ⟨by rfl, ?_⟩) hHeld ?_
        rotate_left
        · (intro _ hSw; go_simp; try with_reducible rfl)
        simp only [List.setIfInBounds_toArray, List.set_cons_zero, List.set_cons_succ]
        refine wpAnyH_takeAt (i := 26) (d := 67) (v := ?_) rfl rfl (by kernel_rfl) (by kernel_rfl) (by kernel_rfl) (fun _ _ _ h => h) (Or.inl ⟨by rfl, ?_⟩) hHeld ?_
        rotate_left
        · (intro _ hSw; go_simp; try with_reducible rfl)
        simp only [List.setIfInBounds_toArray, List.set_cons_zero, List.set_cons_succ]
        refine wpAnyH_ready (rs := [24]) (by kernel_rfl) (by simp) ?_
        refine AllReadyH.cons rfl (fun K hK => ?_) AllReadyH.nil
        go_simp
        refine CCO.out.mono ?_
        rintro e V' ⟨rfl, he⟩
        subst he
        refine hK.out _ _ hHeld (fun _ => ?_)
        clear hK K
        refine wpAnyH_ready (rs := [27]) (by kernel_rfl) (by simp) ?_
        refine AllReadyH.cons rfl (fun K hK => ?_) AllReadyH.nil
        go_simp
        refine (CCT.out _ hHeld).mono ?_
        rintro e V7 ⟨rfl, hb⟩
        have hH : OP W10 w.heap.size V7 := OnlyE.trans hHeld (OnlyE.of_below hb)
        have HM7 := Lib.hid (HM6.out.on hb)
        clear HM6
        refine hK.out _ _ hH (fun _ => ?_)
        clear hK K hb hHeld
        have hHeld := hH
        clear hH
        refine wpAnyH_takeAt (i := 28) (d := 69) (v := ?_) rfl rfl (by kernel_rfl) (by kernel_rfl) (by kernel_rfl) (fun _ _ _ h => h) (Or.inl ⟨by rfl, ?_⟩) hHeld ?_
        rotate_left
        · (intro _ hSw; go_simp; try with_reducible rfl)
        simp only [List.setIfInBounds_toArray, List.set_cons_zero, List.set_cons_succ]
        refine wpAnyH_takeAt (i := 29) (d := 70) (v := ?_) rfl rfl (by kernel_rfl) (by kernel_rfl) (by kernel_rfl) (fun _ _ _ h => h) (Or.inl ⟨by rfl, ?_⟩) hHeld ?_
        rotate_left
        · (intro _ hSw; go_simp; try with_reducible rfl)
        simp only [List.setIfInBounds_toArray, List.set_cons_zero, List.set_cons_succ]
        refine wpAnyH_done (by kernel_rfl) ?_ _
        clear hHeld z0 y0 y1 y2 CCT COW CUP CCO HBB
        by_cases hkt : k < nt
        · obtain ⟨bt, offt, f, e, hbt, hct⟩ := HT.out k hkt
          subst e
          have hct7 : V7.cell? ⟨bt, offt + k, none⟩ = some (.bool f) := (HM7.out.below.cell (p := ⟨bt, offt + k, none⟩) hbt).trans hct
          clear hct hbt
          cases f
          · go_wp2
            go_roundw
            case rel => exact ⟨k + 1, _, _, _, _, _, by omega, by go_num, HM7.out⟩
            case measure => simp [intOf]; omega
          · have HTD := Lib.hid (told_any HM7.out.gate)
            go_wp2_with fail
            refine HTD.out.mono ?_
            rintro e V8 ⟨rfl, hG8, hO8⟩
            have hM8 := HM7.out.gstep ⟨hG8, hO8⟩ rfl rfl rfl
            have HM8 := Lib.hid hM8
            have HOW := Lib.hid (owes_any hM8.gate)
            clear hM8 hG8 hO8 HM7 HTD hct7
            go_wp2_with fail
            refine HOW.out.mono ?_
            rintro e V9 ⟨rfl, he⟩
            subst he
            clear HOW
            go_wp2
            go_roundw
            case rel => exact ⟨k + 1, _, _, _, _, _, by omega, by go_num, HM8.out⟩
            case measure => simp [intOf]; omega
        · have hkt2 : ¬ (k : Int) < (nt : Int) := by omega
          go_wp2
          go_roundw
          case rel => exact ⟨k + 1, _, _, _, _, _, by omega, by go_num, HM7.out⟩
          case measure => simp [intOf]; omega
    · obtain rfl : k = n := by omega
      have HB := Lib.hid hP.below
      clear hP
      go_wp2_with (go_at_call 6; refine (awake_any _).mono ?_; rintro e w' ⟨rfl, hb⟩)
      go_ret
      exact ⟨rfl, HB.out.trans (hb.mono HB.out.size)⟩

theorem acceptPlays_many (A : Option Addr) (n c : Nat) (At : Option Addr) (nt ct : Nat) (what : Int) (w : World) (hn : 200 < n) :
    Calls Try.prog 3 #[.slice A n c, .slice At nt ct, .int .u8 what] w fun e w' => e = .returned (.bool true) ∧ Below w.heap.size w w' := by
  have hd : decide (200 < (n : Int)) = true := by simp; omega
  go_enter Try.func3, Try.ntmps3
  go_wp2_with (go_at_call 6; refine (awake_any _).mono ?_; rintro e w' ⟨rfl, hb⟩)
  go_ret
  exact ⟨rfl, hb⟩

theorem own : ownKnob Try.prog.godebug = none := by kernel_rfl
theorem laidOut : laidOutB Try.prog = true := by kernel_rfl

set_option maxRecDepth 100000 in
theorem acceptPlays_lifted (os : Os) (started : os.Started) (H : Type) (enc : TypeId × Value → H) :
    ReturnsInHanded {} Try.checked os 3 .any (Rows.acceptPlaysSpec.pre6 enc Try.prog Try.f3 Rows.acceptPlaysRow.domain false) (Rows.acceptPlaysSpec.post enc Try.prog Try.f3 false true false false) := by
  refine returnsInHanded_of_change (C := Try.checked) own started (by kernel_rfl) Try.func3
    (ChangeSpec.witness6 (enc := enc) (C := Try.checked) false ⟨#[], #[.slice none 0 0, .slice none 0 0, .int .u8 0], []⟩ 8 (by kernel_rfl) (by kernel_rfl) (by kernel_rfl) (by kernel_rfl)) ?_
  intro W base args ds gs before hval0 hW _ _
  have hval : ∀ (j : Nat) t v, Try.f3.params[j]? = some t → args[j]? = some v → Value.okWide Try.prog W .any base t v := hval0
  have hW' := hW
  obtain ⟨p, q, hA0, hV, rfl, _, _⟩ := hW
  have hA : DataW.TrodAll enc Try.prog W 0 (fun _ => true) true Try.f3.params.toList args.toList ds p := hA0
  rw [Try.params3] at hA hval
  obtain ⟨v0, vs0, d0, ds0, p0, q0, hargs, rfl, rfl, h0, r0⟩ := trodAll_cons hA
  obtain ⟨v1, vs1, d1, ds1, p1, q1, rfl, rfl, rfl, h1, r1⟩ := trodAll_cons r0
  obtain ⟨v2, vs2, d2, ds2, p2, q2, rfl, rfl, rfl, h2, r2⟩ := trodAll_cons r1
  obtain ⟨rfl, rfl, rfl⟩ := trodAll_nil r2
  obtain rfl : args = #[v0, v1, v2] := by cases args; simp_all
  obtain ⟨rfl, rfl⟩ := trodVars_none hV
  have k0 := h0
  have lt0 : ∀ x ∈ p0, x.block < W.heap.size := by obtain ⟨m, hm⟩ := k0; exact DataW.trod_lt m _ _ _ hm
  have k1 := h1
  have lt1 : ∀ x ∈ p1, x.block < W.heap.size := by obtain ⟨m, hm⟩ := k1; exact DataW.trod_lt m _ _ _ hm
  have k2 := h2
  have lt2 : ∀ x ∈ p2, x.block < W.heap.size := by obtain ⟨m, hm⟩ := k2; exact DataW.trod_lt m _ _ _ hm
  obtain ⟨a2, rfl, _, _, wf2⟩ := open_int Try.underlying5 (hval 2 5 v2 rfl rfl) h2
  have hwalk : Calls Try.prog 3 #[v0, v1, .int .u8 a2] W fun e w' => e = .returned (.bool true) ∧ Below W.heap.size W w' := by
    obtain ⟨a0, len0, cap0, rfl⟩ := okWide_slice Try.underlying22 (hval 0 22 v0 rfl rfl)
    obtain ⟨a1, len1, cap1, rfl⟩ := okWide_slice Try.underlying23 (hval 1 23 v1 rfl rfl)
    obtain ⟨fuel0, hf0⟩ := h0
    obtain ⟨fuel1, hf1⟩ := h1
    obtain ⟨l, A, n, c, hv, hl, hc, hcm, hL, hls⟩ := open_nums Try.underlying22 Try.underlying28 (by kernel_rfl) (by simpa [Value.cells] using hf0)
    injection hv with e1 e2 e3
    subst e1 e2 e3
    obtain ⟨At, nt, ct, hv, hct, hcmt, hT⟩ := open_flags Try.underlying23 Try.underlying4 (by kernel_rfl) (by simpa [Value.cells] using hf1)
    injection hv with e1 e2 e3
    subst e1 e2 e3
    by_cases hn : 200 < len0
    · exact acceptPlays_many a0 len0 cap0 a1 len1 cap1 a2 W hn
    · have hbd := bounds_u8 wf2
      obtain ⟨kk, rfl⟩ : ∃ k : Nat, a2 = (k : Int) := ⟨a2.toNat, by omega⟩
      exact acceptPlays_walk a0 len0 cap0 l a1 len1 cap1 kk W hl (by omega) hL hls hT (by omega)
  clear hA0 hval0
  refine hwalk.mono fun e W' ⟨he, bel⟩ => ?_
  subst he
  exact ⟨_, rfl, _, _, _, [], _, [], hW', trodAll_mk1 (shut_bool Try.underlying4 _), (trodAll_cons_mk (Below.trod laidOut (by kernel_rfl) (of_decide_eq_true (by kernel_rfl)) k0 bel lt0) (trodAll_cons_mk (Below.trod laidOut (by kernel_rfl) (of_decide_eq_true (by kernel_rfl)) k1 bel lt1) (trodAll_cons_mk (Below.trod laidOut (by kernel_rfl) (of_decide_eq_true (by kernel_rfl)) k2 bel lt2) trodAll_mk0))), rfl, bel.frame _, fun h => by cases h⟩

theorem acceptPlays_proved : Rows.AcceptPlaysSaid :=
  OpenClaim.holds_of_wide 3 Try.f3 rfl rfl rfl rfl rfl rfl rfl ⟨rfl, rfl, rfl, rfl, rfl⟩ rfl rfl rfl rfl rfl (by kernel_rfl) Try.func3 (by kernel_rfl)
    (of_decide_eq_true (by kernel_rfl)) (by unfold Func.isWrapper; first | (rw [if_pos (by decide +kernel)]; kernel_rfl) | (rw [if_neg (by decide +kernel)]; exact ⟨rfl, rfl⟩))
    (fun os started H enc _ => acceptPlays_lifted os started H enc)

end Go.Proofs.Ytpnihkepfcnglaa
