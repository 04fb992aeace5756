/- BitsPlays: for every number, every list of places, every place and every two further numbers the call returns true (any row of places that are put in leaves the set as the document says, whatever is asked of it), and changes nothing that was there. Condition: the library's table lies as its initialiser lays it (the card ties that). -/
import Derived.Test.YtjkolneonhfjnaaDoorBsK
import Derived.Test.YtjkolneonhfjnaaDoorBsP
import Derived.Deep.CutBlock
namespace Go.Proofs.YtjkolneonhfjnaaDoor
open Go.ChangeShapes Go.WideShapes Go.ChangeAt Go.RowKit

set_option maxRecDepth 20000 in
theorem bitsPlays_great (z : Int) (A : Option Addr) (nl c : Nat) (i f t : Int) (w : World) (hT : Tab w) (hg : 200 < nl ∨ 300 < z) : Calls Tryd.prog 3 #[.int .i64 z, .slice A nl c, .int .i64 i, .int .i64 f, .int .i64 t] w fun e w' => e = .returned (.bool true) ∧ Below w.heap.size w w' := by
  have HA := Lib.hid (awake_any w hT)
  clear hT
  by_cases h1 : (200 : Int) < (nl : Int)
  · clear hg
    go_enter Tryd.func3, Tryd.ntmps3
    go_wp2_with fail
    refine HA.out.mono ?_
    rintro e w' ⟨rfl, hb⟩
    have HB := Lib.hid hb
    clear hb
    go_wp2_with fail
    go_ret
    exact ⟨rfl, HB.out⟩
  · have h2 : (300 : Int) < z := by omega
    clear hg
    go_enter Tryd.func3, Tryd.ntmps3
    go_wp2_with fail
    refine HA.out.mono ?_
    rintro e w' ⟨rfl, hb⟩
    have HB := Lib.hid hb
    clear hb
    go_wp2_with fail
    go_ret
    exact ⟨rfl, HB.out⟩

set_option maxRecDepth 20000 in
set_option maxHeartbeats 6400000 in
theorem bitsPlays_walk (z : Int) (A : Option Addr) (nl c : Nat) (l : List Int) (pl f t : Int) (w : World) (hl : l.length = nl) (hL : Lies w w.heap.size A (zvs l)) (hT : Tab w) (hn : nl ≤ 200) (hz : z ≤ 300) : Calls Tryd.prog 3 #[.int .i64 z, .slice A nl c, .int .i64 pl, .int .i64 f, .int .i64 t] w fun e w' => e = .returned (.bool true) ∧ Below w.heap.size w w' := by
  have HT := Lib.hid hT
  have HL := Lib.hid hl
  have HA := Lib.hid hL
  obtain ⟨N, hN⟩ : ∃ N, z.toNat = N := ⟨_, rfl⟩
  have hN2 : N ≤ 300 := by omega
  have HN := Lib.hid (fun (W : World) => new_any z N hN W (by omega))
  have HN2 := Lib.hid (fun (W : World) => refNew_any z N hN (by omega) W)
  have d1 : decide ((200 : Int) < (nl : Int)) = false := by simp; omega
  have d2 : decide ((300 : Int) < z) = false := by simp; omega
  clear hT hl hL hz hN
  go_enter Tryd.func3, Tryd.ntmps3
  go_wp2_with fail
  refine (HN.out _).mono ?_
  rintro e w1 ⟨p, q, rfl, hS1, hp, hq, hb1⟩
  go_wp2_with fail
  refine (HN2.out _).mono ?_
  rintro e w2 ⟨A2, c2, rfl, hO2⟩
  have H2 := Lib.hid (OneS.start hS1 hp hq hb1 List.length_replicate hO2)
  clear hS1 hp hq hb1 hO2 HN HN2
  generalize List.replicate N false = m at H2
  go_wp2_with fail
  go_loopw [12, 13] (fun s12 s13 wr => ∃ (k : Nat) (A' : Option Addr) (c' : Nat), k ≤ nl ∧ s13 = .int .i64 (k : Int) ∧ s12 = .slice A' N c' ∧ OneS w p q (putS m (l.take k)) (putS m (l.take k)) A' N wr) (fun _ s13 _ => nl - (Lib.intOf s13).toNat)
  case atStart => exact ⟨0, A2, c2, Nat.zero_le _, rfl, rfl, H2.out⟩
  case round =>
    obtain ⟨k, A', c', hk, rfl, rfl, h4⟩ := hrel
    have H4 := Lib.hid h4
    clear h4
    by_cases hkn : k < nl
    · have hkl : k < l.length := by have := HL.out; omega
      obtain ⟨b, off, eA, hlt, hc0⟩ := HA.out.at_ (zvs_at hkl)
      have hc := (H4.out.below.cell (p := ⟨b, off + k, none⟩) hlt).trans hc0
      subst eA
      have HNX := Lib.hid (putS_next m l k hkl)
      generalize l[k] = x at hc HNX hc0
      generalize putS m (l.take k) = M at H4 HNX
      have HBL := Lib.hid hlt
      have HC0 := Lib.hid hc0
      have HR := Lib.hid (H4.out.ref (by omega) c' x)
      clear hkl hlt hc0
      go_wp2_with fail
      refine HR.out.mono ?_
      rintro e W1 ⟨A3, c3, rfl, h5⟩
      have hcB : cntS (addS M x) - cntS M ≤ 1 := by have := (cnt_add M x).2; omega
      obtain ⟨C, hC⟩ : ∃ C, cntS (addS M x) - cntS M = C := ⟨_, rfl⟩
      have HCM := Lib.hid hC
      rw [hC] at hcB ⊢
      have H5 := Lib.hid h5
      have hml : M.length = N := h5.len
      clear hC h5 HR H4
      have z0 : ∀ V, OnlyE W1 V (DS p q) → V.cell? ⟨b, off + k, none⟩ = some (.int .i64 x) := fun V hV =>
        (World.cell?_of_block (hV.same b (Nat.lt_of_lt_of_le HBL.out H5.out.below.size) (by have h1 := H5.out.hp; have h2 := H5.out.hq; have := HBL.out; rintro (e | e) <;> omega))).trans ((H5.out.below.cell (p := ⟨b, off + k, none⟩) HBL.out).trans HC0.out)
      clear hc
      have e1 : ((C : Int) != (C : Int)) = false := by simp
      have hHD : OnlyE W1 W1.drew (DS p q) := onlyE_drew _ _
      by_cases hx : x < 0
      · have HIN := Lib.hid (show inS (addS M x) x = false by rw [addS_out (.inl hx)]; exact inS_out (.inl hx))
        have d3 : decide (x < 0) = true := by simpa using hx
        clear hx hml
        go_wp2_with fail
        refine wp_region_held_drew (S := fun V => OnlyE W1 V (DS p q)) (by kernel_rfl) hHD (fun hHeld => ?_)
        clear hHD
        have hHeld : OnlyE W1 W1.drew (DS p q) := onlyE_drew _ _
        have HX := Lib.hid (H5.out.on (Below.refl _ _).drew)
        generalize W1.drew = X at hHeld HX ⊢
        refine wpAnyH_takeAt (i := 0) (d := 46) (v := ?_) rfl rfl (by kernel_rfl) (by kernel_rfl) (by kernel_rfl) (fun _ _ _ h => h) (Or.inl ⟨by rfl, ?_⟩) hHeld ?_
        rotate_left
        · (intro _ hSw; go_simp; try with_reducible rfl)
        simp only [List.setIfInBounds_toArray, List.set_cons_zero, List.set_cons_succ]
        refine wpAnyH_takeAt (i := 1) (d := 47) (v := ?_) rfl rfl (by kernel_rfl) (by kernel_rfl) (by kernel_rfl) (fun _ _ _ h => h) (Or.inl ⟨by rfl, ?_⟩) hHeld ?_
        rotate_left
        · (intro _ hSw; go_simp; try with_reducible rfl)
        simp only [List.setIfInBounds_toArray, List.set_cons_zero, List.set_cons_succ]
        refine wpAnyH_takeAt (i := 2) (d := 48) (v := ?_) rfl rfl (by kernel_rfl) (by kernel_rfl) (by kernel_rfl) (fun _ _ _ h => h) (Or.inl ⟨by rfl, ?_⟩) hHeld ?_
        rotate_left
        · (intro _ hSw; go_simp; try with_reducible rfl)
        simp only [List.setIfInBounds_toArray, List.set_cons_zero, List.set_cons_succ]
        refine wpAnyH_takeAt (i := 3) (d := 49) (v := ?_) rfl rfl (by kernel_rfl) (by kernel_rfl) (by kernel_rfl) (fun _ _ _ h => h) (Or.inl ⟨by rfl, ?_⟩) hHeld ?_
        rotate_left
        · (intro _ hSw; go_simp; try with_reducible rfl)
        simp only [List.setIfInBounds_toArray, List.set_cons_zero, List.set_cons_succ]
        refine wpAnyH_takeAt (i := 4) (d := 50) (v := ?_) rfl rfl (by kernel_rfl) (by kernel_rfl) (by kernel_rfl) (fun _ _ _ h => h) (Or.inl ⟨by rfl, ?_⟩) hHeld ?_
        rotate_left
        · (intro _ hSw; go_simp; try with_reducible rfl)
        simp only [List.setIfInBounds_toArray, List.set_cons_zero, List.set_cons_succ]
        refine wpAnyH_takeAt (i := 7) (d := 53) (v := ?_) rfl rfl (by kernel_rfl) (by kernel_rfl) (by kernel_rfl) (fun _ _ _ h => h) (Or.inl ⟨by rfl, ?_⟩) hHeld ?_
        rotate_left
        · (intro _ hSw; go_simp; try with_reducible rfl)
        simp only [List.setIfInBounds_toArray, List.set_cons_zero, List.set_cons_succ]
        refine wpAnyH_ready (rs := [5]) (by kernel_rfl) (by simp) ?_
        refine AllReadyH.cons rfl (fun K hK => ?_) AllReadyH.nil
        go_simp
        have hH : OnlyE W1 (X.alloc (.cells #[.int .i64 x] 3)) (DS p q) := OnlyE.trans hHeld (OnlyE.of_below ((Below.refl _ _).alloc (Nat.le_refl _) _))
        have HXA := Lib.hid (HX.out.on ((Below.refl _ _).alloc (Nat.le_refl _) (.cells #[.int .i64 x] 3)))
        have HP := Lib.hid (HXA.out.put (some ⟨X.heap.size, 0, none⟩) 1 1 [x] rfl (by decide) (HX.out.new #[.int .i64 x] 3))
        refine hK.out _ _ hH (fun _ => ?_)
        clear hK K hHeld
        have hHeld := hH
        clear hH HX
        generalize hXA : World.alloc X _ = XA at HP HXA hHeld
        rw [putS_one, HCM.out] at HP
        refine wpAnyH_ready (rs := [6]) (by kernel_rfl) (by simp) ?_
        refine AllReadyH.cons rfl (fun K hK => ?_) AllReadyH.nil
        go_simp
        refine HP.out.mono ?_
        rintro e V6 ⟨rfl, h6, ho6⟩
        have hH : OnlyE W1 V6 (DS p q) := OnlyE.trans hHeld ho6
        have H6 := Lib.hid h6
        refine hK.out _ _ hH (fun _ => ?_)
        clear hK K hHeld HP ho6 HXA hXA
        have hHeld := hH
        clear hH
        have HH := Lib.hid (has_any h6.set x)
        rw [HIN.out] at HH
        clear h6
        refine wpAnyH_takeAt (i := 8) (d := 54) (v := ?_) rfl rfl (by kernel_rfl) (by kernel_rfl) (by kernel_rfl) (fun _ _ _ h => h) (Or.inl ⟨by rfl, ?_⟩) hHeld ?_
        rotate_left
        · (intro _ hSw; go_simp; try with_reducible rfl)
        simp only [List.setIfInBounds_toArray, List.set_cons_zero, List.set_cons_succ]
        refine wpAnyH_takeAt (i := 9) (d := 55) (v := ?_) rfl rfl (by kernel_rfl) (by kernel_rfl) (by kernel_rfl) (fun _ _ _ h => h) (Or.inl ⟨by rfl, ?_⟩) hHeld ?_
        rotate_left
        · (intro _ hSw; go_simp; try with_reducible rfl)
        simp only [List.setIfInBounds_toArray, List.set_cons_zero, List.set_cons_succ]
        refine wpAnyH_takeAt (i := 10) (d := 56) (v := ?_) rfl rfl (by kernel_rfl) (by kernel_rfl) (by kernel_rfl) (fun _ _ _ h => h) (Or.inl ⟨by rfl, ?_⟩) hHeld ?_
        rotate_left
        · (intro _ hSw; go_simp; try with_reducible rfl)
        simp only [List.setIfInBounds_toArray, List.set_cons_zero, List.set_cons_succ]
        refine wpAnyH_takeAt (i := 11) (d := 57) (v := ?_) rfl rfl (by kernel_rfl) (by kernel_rfl) (by kernel_rfl) (fun _ _ _ h => h) (Or.inl ⟨by rfl, ?_⟩) hHeld ?_
        rotate_left
        · (intro _ hSw; go_simp; try with_reducible rfl)
        simp only [List.setIfInBounds_toArray, List.set_cons_zero, List.set_cons_succ]
        refine wpAnyH_takeAt (i := 12) (d := 58) (v := ?_) rfl rfl (by kernel_rfl) (by kernel_rfl) (by kernel_rfl) (fun _ _ _ h => h) (Or.inl ⟨by rfl, ?_⟩) hHeld ?_
        rotate_left
        · (intro _ hSw; go_simp; try with_reducible rfl)
        simp only [List.setIfInBounds_toArray, List.set_cons_zero, List.set_cons_succ]
        refine wpAnyH_takeAt (i := 13) (d := 59) (v := ?_) rfl rfl (by kernel_rfl) (by kernel_rfl) (by kernel_rfl) (fun _ _ _ h => h) (Or.inl ⟨by rfl, ?_⟩) hHeld ?_
        rotate_left
        · (intro _ hSw; go_simp; try with_reducible rfl)
        simp only [List.setIfInBounds_toArray, List.set_cons_zero, List.set_cons_succ]
        refine wpAnyH_takeAt (i := 14) (d := 60) (v := ?_) rfl rfl (by kernel_rfl) (by kernel_rfl) (by kernel_rfl) (fun _ _ _ h => h) (Or.inl ⟨by rfl, ?_⟩) hHeld ?_
        rotate_left
        · (intro _ hSw; go_simp; try with_reducible rfl)
        simp only [List.setIfInBounds_toArray, List.set_cons_zero, List.set_cons_succ]
        refine wpAnyH_takeAt (i := 17) (d := 63) (v := ?_) rfl rfl (by kernel_rfl) (by kernel_rfl) (by kernel_rfl) (fun _ _ _ h => h) (Or.inl ⟨by rfl, ?_⟩) hHeld ?_
        rotate_left
        · (intro _ hSw; go_simp; try with_reducible rfl)
        simp only [List.setIfInBounds_toArray, List.set_cons_zero, List.set_cons_succ]
        refine wpAnyH_takeAt (i := 18) (d := 64) (v := ?_) rfl rfl (by kernel_rfl) (by kernel_rfl) (by kernel_rfl) (fun _ _ _ h => h) (Or.inl ⟨by rfl, ?_⟩) hHeld ?_
        rotate_left
        · (intro _ hSw; go_simp; try with_reducible rfl)
        simp only [List.setIfInBounds_toArray, List.set_cons_zero, List.set_cons_succ]
        refine wpAnyH_takeAt (i := 19) (d := 65) (v := ?_) rfl rfl (by kernel_rfl) (by kernel_rfl) (by kernel_rfl) (fun _ _ _ h => h) (Or.inl ⟨by rfl, ?_⟩) hHeld ?_
        rotate_left
        · (intro _ hSw; go_simp; try with_reducible rfl)
        simp only [List.setIfInBounds_toArray, List.set_cons_zero, List.set_cons_succ]
        refine wpAnyH_takeAt (i := 20) (d := 66) (v := ?_) rfl rfl (by kernel_rfl) (by kernel_rfl) (by kernel_rfl) (fun _ _ _ h => h) (Or.inl ⟨by rfl, ?_⟩) hHeld ?_
        rotate_left
        · (intro _ hSw; go_simp; try with_reducible rfl)
        simp only [List.setIfInBounds_toArray, List.set_cons_zero, List.set_cons_succ]
        refine wpAnyH_takeAt (i := 21) (d := 67) (v := ?_) rfl rfl (by kernel_rfl) (by kernel_rfl) (by kernel_rfl) (fun _ _ _ h => h) (Or.inl ⟨by rfl, ?_⟩) hHeld ?_
        rotate_left
        · (intro _ hSw; go_simp; try with_reducible rfl)
        simp only [List.setIfInBounds_toArray, List.set_cons_zero, List.set_cons_succ]
        refine wpAnyH_ready (rs := [15]) (by kernel_rfl) (by simp) ?_
        refine AllReadyH.cons rfl (fun K hK => ?_) AllReadyH.nil
        go_simp
        refine HH.out.mono ?_
        rintro e V7 ⟨rfl, rfl⟩
        refine hK.out _ _ hHeld (fun _ => ?_)
        clear hK K HH
        refine wpAnyH_takeAt (i := 16) (d := 62) (v := ?_) rfl rfl (by kernel_rfl) (by kernel_rfl) (by kernel_rfl) (fun _ _ _ h => h) (Or.inl ⟨by rfl, ?_⟩) hHeld ?_
        rotate_left
        · (intro _ hSw; go_simp; try with_reducible rfl)
        simp only [List.setIfInBounds_toArray, List.set_cons_zero, List.set_cons_succ]
        refine wpAnyH_takeAt (i := 22) (d := 68) (v := ?_) rfl rfl (by kernel_rfl) (by kernel_rfl) (by kernel_rfl) (fun _ _ _ h => h) (Or.inl ⟨by rfl, ?_⟩) hHeld ?_
        rotate_left
        · (intro _ hSw; go_simp; try with_reducible rfl)
        simp only [List.setIfInBounds_toArray, List.set_cons_zero, List.set_cons_succ]
        refine wpAnyH_takeAt (i := 23) (d := 69) (v := undef) rfl rfl (by kernel_rfl) (by kernel_rfl) (by kernel_rfl) (fun _ _ _ h => h) (Or.inr ⟨by rfl, rfl⟩) hHeld ?_
        simp only [List.setIfInBounds_toArray, List.set_cons_zero, List.set_cons_succ]
        refine wpAnyH_takeAt (i := 24) (d := 70) (v := undef) rfl rfl (by kernel_rfl) (by kernel_rfl) (by kernel_rfl) (fun _ _ _ h => h) (Or.inr ⟨by rfl, rfl⟩) hHeld ?_
        simp only [List.setIfInBounds_toArray, List.set_cons_zero, List.set_cons_succ]
        refine wpAnyH_takeAt (i := 25) (d := 71) (v := undef) rfl rfl (by kernel_rfl) (by kernel_rfl) (by kernel_rfl) (fun _ _ _ h => h) (Or.inr ⟨by rfl, rfl⟩) hHeld ?_
        simp only [List.setIfInBounds_toArray, List.set_cons_zero, List.set_cons_succ]
        refine wpAnyH_takeAt (i := 26) (d := 72) (v := undef) rfl rfl (by kernel_rfl) (by kernel_rfl) (by kernel_rfl) (fun _ _ _ h => h) (Or.inr ⟨by rfl, rfl⟩) hHeld ?_
        simp only [List.setIfInBounds_toArray, List.set_cons_zero, List.set_cons_succ]
        refine wpAnyH_takeAt (i := 27) (d := 73) (v := undef) rfl rfl (by kernel_rfl) (by kernel_rfl) (by kernel_rfl) (fun _ _ _ h => h) (Or.inr ⟨by rfl, rfl⟩) hHeld ?_
        simp only [List.setIfInBounds_toArray, List.set_cons_zero, List.set_cons_succ]
        refine wpAnyH_takeAt (i := 28) (d := 74) (v := undef) rfl rfl (by kernel_rfl) (by kernel_rfl) (by kernel_rfl) (fun _ _ _ h => h) (Or.inr ⟨by rfl, rfl⟩) hHeld ?_
        simp only [List.setIfInBounds_toArray, List.set_cons_zero, List.set_cons_succ]
        refine wpAnyH_takeAt (i := 29) (d := 75) (v := undef) rfl rfl (by kernel_rfl) (by kernel_rfl) (by kernel_rfl) (fun _ _ _ h => h) (Or.inr ⟨by rfl, rfl⟩) hHeld ?_
        simp only [List.setIfInBounds_toArray, List.set_cons_zero, List.set_cons_succ]
        refine wpAnyH_takeAt (i := 30) (d := 76) (v := ?_) rfl rfl (by kernel_rfl) (by kernel_rfl) (by kernel_rfl) (fun _ _ _ h => h) (Or.inl ⟨by rfl, ?_⟩) hHeld ?_
        rotate_left
        · (intro _ hSw; go_simp; try with_reducible rfl)
        simp only [List.setIfInBounds_toArray, List.set_cons_zero, List.set_cons_succ]
        refine wpAnyH_takeAt (i := 31) (d := 77) (v := ?_) rfl rfl (by kernel_rfl) (by kernel_rfl) (by kernel_rfl) (fun _ _ _ h => h) (Or.inl ⟨by rfl, ?_⟩) hHeld ?_
        rotate_left
        · (intro _ hSw; go_simp; try with_reducible rfl)
        simp only [List.setIfInBounds_toArray, List.set_cons_zero, List.set_cons_succ]
        refine wpAnyH_takeAt (i := 32) (d := 78) (v := ?_) rfl rfl (by kernel_rfl) (by kernel_rfl) (by kernel_rfl) (fun _ _ _ h => h) (Or.inl ⟨by rfl, ?_⟩) hHeld ?_
        rotate_left
        · (intro _ hSw; go_simp; try with_reducible rfl)
        simp only [List.setIfInBounds_toArray, List.set_cons_zero, List.set_cons_succ]
        refine wpAnyH_done (by kernel_rfl) ?_ _
        clear z0
        go_wp2_with fail
        have H6b := H6.out
        rw [← HNX.out] at H6b
        exact ⟨⟨k + 1, A3, c3, by omega, by go_num, rfl, H6b⟩, by simp [Lib.intOf]; omega⟩
      · obtain ⟨hv, HIN0, HD0⟩ : ∃ hv, inS (addS M x) x = hv ∧ decide ((N : Int) ≤ x) = !hv := by
          by_cases h2 : x < (N : Int)
          · exact ⟨true, inS_addS ⟨by omega, by omega⟩, by simp; omega⟩
          · exact ⟨false, by rw [addS_out (.inr (by omega))]; exact inS_out (.inr (by omega)), by simp; omega⟩
        have HIN := Lib.hid HIN0
        have d3 : decide (x < 0) = false := by simpa using hx
        have e2 : ((!hv) != (!hv)) = false := by simp
        clear hx hml HIN0
        go_wp2_with fail
        refine wp_region_held_drew (S := fun V => OnlyE W1 V (DS p q)) (by kernel_rfl) hHD (fun hHeld => ?_)
        clear hHD
        have hHeld : OnlyE W1 W1.drew (DS p q) := onlyE_drew _ _
        have HX := Lib.hid (H5.out.on (Below.refl _ _).drew)
        generalize W1.drew = X at hHeld HX ⊢
        refine wpAnyH_takeAt (i := 0) (d := 46) (v := ?_) rfl rfl (by kernel_rfl) (by kernel_rfl) (by kernel_rfl) (fun _ _ _ h => h) (Or.inl ⟨by rfl, ?_⟩) hHeld ?_
        rotate_left
        · (intro _ hSw; go_simp; try with_reducible rfl)
        simp only [List.setIfInBounds_toArray, List.set_cons_zero, List.set_cons_succ]
        refine wpAnyH_takeAt (i := 1) (d := 47) (v := ?_) rfl rfl (by kernel_rfl) (by kernel_rfl) (by kernel_rfl) (fun _ _ _ h => h) (Or.inl ⟨by rfl, ?_⟩) hHeld ?_
        rotate_left
        · (intro _ hSw; go_simp; try with_reducible rfl)
        simp only [List.setIfInBounds_toArray, List.set_cons_zero, List.set_cons_succ]
        refine wpAnyH_takeAt (i := 2) (d := 48) (v := ?_) rfl rfl (by kernel_rfl) (by kernel_rfl) (by kernel_rfl) (fun _ _ _ h => h) (Or.inl ⟨by rfl, ?_⟩) hHeld ?_
        rotate_left
        · (intro _ hSw; go_simp; try with_reducible rfl)
        simp only [List.setIfInBounds_toArray, List.set_cons_zero, List.set_cons_succ]
        refine wpAnyH_takeAt (i := 3) (d := 49) (v := ?_) rfl rfl (by kernel_rfl) (by kernel_rfl) (by kernel_rfl) (fun _ _ _ h => h) (Or.inl ⟨by rfl, ?_⟩) hHeld ?_
        rotate_left
        · (intro _ hSw; go_simp; try with_reducible rfl)
        simp only [List.setIfInBounds_toArray, List.set_cons_zero, List.set_cons_succ]
        refine wpAnyH_takeAt (i := 4) (d := 50) (v := ?_) rfl rfl (by kernel_rfl) (by kernel_rfl) (by kernel_rfl) (fun _ _ _ h => h) (Or.inl ⟨by rfl, ?_⟩) hHeld ?_
        rotate_left
        · (intro _ hSw; go_simp; try with_reducible rfl)
        simp only [List.setIfInBounds_toArray, List.set_cons_zero, List.set_cons_succ]
        refine wpAnyH_takeAt (i := 7) (d := 53) (v := ?_) rfl rfl (by kernel_rfl) (by kernel_rfl) (by kernel_rfl) (fun _ _ _ h => h) (Or.inl ⟨by rfl, ?_⟩) hHeld ?_
        rotate_left
        · (intro _ hSw; go_simp; try with_reducible rfl)
        simp only [List.setIfInBounds_toArray, List.set_cons_zero, List.set_cons_succ]
        refine wpAnyH_ready (rs := [5]) (by kernel_rfl) (by simp) ?_
        refine AllReadyH.cons rfl (fun K hK => ?_) AllReadyH.nil
        go_simp
        have hH : OnlyE W1 (X.alloc (.cells #[.int .i64 x] 3)) (DS p q) := OnlyE.trans hHeld (OnlyE.of_below ((Below.refl _ _).alloc (Nat.le_refl _) _))
        have HXA := Lib.hid (HX.out.on ((Below.refl _ _).alloc (Nat.le_refl _) (.cells #[.int .i64 x] 3)))
        have HP := Lib.hid (HXA.out.put (some ⟨X.heap.size, 0, none⟩) 1 1 [x] rfl (by decide) (HX.out.new #[.int .i64 x] 3))
        refine hK.out _ _ hH (fun _ => ?_)
        clear hK K hHeld
        have hHeld := hH
        clear hH HX
        generalize hXA : World.alloc X _ = XA at HP HXA hHeld
        rw [putS_one, HCM.out] at HP
        refine wpAnyH_ready (rs := [6]) (by kernel_rfl) (by simp) ?_
        refine AllReadyH.cons rfl (fun K hK => ?_) AllReadyH.nil
        go_simp
        refine HP.out.mono ?_
        rintro e V6 ⟨rfl, h6, ho6⟩
        have hH : OnlyE W1 V6 (DS p q) := OnlyE.trans hHeld ho6
        have H6 := Lib.hid h6
        refine hK.out _ _ hH (fun _ => ?_)
        clear hK K hHeld HP ho6 HXA hXA
        have hHeld := hH
        clear hH
        have HH := Lib.hid (has_any h6.set x)
        rw [HIN.out] at HH
        clear h6
        refine wpAnyH_takeAt (i := 8) (d := 54) (v := ?_) rfl rfl (by kernel_rfl) (by kernel_rfl) (by kernel_rfl) (fun _ _ _ h => h) (Or.inl ⟨by rfl, ?_⟩) hHeld ?_
        rotate_left
        · (intro _ hSw; go_simp; try with_reducible rfl)
        simp only [List.setIfInBounds_toArray, List.set_cons_zero, List.set_cons_succ]
        refine wpAnyH_takeAt (i := 9) (d := 55) (v := ?_) rfl rfl (by kernel_rfl) (by kernel_rfl) (by kernel_rfl) (fun _ _ _ h => h) (Or.inl ⟨by rfl, ?_⟩) hHeld ?_
        rotate_left
        · (intro _ hSw; go_simp; try with_reducible rfl)
        simp only [List.setIfInBounds_toArray, List.set_cons_zero, List.set_cons_succ]
        refine wpAnyH_takeAt (i := 10) (d := 56) (v := ?_) rfl rfl (by kernel_rfl) (by kernel_rfl) (by kernel_rfl) (fun _ _ _ h => h) (Or.inl ⟨by rfl, ?_⟩) hHeld ?_
        rotate_left
        · (intro _ hSw; go_simp; try with_reducible rfl)
        simp only [List.setIfInBounds_toArray, List.set_cons_zero, List.set_cons_succ]
        refine wpAnyH_takeAt (i := 11) (d := 57) (v := ?_) rfl rfl (by kernel_rfl) (by kernel_rfl) (by kernel_rfl) (fun _ _ _ h => h) (Or.inl ⟨by rfl, ?_⟩) hHeld ?_
        rotate_left
        · (intro _ hSw; go_simp; try with_reducible rfl)
        simp only [List.setIfInBounds_toArray, List.set_cons_zero, List.set_cons_succ]
        refine wpAnyH_takeAt (i := 12) (d := 58) (v := ?_) rfl rfl (by kernel_rfl) (by kernel_rfl) (by kernel_rfl) (fun _ _ _ h => h) (Or.inl ⟨by rfl, ?_⟩) hHeld ?_
        rotate_left
        · (intro _ hSw; go_simp; try with_reducible rfl)
        simp only [List.setIfInBounds_toArray, List.set_cons_zero, List.set_cons_succ]
        refine wpAnyH_takeAt (i := 13) (d := 59) (v := ?_) rfl rfl (by kernel_rfl) (by kernel_rfl) (by kernel_rfl) (fun _ _ _ h => h) (Or.inl ⟨by rfl, ?_⟩) hHeld ?_
        rotate_left
        · (intro _ hSw; go_simp; try with_reducible rfl)
        simp only [List.setIfInBounds_toArray, List.set_cons_zero, List.set_cons_succ]
        refine wpAnyH_takeAt (i := 14) (d := 60) (v := ?_) rfl rfl (by kernel_rfl) (by kernel_rfl) (by kernel_rfl) (fun _ _ _ h => h) (Or.inl ⟨by rfl, ?_⟩) hHeld ?_
        rotate_left
        · (intro _ hSw; go_simp; try with_reducible rfl)
        simp only [List.setIfInBounds_toArray, List.set_cons_zero, List.set_cons_succ]
        refine wpAnyH_takeAt (i := 17) (d := 63) (v := ?_) rfl rfl (by kernel_rfl) (by kernel_rfl) (by kernel_rfl) (fun _ _ _ h => h) (Or.inl ⟨by rfl, ?_⟩) hHeld ?_
        rotate_left
        · (intro _ hSw; go_simp; try with_reducible rfl)
        simp only [List.setIfInBounds_toArray, List.set_cons_zero, List.set_cons_succ]
        refine wpAnyH_takeAt (i := 18) (d := 64) (v := ?_) rfl rfl (by kernel_rfl) (by kernel_rfl) (by kernel_rfl) (fun _ _ _ h => h) (Or.inl ⟨by rfl, ?_⟩) hHeld ?_
        rotate_left
        · (intro _ hSw; go_simp; try with_reducible rfl)
        simp only [List.setIfInBounds_toArray, List.set_cons_zero, List.set_cons_succ]
        refine wpAnyH_takeAt (i := 19) (d := 65) (v := ?_) rfl rfl (by kernel_rfl) (by kernel_rfl) (by kernel_rfl) (fun _ _ _ h => h) (Or.inl ⟨by rfl, ?_⟩) hHeld ?_
        rotate_left
        · (intro _ hSw; go_simp; try with_reducible rfl)
        simp only [List.setIfInBounds_toArray, List.set_cons_zero, List.set_cons_succ]
        refine wpAnyH_takeAt (i := 20) (d := 66) (v := ?_) rfl rfl (by kernel_rfl) (by kernel_rfl) (by kernel_rfl) (fun _ _ _ h => h) (Or.inl ⟨by rfl, ?_⟩) hHeld ?_
        rotate_left
        · (intro _ hSw; go_simp; try with_reducible rfl)
        simp only [List.setIfInBounds_toArray, List.set_cons_zero, List.set_cons_succ]
        refine wpAnyH_takeAt (i := 21) (d := 67) (v := ?_) rfl rfl (by kernel_rfl) (by kernel_rfl) (by kernel_rfl) (fun _ _ _ h => h) (Or.inl ⟨by rfl, ?_⟩) hHeld ?_
        rotate_left
        · (intro _ hSw; go_simp; try with_reducible rfl)
        simp only [List.setIfInBounds_toArray, List.set_cons_zero, List.set_cons_succ]
        refine wpAnyH_ready (rs := [15]) (by kernel_rfl) (by simp) ?_
        refine AllReadyH.cons rfl (fun K hK => ?_) AllReadyH.nil
        go_simp
        refine HH.out.mono ?_
        rintro e V7 ⟨rfl, rfl⟩
        refine hK.out _ _ hHeld (fun _ => ?_)
        clear hK K HH
        refine wpAnyH_takeAt (i := 16) (d := 62) (v := ?_) rfl rfl (by kernel_rfl) (by kernel_rfl) (by kernel_rfl) (fun _ _ _ h => h) (Or.inl ⟨by rfl, ?_⟩) hHeld ?_
        rotate_left
        · (intro _ hSw; go_simp; try with_reducible rfl)
        simp only [List.setIfInBounds_toArray, List.set_cons_zero, List.set_cons_succ]
        refine wpAnyH_takeAt (i := 22) (d := 68) (v := ?_) rfl rfl (by kernel_rfl) (by kernel_rfl) (by kernel_rfl) (fun _ _ _ h => h) (Or.inl ⟨by rfl, ?_⟩) hHeld ?_
        rotate_left
        · (intro _ hSw; go_simp; try with_reducible rfl)
        simp only [List.setIfInBounds_toArray, List.set_cons_zero, List.set_cons_succ]
        refine wpAnyH_takeAt (i := 23) (d := 69) (v := ?_) rfl rfl (by kernel_rfl) (by kernel_rfl) (by kernel_rfl) (fun _ _ _ h => h) (Or.inl ⟨by rfl, ?_⟩) hHeld ?_
        rotate_left
        · (intro _ hSw; go_simp; try with_reducible rfl)
        simp only [List.setIfInBounds_toArray, List.set_cons_zero, List.set_cons_succ]
        refine wpAnyH_takeAt (i := 24) (d := 70) (v := ?_) rfl rfl (by kernel_rfl) (by kernel_rfl) (by kernel_rfl) (fun _ _ _ h => h) (Or.inl ⟨by rfl, ?_⟩) hHeld ?_
        rotate_left
        · (intro _ hSw; go_simp; try with_reducible rfl)
        simp only [List.setIfInBounds_toArray, List.set_cons_zero, List.set_cons_succ]
        refine wpAnyH_takeAt (i := 25) (d := 71) (v := ?_) rfl rfl (by kernel_rfl) (by kernel_rfl) (by kernel_rfl) (fun _ _ _ h => h) (Or.inl ⟨by rfl, ?_⟩) hHeld ?_
        rotate_left
        · (intro _ hSw; go_simp; try with_reducible rfl)
        simp only [List.setIfInBounds_toArray, List.set_cons_zero, List.set_cons_succ]
        refine wpAnyH_takeAt (i := 26) (d := 72) (v := ?_) rfl rfl (by kernel_rfl) (by kernel_rfl) (by kernel_rfl) (fun _ _ _ h => h) (Or.inl ⟨by rfl, ?_⟩) hHeld ?_
        rotate_left
        · (intro _ hSw; go_simp; try with_reducible rfl)
        simp only [List.setIfInBounds_toArray, List.set_cons_zero, List.set_cons_succ]
        refine wpAnyH_takeAt (i := 27) (d := 73) (v := ?_) rfl rfl (by kernel_rfl) (by kernel_rfl) (by kernel_rfl) (fun _ _ _ h => h) (Or.inl ⟨by rfl, ?_⟩) hHeld ?_
        rotate_left
        · (intro _ hSw; go_simp; try with_reducible rfl)
        simp only [List.setIfInBounds_toArray, List.set_cons_zero, List.set_cons_succ]
        refine wpAnyH_takeAt (i := 28) (d := 74) (v := ?_) rfl rfl (by kernel_rfl) (by kernel_rfl) (by kernel_rfl) (fun _ _ _ h => h) (Or.inl ⟨by rfl, ?_⟩) hHeld ?_
        rotate_left
        · (intro _ hSw; go_simp; try with_reducible rfl)
        simp only [List.setIfInBounds_toArray, List.set_cons_zero, List.set_cons_succ]
        refine wpAnyH_takeAt (i := 29) (d := 75) (v := ?_) rfl rfl (by kernel_rfl) (by kernel_rfl) (by kernel_rfl) (fun _ _ _ h => h) (Or.inl ⟨by rfl, ?_⟩) hHeld ?_
        rotate_left
        · (intro _ hSw; go_simp; try with_reducible rfl)
        simp only [List.setIfInBounds_toArray, List.set_cons_zero, List.set_cons_succ]
        refine wpAnyH_takeAt (i := 30) (d := 76) (v := ?_) rfl rfl (by kernel_rfl) (by kernel_rfl) (by kernel_rfl) (fun _ _ _ h => h) (Or.inl ⟨by rfl, ?_⟩) hHeld ?_
        rotate_left
        · (intro _ hSw; go_simp; try with_reducible rfl)
        simp only [List.setIfInBounds_toArray, List.set_cons_zero, List.set_cons_succ]
        refine wpAnyH_takeAt (i := 31) (d := 77) (v := ?_) rfl rfl (by kernel_rfl) (by kernel_rfl) (by kernel_rfl) (fun _ _ _ h => h) (Or.inl ⟨by rfl, ?_⟩) hHeld ?_
        rotate_left
        · (intro _ hSw; go_simp; try with_reducible rfl)
        simp only [List.setIfInBounds_toArray, List.set_cons_zero, List.set_cons_succ]
        refine wpAnyH_takeAt (i := 32) (d := 78) (v := ?_) rfl rfl (by kernel_rfl) (by kernel_rfl) (by kernel_rfl) (fun _ _ _ h => h) (Or.inl ⟨by rfl, ?_⟩) hHeld ?_
        rotate_left
        · (intro _ hSw; go_simp; try with_reducible rfl)
        simp only [List.setIfInBounds_toArray, List.set_cons_zero, List.set_cons_succ]
        refine wpAnyH_done (by kernel_rfl) ?_ _
        clear z0
        go_wp2_with fail
        have H6b := H6.out
        rw [← HNX.out] at H6b
        exact ⟨⟨k + 1, A3, c3, by omega, by go_num, rfl, H6b⟩, by simp [Lib.intOf]; omega⟩
    · obtain rfl : nl = k := by omega
      rw [show l.take nl = l from List.take_of_length_le (by have := HL.out; omega)] at H4
      generalize putS m l = M at H4
      have hlenM := H4.out.len
      have HLM := Lib.hid hlenM
      have hRC := refCount_any A' N c' H4.out.len2 (by omega) H4.out.lies
      have hHI := has_any H4.out.set pl
      have hSZ := size_any H4.out.set
      have hCN := count_any H4.out.set
      have hFL := full_any H4.out.set
      have HM1 := Lib.hid (missing_any H4.out.set (H4.out.tab HT.out) f f.toNat rfl t)
      have hcB : cntS M ≤ 2000 := by have := cnt_le M; omega
      have HROW := Lib.hid H4.out.lies
      rw [hlenM] at hSZ hFL
      generalize hC : cntS M = C at hRC hCN hFL hcB
      generalize hfb : ((C : Int) == (N : Int)) = fb at hFL
      have e1 : ((C : Int) == (C : Int)) = true := by simp
      have e2 : (fb == fb) = true := by simp
      have e3 : ((N : Int) == (N : Int)) = true := by simp
      clear hkn hlenM hC
      go_wp2_with fail
      refine hRC.mono ?_
      rintro e w' ⟨rfl, rfl⟩
      clear hRC
      by_cases hp0 : pl < 0
      · have d3 : decide (pl < 0) = true := by simpa using hp0
        have d4 : decide (0 ≤ pl) = false := by simpa using hp0
        rw [inS_out (.inl hp0)] at hHI
        clear HROW HLM
        go_wp2_with (first
          | (go_at_call 12; refine hHI.mono ?_; rintro e w' ⟨rfl, rfl⟩)
          | (go_at_call 14; refine hSZ.mono ?_; rintro e w' ⟨rfl, rfl⟩)
          | (go_at_call 15; refine hCN.mono ?_; rintro e w' ⟨rfl, rfl⟩)
          | (go_at_call 16; refine hFL.mono ?_; rintro e w' ⟨rfl, rfl⟩))
        refine HM1.out.mono ?_
        rintro e w5 ⟨A5, n5, c5, rfl, hn5, hc5, hm5, ho5, hb5⟩
        have H5 := Lib.hid (H4.out.on hb5)
        have HL5 := Lib.hid (Lies.of_own ho5)
        have HM2 := Lib.hid (refMissing_any _ N c' H5.out.len2 (by omega) H5.out.lies f t _ rfl)
        clear hHI hSZ hCN hFL ho5 hb5 HM1 H4
        go_wp2_with fail
        refine HM2.out.mono ?_
        rintro e w6 ⟨A6, n6, c6, rfl, hn6, hc6, hm6, ho6, hb6⟩
        obtain rfl : n5 = n6 := hn5.out.symm.trans hn6.out
        have H6 := Lib.hid (H5.out.on hb6)
        have hlen : n5 ≤ 2000 := by have := miss_lenM M f.toNat t; have := H5.out.len; have := hn5.out; omega
        have HSM := Lib.hid (refSame_any A5 A6 n5 c5 c6 _ hn5.out hlen (HL5.out.on hb6) (Lies.of_own ho6))
        clear ho6 hb6 HM2 H5 HL5 hn6 hlen
        go_wp2_with fail
        refine HSM.out.mono ?_
        rintro e w7 ⟨rfl, hb7⟩
        have H7 := Lib.hid (H6.out.on hb7)
        have HAW := Lib.hid (awake_any w7 (H7.out.tab HT.out))
        clear hb7 HSM H6
        go_wp2_with fail
        refine HAW.out.mono ?_
        rintro e w8 ⟨rfl, hb8⟩
        have H8 := Lib.hid (H7.out.on hb8)
        clear hb8 HAW H7
        go_wp2_with fail
        go_ret
        exact ⟨rfl, H8.out.below⟩
      · by_cases hpN : pl < (N : Int)
        · obtain ⟨kp, rfl⟩ := Int.eq_ofNat_of_zero_le (Int.not_lt.1 hp0)
          have hkp : kp < M.length := by have := HLM.out; omega
          obtain ⟨b, off, eA, hlt, hc⟩ := HROW.out.at_ (bls_at hkp)
          subst eA
          rw [show inS M ((kp : Nat) : Int) = M.getD kp false from inS_nat M kp] at hHI
          generalize M.getD kp false = hv at hHI hc
          have e4 : (hv == hv) = true := by simp
          have d3 : decide ((kp : Int) < 0) = false := by simp
          have hkN : kp < N := by omega
          clear hp0 hpN hkp hlt HLM HROW
          go_wp2_with (first
            | (go_at_call 12; refine hHI.mono ?_; rintro e w' ⟨rfl, rfl⟩)
            | (go_at_call 14; refine hSZ.mono ?_; rintro e w' ⟨rfl, rfl⟩)
            | (go_at_call 15; refine hCN.mono ?_; rintro e w' ⟨rfl, rfl⟩)
            | (go_at_call 16; refine hFL.mono ?_; rintro e w' ⟨rfl, rfl⟩))
          refine HM1.out.mono ?_
          rintro e w5 ⟨A5, n5, c5, rfl, hn5, hc5, hm5, ho5, hb5⟩
          have H5 := Lib.hid (H4.out.on hb5)
          have HL5 := Lib.hid (Lies.of_own ho5)
          have HM2 := Lib.hid (refMissing_any _ N c' H5.out.len2 (by omega) H5.out.lies f t _ rfl)
          clear hHI hSZ hCN hFL ho5 hb5 HM1 H4
          go_wp2_with fail
          refine HM2.out.mono ?_
          rintro e w6 ⟨A6, n6, c6, rfl, hn6, hc6, hm6, ho6, hb6⟩
          obtain rfl : n5 = n6 := hn5.out.symm.trans hn6.out
          have H6 := Lib.hid (H5.out.on hb6)
          have hlen : n5 ≤ 2000 := by have := miss_lenM M f.toNat t; have := H5.out.len; have := hn5.out; omega
          have HSM := Lib.hid (refSame_any A5 A6 n5 c5 c6 _ hn5.out hlen (HL5.out.on hb6) (Lies.of_own ho6))
          clear ho6 hb6 HM2 H5 HL5 hn6 hlen
          go_wp2_with fail
          refine HSM.out.mono ?_
          rintro e w7 ⟨rfl, hb7⟩
          have H7 := Lib.hid (H6.out.on hb7)
          have HAW := Lib.hid (awake_any w7 (H7.out.tab HT.out))
          clear hb7 HSM H6
          go_wp2_with fail
          refine HAW.out.mono ?_
          rintro e w8 ⟨rfl, hb8⟩
          have H8 := Lib.hid (H7.out.on hb8)
          clear hb8 HAW H7
          go_wp2_with fail
          go_ret
          exact ⟨rfl, H8.out.below⟩
        · have d3 : decide (0 ≤ pl) = true := by simp; omega
          have d5 : decide (pl < 0) = false := by simpa using hp0
          have d6 : 0 ≤ pl := by omega
          have d4 : decide (pl < (N : Int)) = false := by simpa using hpN
          have ho := inS_out (m := M) (i := pl) (.inr (by have := HLM.out; omega))
          rw [ho] at hHI
          clear ho HROW HLM
          go_wp2_with (first
            | (go_at_call 12; refine hHI.mono ?_; rintro e w' ⟨rfl, rfl⟩)
            | (go_at_call 14; refine hSZ.mono ?_; rintro e w' ⟨rfl, rfl⟩)
            | (go_at_call 15; refine hCN.mono ?_; rintro e w' ⟨rfl, rfl⟩)
            | (go_at_call 16; refine hFL.mono ?_; rintro e w' ⟨rfl, rfl⟩))
          refine HM1.out.mono ?_
          rintro e w5 ⟨A5, n5, c5, rfl, hn5, hc5, hm5, ho5, hb5⟩
          have H5 := Lib.hid (H4.out.on hb5)
          have HL5 := Lib.hid (Lies.of_own ho5)
          have HM2 := Lib.hid (refMissing_any _ N c' H5.out.len2 (by omega) H5.out.lies f t _ rfl)
          clear hHI hSZ hCN hFL ho5 hb5 HM1 H4
          go_wp2_with fail
          refine HM2.out.mono ?_
          rintro e w6 ⟨A6, n6, c6, rfl, hn6, hc6, hm6, ho6, hb6⟩
          obtain rfl : n5 = n6 := hn5.out.symm.trans hn6.out
          have H6 := Lib.hid (H5.out.on hb6)
          have hlen : n5 ≤ 2000 := by have := miss_lenM M f.toNat t; have := H5.out.len; have := hn5.out; omega
          have HSM := Lib.hid (refSame_any A5 A6 n5 c5 c6 _ hn5.out hlen (HL5.out.on hb6) (Lies.of_own ho6))
          clear ho6 hb6 HM2 H5 HL5 hn6 hlen
          go_wp2_with fail
          refine HSM.out.mono ?_
          rintro e w7 ⟨rfl, hb7⟩
          have H7 := Lib.hid (H6.out.on hb7)
          have HAW := Lib.hid (awake_any w7 (H7.out.tab HT.out))
          clear hb7 HSM H6
          go_wp2_with fail
          refine HAW.out.mono ?_
          rintro e w8 ⟨rfl, hb8⟩
          have H8 := Lib.hid (H7.out.on hb8)
          clear hb8 HAW H7
          go_wp2_with fail
          go_ret
          exact ⟨rfl, H8.out.below⟩

/-! ### The frame -/
theorem bitsPlays_reads (os : Os) {H : Type} (enc : TypeId × Value → H) : ∃ places, DataW.whole enc Tryd.prog ((laidWorld os).forCall (fun _ _ => 0) ⟨#[], #[.int .i64 0, .slice none 0 0, .int .i64 0, .int .i64 0, .int .i64 0], []⟩).memory Tryd.f3.params.toList Rows.bitsPlaysSpec.vars false #[.int .i64 0, .slice none 0 0, .int .i64 0, .int .i64 0, .int .i64 0].toList 8 = some ([.lit (.int .i64 0), .nil, .lit (.int .i64 0), .lit (.int .i64 0), .lit (.int .i64 0)], [], places) :=
  ⟨[], by kernel_rfl⟩
theorem bitsPlays_laid (os : Os) : laidMet Tryd.prog Rows.bitsPlaysRow.laid ((laidWorld os).forCall (fun _ _ => 0) ⟨#[], #[.int .i64 0, .slice none 0 0, .int .i64 0, .int .i64 0, .int .i64 0], []⟩).memory :=
  laidMet_of_run' 8 (by kernel_rfl) (by kernel_rfl)

set_option maxRecDepth 100000 in
theorem bitsPlays_contract (H : Type) (enc : TypeId × Value → H) (W : World) (base : Nat) (args : Array Value) (ds gs : List (DataW H)) (before : List MemPlace)
    (hval : ∀ (j : Nat) t v, Tryd.f3.params[j]? = some t → args[j]? = some v → Value.okWide Tryd.prog W .any base t v)
    (hW : DataW.Whole enc Tryd.prog Tryd.f3.params.toList Rows.bitsPlaysSpec.vars false W args.toList ds gs before) (hL : laidMetH Tryd.prog Rows.bitsPlaysRow.laid W) :
    Calls Tryd.prog 3 args W fun e W' => ∃ v, e = .returned v ∧ Rows.bitsPlaysSpec.post enc Tryd.prog Tryd.f3 false true false false W args v W' := by
  have hT : Tab W := tab_of hL
  have hW' := hW
  obtain ⟨p, q, hA0, hV, rfl, _, _⟩ := hW
  have hA : DataW.TrodAll enc Tryd.prog W 0 (fun _ => true) true Tryd.f3.params.toList args.toList ds p := hA0
  rw [Tryd.params3] at hA hval
  obtain ⟨v0, vs0, d0, ds0, p0, q0, hargs, rfl, rfl, h0, r0⟩ := trodAll_cons hA
  obtain ⟨v1, vs1, d1, ds1, p1, q1, rfl, rfl, rfl, h1, r1⟩ := trodAll_cons r0
  obtain ⟨v2, vs2, d2, ds2, p2, q2, rfl, rfl, rfl, h2, r2⟩ := trodAll_cons r1
  obtain ⟨v3, vs3, d3, ds3, p3, q3, rfl, rfl, rfl, h3, r3⟩ := trodAll_cons r2
  obtain ⟨v4, vs4, d4, ds4, p4, q4, rfl, rfl, rfl, h4, r4⟩ := trodAll_cons r3
  obtain ⟨rfl, rfl, rfl⟩ := trodAll_nil r4
  obtain rfl : args = #[v0, v1, v2, v3, v4] := by cases args; simp_all
  obtain ⟨rfl, rfl⟩ := trodVars_none hV
  have k0 := h0
  have lt0 : ∀ x ∈ p0, x.block < W.heap.size := by obtain ⟨m, hm⟩ := k0; exact DataW.trod_lt m _ _ _ hm
  have k1 := h1
  have lt1 : ∀ x ∈ p1, x.block < W.heap.size := by obtain ⟨m, hm⟩ := k1; exact DataW.trod_lt m _ _ _ hm
  have k2 := h2
  have lt2 : ∀ x ∈ p2, x.block < W.heap.size := by obtain ⟨m, hm⟩ := k2; exact DataW.trod_lt m _ _ _ hm
  have k3 := h3
  have lt3 : ∀ x ∈ p3, x.block < W.heap.size := by obtain ⟨m, hm⟩ := k3; exact DataW.trod_lt m _ _ _ hm
  have k4 := h4
  have lt4 : ∀ x ∈ p4, x.block < W.heap.size := by obtain ⟨m, hm⟩ := k4; exact DataW.trod_lt m _ _ _ hm
  obtain ⟨a0, rfl, _, _, _⟩ := open_int Tryd.underlying3 (hval 0 3 v0 rfl rfl) h0
  obtain ⟨a2, rfl, _, _, _⟩ := open_int Tryd.underlying3 (hval 2 3 v2 rfl rfl) h2
  obtain ⟨a3, rfl, _, _, _⟩ := open_int Tryd.underlying3 (hval 3 3 v3 rfl rfl) h3
  obtain ⟨a4, rfl, _, _, _⟩ := open_int Tryd.underlying3 (hval 4 3 v4 rfl rfl) h4
  have hwalk : Calls Tryd.prog 3 #[.int .i64 a0, v1, .int .i64 a2, .int .i64 a3, .int .i64 a4] W fun e w' => e = .returned (.bool true) ∧ Below W.heap.size W w' := by
    obtain ⟨a1, len1, cap1, rfl⟩ := okWide_slice Tryd.underlying22 (hval 1 22 v1 rfl rfl)
    obtain ⟨fuel1, hf1⟩ := h1
    obtain ⟨l, A, n, c, hv, hl, _, _, hL⟩ := open_zs Tryd.underlying22 Tryd.underlying3 (by kernel_rfl) (by simpa [Value.cells] using hf1)
    injection hv with e1 e2 e3
    subst e1 e2 e3
    by_cases hg : 200 < len1 ∨ 300 < a0
    · exact bitsPlays_great a0 a1 len1 cap1 a2 a3 a4 W hT hg
    · exact bitsPlays_walk a0 a1 len1 cap1 l a2 a3 a4 W hl hL hT (by omega) (by omega)
  clear hA0 hL
  refine hwalk.mono fun e W' ⟨he, bel⟩ => ?_
  subst he
  exact ⟨_, rfl, _, _, _, [], _, [], hW', trodAll_mk1 (shut_bool Tryd.underlying4 _), (trodAll_cons_mk (Below.trod laidOut (by kernel_rfl) (of_decide_eq_true (by kernel_rfl)) k0 bel lt0) (trodAll_cons_mk (Below.trod laidOut (by kernel_rfl) (of_decide_eq_true (by kernel_rfl)) k1 bel lt1) (trodAll_cons_mk (Below.trod laidOut (by kernel_rfl) (of_decide_eq_true (by kernel_rfl)) k2 bel lt2) (trodAll_cons_mk (Below.trod laidOut (by kernel_rfl) (of_decide_eq_true (by kernel_rfl)) k3 bel lt3) (trodAll_cons_mk (Below.trod laidOut (by kernel_rfl) (of_decide_eq_true (by kernel_rfl)) k4 bel lt4) trodAll_mk0))))), rfl, bel.frame _, fun h => by cases h⟩

set_option maxRecDepth 100000 in
theorem bitsPlays_lifted (os : Os) (started : os.Started) (H : Type) (enc : TypeId × Value → H) (F : Stop.Interp) :
    ReturnsInHanded {} Tryd.checked os 3 .any ((OpenSpec.ofChange Rows.bitsPlaysSpec).preRow enc Tryd.prog Tryd.f3 Rows.bitsPlaysRow.domain false Rows.bitsPlaysRow.laid) (((OpenSpec.ofChange Rows.bitsPlaysSpec).at F).post enc Tryd.prog Tryd.f3 false true false false) := by
  obtain ⟨places, hx⟩ := bitsPlays_reads os enc
  refine returnsInHanded_of_row (C := Tryd.checked) (s := OpenSpec.ofChange Rows.bitsPlaysSpec) own started (by kernel_rfl) Tryd.func3
    (witness_row_at (enc := enc) (C := Tryd.checked) false (laidWorld os) #[.int .i64 0, .slice none 0 0, .int .i64 0, .int .i64 0, .int .i64 0] rfl (by kernel_rfl) (by kernel_rfl) (by kernel_rfl)
      (OpenSpec.preRow_of_cond 8 hx (by kernel_rfl) (fun k hk => by cases hk) (by kernel_rfl) (bitsPlays_laid os))) ?_
  intro W base args ds gs before hval hW _ _ _ hL _ _
  exact bitsPlays_contract H enc W base args ds gs before hval hW hL

theorem bitsPlays_said : Rows.BitsPlaysSaid :=
  OpenClaim.holds_of_cond 3 Tryd.f3 rfl rfl rfl rfl rfl rfl rfl ⟨rfl, rfl, rfl, rfl, rfl⟩ rfl rfl rfl rfl rfl (by kernel_rfl) Tryd.func3 (by kernel_rfl)
    (of_decide_eq_true (by kernel_rfl)) (by unfold Func.isWrapper; first | (rw [if_pos (by decide +kernel)]; kernel_rfl) | (rw [if_neg (by decide +kernel)]; exact ⟨rfl, rfl⟩))
    (fun os started H enc _ F => by rw [OpenClaim.pre_eq_preRow]; exact bitsPlays_lifted os started H enc F)

theorem bitsPlays_plain (f : FuncId) (fn : Func) (hf : Tryd.pinned.checked.prog.funcNamed "unison/unisonlaw11.BitsPlays" = some f) (hfn : Tryd.pinned.checked.prog.funcs[f]? = some fn) :
    false = Tryd.pinned.checked.prog.looks [] ∧ ∀ (j : Nat) t, fn.params[j]? = some t → Tryd.pinned.checked.prog.wantsStandIn t = false := by
  obtain rfl : f = 3 := Option.some.inj ((show Tryd.prog.funcNamed "unison/unisonlaw11.BitsPlays" = some 3 by kernel_rfl).symm.trans hf) |>.symm
  obtain rfl : fn = Tryd.f3 := (Option.some.inj (Tryd.func3.symm.trans hfn)).symm
  refine ⟨by kernel_rfl, fun j t ht => ?_⟩
  rw [Tryd.params3] at ht
  have hm := Array.mem_of_getElem? ht
  have hs : t = 3 ∨ t = 22 ∨ t = 3 ∨ t = 3 ∨ t = 3 := by simpa using hm
  clear hm ht
  rcases hs with rfl | rfl | rfl | rfl | rfl
  · exact (show Tryd.prog.wantsStandIn 3 = false by kernel_rfl)
  · exact (show Tryd.prog.wantsStandIn 22 = false by kernel_rfl)
  · exact (show Tryd.prog.wantsStandIn 3 = false by kernel_rfl)
  · exact (show Tryd.prog.wantsStandIn 3 = false by kernel_rfl)
  · exact (show Tryd.prog.wantsStandIn 3 = false by kernel_rfl)

theorem bitsPlays_proved : Rows.BitsPlaysCardSaid :=
  Claim7.holds_tied_plain_at .later [] _ _ _ _ bitsPlays_said (fun _ h => by cases h) (by kernel_rfl) (fun _ h => by cases h) bitsPlays_row_tie rfl ⟨rfl, rfl⟩ (by kernel_rfl) rfl bitsPlays_plain (by kernel_rfl)

end Go.Proofs.YtjkolneonhfjnaaDoor
