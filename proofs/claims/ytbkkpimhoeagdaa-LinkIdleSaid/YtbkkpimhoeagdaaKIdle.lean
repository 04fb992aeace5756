/- LinkIdle: for every width, every span, every list of ticks and every number the call returns true (on a link on which nothing was sent, and nothing came, nothing goes out, whenever it is asked; word of what came goes out once), and changes nothing that was there. No conditions. -/
import Derived.Test.YtbkkpimhoeagdaaLkI
import Derived.ChangeOld
namespace Go.Proofs.Ytbkkpimhoeagdaa
open Go.ChangeShapes Go.WideShapes Go.ChangeAt Go.RowKit

set_option maxRecDepth 20000 in
theorem lcome_ch {w : World} {base p pw pg : Nat} {T : Value} {l : List Pf} {s : Ls} {D : Nat → Prop} (h : LinkB w base p pw pg T l s D) (hI : s.Idle) (n : Nat) (hn : n < 18446744073709551616) :
    Calls Try.prog 16 #[.pointer (some ⟨p, 0, none⟩), .agg #[.int .u8 1, .int .u8 1, .int .u8 0, .int .u8 0, .int .u64 0, .int .u64 (n : Int), .int .u32 0, .int .u32 0, .int .u32 0, .int .u64 0, .int .u64 0, .slice none 0 0, .slice none 0 0, .slice none 0 0, .slice none 0 0, .slice none 0 0]] w fun e w' =>
      (∃ v, e = .returned v) ∧ LkDn w base p pw pg T l D { s with g := s.g.step n } w' := by
  have h1 := lcome_any h (chP n) (chP_X _ _ _) (chF_ok hn) (by rw [hI.g]; decide)
  rw [show s.come (chP n).F = { s with g := s.g.step n } from hI.come n] at h1
  refine h1.mono ?_
  rintro e w' ⟨y, rfl, -, -, h2⟩
  exact ⟨⟨_, rfl⟩, h2⟩

set_option maxRecDepth 20000 in
set_option maxHeartbeats 3200000 in
theorem linkIdle_walk (r again : Int) (A : Option Addr) (n c : Nat) (l : List Int) (sq : Nat) (w : World) (hl : l.length = n) (hn : n ≤ 100) (hA : Lies w w.heap.size A (i64vs l)) (hs : sq < 18446744073709551616) (h1 : -9223372036854775808 ≤ r) (h2 : r ≤ 9223372036854775807) (h3 : -9223372036854775808 ≤ again) (h4 : again ≤ 9223372036854775807) :
    Calls Try.prog 7 #[.int .i64 r, .int .i64 again, .slice A n c, .int .u64 (sq : Int)] w fun e w' => e = .returned (.bool true) ∧ Below w.heap.size w w' := by
  have hd : decide (100 < (n : Int)) = false := by simp; omega
  have HL := Lib.hid hl
  have HA := Lib.hid hA
  have HSQ := Lib.hid hs
  have hN := link_new 0 1 r again w w.heap.size (fun _ => False) (Nat.le_refl _) (fun _ h => h.elim) h1 h2 h3 h4 (by decide) (by decide)
  clear hl hA hs h1 h2 h3 h4
  go_enter Try.func7, Try.ntmps7
  go_wp2_with fail
  refine hN.mono ?_
  rintro e w1 ⟨p, pw, pg, rfl, hL, hb1, -, -, -⟩
  have HI : Hid (IdleAt w p pw pg w1) := ⟨_, _, _, _, hL, idle_new _ _, hb1⟩
  clear hN hL hb1
  go_wp2_with fail
  go_loopw [10] (fun i wr => ∃ k : Nat, k ≤ n ∧ i = .int .i64 k ∧ IdleAt w p pw pg wr) (fun i _ => n - (intOf i).toNat)
  case atStart => exact ⟨0, Nat.zero_le _, rfl, HI.out⟩
  case round =>
    clear HI
    obtain ⟨k, hk, rfl, T, l1, s, D, hL, hI, hb⟩ := hrel
    by_cases hlt : k < n
    · have hkl : k < l.length := by rw [HL.out]; exact hlt
      obtain ⟨b, off, rfl, hbw, hc⟩ := (HA.out.below hb).at_ (i64vs_at hkl)
      have HL1 := Lib.hid hL
      have HI1 := Lib.hid hI
      have HB1 := Lib.hid hb
      generalize l[k] = z at hc
      clear hL hI hb hkl
      go_wp2_with fail
      refine (lout_any HL1.out z).mono ?_
      rintro e w2 ⟨A2, n2, c2, rfl, hn2, -, hI2⟩
      rw [HI1.out.outF] at hn2
      obtain rfl : 0 = n2 := hn2.out
      have HN : Hid (IdleAt w p pw pg w2) := ⟨_, _, _, _, hI2.1, HI1.out.outS z, HB1.out.trans (HL1.out.below hI2.2)⟩
      clear hI2 hn2 hc
      go_wp2
      go_roundw
      case rel => exact ⟨k + 1, by omega, by go_num, HN.out⟩
      case measure => simp [intOf]; omega
    · obtain rfl : k = n := by omega
      have HL1 := Lib.hid hL
      have HI1 := Lib.hid hI
      have HB1 := Lib.hid hb
      clear hL hI hb hlt
      go_wp2_with fail
      refine (lcome_ch HL1.out HI1.out sq HSQ.out).mono ?_
      rintro e w2 ⟨⟨v, rfl⟩, T2, j, hL2, hO2, -⟩
      have HL2 := Lib.hid hL2
      have HB2 : Hid (Below w.heap.size w w2) := HB1.out.trans (HL1.out.below hO2)
      clear hL2 hO2
      go_wp2_with fail
      refine (lout_any HL2.out 5).mono ?_
      rintro e w3 ⟨A3, n3, c3, rfl, hn3, hO3, hI3⟩
      rw [HI1.out.word] at hn3 hO3
      obtain rfl : 1 = n3 := hn3.out
      obtain ⟨g, y, rfl, hy, -, hg1, hg2, hr⟩ := hO3.at_ 0 (by simp)
      have q1 := range_kind hr
      have q2 := range_seq hr
      rw [hy] at q1 q2
      have HQ1 : Hid (w3.cell? ⟨g, 0, none⟩ = some (.int .u8 2)) := q1
      have HQ2 : Hid (w3.cell? ⟨g, 5, none⟩ = some (.int .u64 ((s.g.step sq).u : Int))) := q2
      have HL3 := Lib.hid hI3.1
      have HB3 : Hid (Below w.heap.size w w3) := HB2.out.trans (HL2.out.below hI3.2)
      have HGL : Hid (∀ b, LD p pw pg T2 b → b < g) := fun b hb => Nat.lt_of_lt_of_le (HL2.out.ldlt hb) hg1
      clear hn3 hO3 hI3 hr hy hg1 q1 q2
      go_upto_region 11 with fail
      have HUP : Hid (∀ V, Below w3.heap.size w3 V → Calls Try.prog 23 #[.pointer (some ⟨p, 0, none⟩)] V fun e w' => e = .returned (.int .u64 ((s.g.step sq).u : Int)) ∧ w' = V) := fun V hV => lupto_any (HL3.out.on hV)
      have HOU : Hid (∀ V, Below w3.heap.size w3 V → Calls Try.prog 20 #[.pointer (some ⟨p, 0, none⟩), .int .i64 6] V fun e w' => (∃ A c, e = .returned (.slice A 0 c)) ∧ OnlyE V w' (LD p pw pg T2)) := fun V hV => by
        refine (lout_any (HL3.out.on hV) 6).mono ?_
        rintro e w4 ⟨A4, n4, c4, rfl, hn4, -, hI4⟩
        rw [HI1.out.after] at hn4
        obtain rfl : 0 = n4 := hn4.out
        exact ⟨⟨_, _, rfl⟩, hI4.2⟩
      have HBL : Hid (∀ V V', Below w3.heap.size w3 V → OnlyE V V' (LD p pw pg T2) → Below w.heap.size w V') := fun V V' hV ho => HB3.out.trans ((hV.mono HB3.out.size).trans ((HL3.out.on hV).below ho))
      generalize (s.g.step sq).u = uu at HQ2 HUP
      have hg3 : g < w3.heap.size := hg2
      clear hg2
      have hHeld : TwoL ⟨g, 0, none⟩ (.int .u8 2) ⟨g, 5, none⟩ (.int .u64 (uu : Int)) w3.drew := ⟨HQ1.out, HQ2.out⟩
      have hBX : Below w3.heap.size w3 w3.drew := (Below.refl _ _).drew
      refine wp_region_held_drew (S := TwoL ⟨g, 0, none⟩ (.int .u8 2) ⟨g, 5, none⟩ (.int .u64 (uu : Int))) (by kernel_rfl) hHeld (fun hHeld => ?_)
      generalize w3.drew = X0 at hHeld hBX ⊢
      refine wpAnyH_takeAt (i := 0) (d := 40) (v := ?_) rfl rfl (by kernel_rfl) (by kernel_rfl) (by kernel_rfl) (fun _ _ _ h => h) (Or.inl ⟨by rfl, ?_⟩) hHeld ?_
      rotate_left
      · (intro _ hSw; go_simp; try with_reducible rfl)
      simp only [List.setIfInBounds_toArray, List.set_cons_zero, List.set_cons_succ]
      refine wpAnyH_takeAt (i := 1) (d := 41) (v := ?_) rfl rfl (by kernel_rfl) (by kernel_rfl) (by kernel_rfl) (fun _ _ _ h => h) (Or.inl ⟨by rfl, ?_⟩) hHeld ?_
      rotate_left
      · (intro _ hSw; go_simp; try with_reducible rfl)
      simp only [List.setIfInBounds_toArray, List.set_cons_zero, List.set_cons_succ]
      refine wpAnyH_takeAt (i := 2) (d := 42) (v := ?_) rfl rfl (by kernel_rfl) (by kernel_rfl) (by kernel_rfl) (fun _ _ _ h => h) (Or.inl ⟨by rfl, ?_⟩) hHeld ?_
      rotate_left
      · (intro _ hSw; go_simp; try with_reducible rfl)
      simp only [List.setIfInBounds_toArray, List.set_cons_zero, List.set_cons_succ]
      refine wpAnyH_takeAt (i := 3) (d := 43) (v := ?_) rfl rfl (by kernel_rfl) (by kernel_rfl) (by kernel_rfl) (fun _ _ _ h => h) (Or.inl ⟨by rfl, ?_⟩) hHeld ?_
      rotate_left
      · (intro _ hSw; go_simp; try with_reducible rfl)
      simp only [List.setIfInBounds_toArray, List.set_cons_zero, List.set_cons_succ]
      refine wpAnyH_takeAt (i := 4) (d := 44) (v := ?_) rfl rfl (by kernel_rfl) (by kernel_rfl) (by kernel_rfl) (fun _ _ _ h => h) (Or.inl ⟨by rfl, ?_⟩) hHeld ?_
      rotate_left
      · (intro _ hSw; go_simp; try with_reducible rfl)
      simp only [List.setIfInBounds_toArray, List.set_cons_zero, List.set_cons_succ]
      refine wpAnyH_takeAt (i := 5) (d := 45) (v := ?_) rfl rfl (by kernel_rfl) (by kernel_rfl) (by kernel_rfl) (fun _ _ _ h => h) (Or.inl ⟨by rfl, ?_⟩) hHeld ?_
      rotate_left
      · (intro _ hSw; go_simp; try with_reducible rfl)
      simp only [List.setIfInBounds_toArray, List.set_cons_zero, List.set_cons_succ]
      refine wpAnyH_takeAt (i := 6) (d := 46) (v := ?_) rfl rfl (by kernel_rfl) (by kernel_rfl) (by kernel_rfl) (fun _ _ _ h => h) (Or.inl ⟨by rfl, ?_⟩) hHeld ?_
      rotate_left
      · (intro _ hSw; go_simp; try with_reducible rfl)
      simp only [List.setIfInBounds_toArray, List.set_cons_zero, List.set_cons_succ]
      refine wpAnyH_takeAt (i := 7) (d := 47) (v := ?_) rfl rfl (by kernel_rfl) (by kernel_rfl) (by kernel_rfl) (fun _ _ _ h => h) (Or.inl ⟨by rfl, ?_⟩) hHeld ?_
      rotate_left
      · (intro _ hSw; go_simp; try with_reducible rfl)
      simp only [List.setIfInBounds_toArray, List.set_cons_zero, List.set_cons_succ]
      refine wpAnyH_takeAt (i := 8) (d := 48) (v := ?_) rfl rfl (by kernel_rfl) (by kernel_rfl) (by kernel_rfl) (fun _ _ _ h => h) (Or.inl ⟨by rfl, ?_⟩) hHeld ?_
      rotate_left
      · (intro _ hSw; have y1 := hSw.1; go_simp; try with_reducible rfl)
      simp only [List.setIfInBounds_toArray, List.set_cons_zero, List.set_cons_succ]
      refine wpAnyH_takeAt (i := 9) (d := 49) (v := ?_) rfl rfl (by kernel_rfl) (by kernel_rfl) (by kernel_rfl) (fun _ _ _ h => h) (Or.inl ⟨by rfl, ?_⟩) hHeld ?_
      rotate_left
      · (intro _ hSw; go_simp; try with_reducible rfl)
      simp only [List.setIfInBounds_toArray, List.set_cons_zero, List.set_cons_succ]
      refine wpAnyH_takeAt (i := 10) (d := 50) (v := ?_) rfl rfl (by kernel_rfl) (by kernel_rfl) (by kernel_rfl) (fun _ _ _ h => h) (Or.inl ⟨by rfl, ?_⟩) hHeld ?_
      rotate_left
      · (intro _ hSw; go_simp; try with_reducible rfl)
      simp only [List.setIfInBounds_toArray, List.set_cons_zero, List.set_cons_succ]
      refine wpAnyH_takeAt (i := 11) (d := 51) (v := ?_) rfl rfl (by kernel_rfl) (by kernel_rfl) (by kernel_rfl) (fun _ _ _ h => h) (Or.inl ⟨by rfl, ?_⟩) hHeld ?_
      rotate_left
      · (intro _ hSw; go_simp; try with_reducible rfl)
      simp only [List.setIfInBounds_toArray, List.set_cons_zero, List.set_cons_succ]
      refine wpAnyH_takeAt (i := 12) (d := 52) (v := ?_) rfl rfl (by kernel_rfl) (by kernel_rfl) (by kernel_rfl) (fun _ _ _ h => h) (Or.inl ⟨by rfl, ?_⟩) hHeld ?_
      rotate_left
      · (intro _ hSw; go_simp; try with_reducible rfl)
      simp only [List.setIfInBounds_toArray, List.set_cons_zero, List.set_cons_succ]
      refine wpAnyH_takeAt (i := 13) (d := 53) (v := ?_) rfl rfl (by kernel_rfl) (by kernel_rfl) (by kernel_rfl) (fun _ _ _ h => h) (Or.inl ⟨by rfl, ?_⟩) hHeld ?_
      rotate_left
      · (intro _ hSw; go_simp; try with_reducible rfl)
      simp only [List.setIfInBounds_toArray, List.set_cons_zero, List.set_cons_succ]
      refine wpAnyH_takeAt (i := 14) (d := 54) (v := ?_) rfl rfl (by kernel_rfl) (by kernel_rfl) (by kernel_rfl) (fun _ _ _ h => h) (Or.inl ⟨by rfl, ?_⟩) hHeld ?_
      rotate_left
      · (intro _ hSw; go_simp; try with_reducible rfl)
      simp only [List.setIfInBounds_toArray, List.set_cons_zero, List.set_cons_succ]
      refine wpAnyH_takeAt (i := 15) (d := 55) (v := ?_) rfl rfl (by kernel_rfl) (by kernel_rfl) (by kernel_rfl) (fun _ _ _ h => h) (Or.inl ⟨by rfl, ?_⟩) hHeld ?_
      rotate_left
      · (intro _ hSw; have y1 := hSw.2; go_simp; try with_reducible rfl)
      simp only [List.setIfInBounds_toArray, List.set_cons_zero, List.set_cons_succ]
      refine wpAnyH_takeAt (i := 16) (d := 56) (v := ?_) rfl rfl (by kernel_rfl) (by kernel_rfl) (by kernel_rfl) (fun _ _ _ h => h) (Or.inl ⟨by rfl, ?_⟩) hHeld ?_
      rotate_left
      · (intro _ hSw; go_simp; try with_reducible rfl)
      simp only [List.setIfInBounds_toArray, List.set_cons_zero, List.set_cons_succ]
      refine wpAnyH_ready (rs := [17]) (by kernel_rfl) (by simp) ?_
      refine AllReadyH.cons rfl (fun K hK => ?_) AllReadyH.nil
      go_simp
      refine (HUP.out _ hBX).mono ?_
      rintro e V' ⟨rfl, he⟩
      subst he
      refine hK.out _ _ hHeld (fun _ => ?_)
      clear hK K
      refine wpAnyH_takeAt (i := 18) (d := 58) (v := ?_) rfl rfl (by kernel_rfl) (by kernel_rfl) (by kernel_rfl) (fun _ _ _ h => h) (Or.inl ⟨by rfl, ?_⟩) hHeld ?_
      rotate_left
      · (intro _ hSw; go_simp; try with_reducible rfl)
      simp only [List.setIfInBounds_toArray, List.set_cons_zero, List.set_cons_succ]
      refine wpAnyH_takeAt (i := 19) (d := 59) (v := ?_) rfl rfl (by kernel_rfl) (by kernel_rfl) (by kernel_rfl) (fun _ _ _ h => h) (Or.inl ⟨by rfl, ?_⟩) hHeld ?_
      rotate_left
      · (intro _ hSw; go_simp; try with_reducible rfl)
      simp only [List.setIfInBounds_toArray, List.set_cons_zero, List.set_cons_succ]
      refine wpAnyH_takeAt (i := 20) (d := 60) (v := ?_) rfl rfl (by kernel_rfl) (by kernel_rfl) (by kernel_rfl) (fun _ _ _ h => h) (Or.inl ⟨by rfl, ?_⟩) hHeld ?_
      rotate_left
      · (intro _ hSw; go_simp; try with_reducible rfl)
      simp only [List.setIfInBounds_toArray, List.set_cons_zero, List.set_cons_succ]
      refine wpAnyH_takeAt (i := 21) (d := 61) (v := ?_) rfl rfl (by kernel_rfl) (by kernel_rfl) (by kernel_rfl) (fun _ _ _ h => h) (Or.inl ⟨by rfl, ?_⟩) hHeld ?_
      rotate_left
      · (intro _ hSw; go_simp; try with_reducible rfl)
      simp only [List.setIfInBounds_toArray, List.set_cons_zero, List.set_cons_succ]
      refine wpAnyH_ready (rs := [22]) (by kernel_rfl) (by simp) ?_
      refine AllReadyH.cons rfl (fun K hK => ?_) AllReadyH.nil
      go_simp
      refine (HOU.out _ hBX).mono ?_
      rintro e w4 ⟨⟨A4, c4, rfl⟩, hO4⟩
      have hS4 : TwoL ⟨g, 0, none⟩ (.int .u8 2) ⟨g, 5, none⟩ (.int .u64 (uu : Int)) w4 := hHeld.only hO4 (fun e => Nat.lt_irrefl _ (HGL.out _ e)) (fun e => Nat.lt_irrefl _ (HGL.out _ e)) (Nat.lt_of_lt_of_le hg3 hBX.size) (Nat.lt_of_lt_of_le hg3 hBX.size)
      have HB4 := Lib.hid (HBL.out _ _ hBX hO4)
      have hg4 : g < w4.heap.size := Nat.lt_of_lt_of_le (Nat.lt_of_lt_of_le hg3 hBX.size) hO4.size
      refine hK.out _ _ hS4 (fun _ => ?_)
      clear hK K hHeld hO4
      have hHeld := hS4
      clear hS4
      refine wpAnyH_takeAt (i := 23) (d := 63) (v := ?_) rfl rfl (by kernel_rfl) (by kernel_rfl) (by kernel_rfl) (fun _ _ _ h => h) (Or.inl ⟨by rfl, ?_⟩) hHeld ?_
      rotate_left
      · (intro _ hSw; go_simp; try with_reducible rfl)
      simp only [List.setIfInBounds_toArray, List.set_cons_zero, List.set_cons_succ]
      refine wpAnyH_takeAt (i := 24) (d := 64) (v := ?_) rfl rfl (by kernel_rfl) (by kernel_rfl) (by kernel_rfl) (fun _ _ _ h => h) (Or.inl ⟨by rfl, ?_⟩) hHeld ?_
      rotate_left
      · (intro _ hSw; go_simp; try with_reducible rfl)
      simp only [List.setIfInBounds_toArray, List.set_cons_zero, List.set_cons_succ]
      refine wpAnyH_takeAt (i := 25) (d := 65) (v := ?_) rfl rfl (by kernel_rfl) (by kernel_rfl) (by kernel_rfl) (fun _ _ _ h => h) (Or.inl ⟨by rfl, ?_⟩) hHeld ?_
      rotate_left
      · (intro _ hSw; go_simp; try with_reducible rfl)
      simp only [List.setIfInBounds_toArray, List.set_cons_zero, List.set_cons_succ]
      refine wpAnyH_takeAt (i := 26) (d := 66) (v := ?_) rfl rfl (by kernel_rfl) (by kernel_rfl) (by kernel_rfl) (fun _ _ _ h => h) (Or.inl ⟨by rfl, ?_⟩) hHeld ?_
      rotate_left
      · (intro _ hSw; go_simp; try with_reducible rfl)
      simp only [List.setIfInBounds_toArray, List.set_cons_zero, List.set_cons_succ]
      refine wpAnyH_ready (rs := [27]) (by kernel_rfl) (by simp) ?_
      refine AllReadyH.cons rfl (fun K hK => ?_) AllReadyH.nil
      go_simp
      refine (awake_any _).mono ?_
      rintro e w5 ⟨rfl, hb5⟩
      have hS5 : TwoL ⟨g, 0, none⟩ (.int .u8 2) ⟨g, 5, none⟩ (.int .u64 (uu : Int)) w5 := hHeld.only (X := fun _ => False) (OnlyE.of_below hb5) id id hg4 hg4
      have HB5 : Hid (Below w.heap.size w w5) := HB4.out.trans (hb5.mono HB4.out.size)
      refine hK.out _ _ hS5 (fun _ => ?_)
      clear hK K hHeld hb5
      have hHeld := hS5
      clear hS5
      refine wpAnyH_takeAt (i := 28) (d := 68) (v := ?_) rfl rfl (by kernel_rfl) (by kernel_rfl) (by kernel_rfl) (fun _ _ _ h => h) (Or.inl ⟨by rfl, ?_⟩) hHeld ?_
      rotate_left
      · (intro _ hSw; go_simp; try with_reducible rfl)
      simp only [List.setIfInBounds_toArray, List.set_cons_zero, List.set_cons_succ]
      refine wpAnyH_takeAt (i := 29) (d := 8) (v := ?_) rfl rfl (by kernel_rfl) (by kernel_rfl) (by kernel_rfl) (fun _ _ _ h => h) (Or.inl ⟨by rfl, ?_⟩) hHeld ?_
      rotate_left
      · (intro _ hSw; go_simp; try with_reducible rfl)
      simp only [List.setIfInBounds_toArray, List.set_cons_zero, List.set_cons_succ]
      refine wpAnyH_done (by kernel_rfl) ?_ _
      go_wp2
      go_ret
      exact ⟨rfl, HB5.out⟩
theorem linkIdle_many (r again : Value) (A : Option Addr) (n c : Nat) (s : Value) (w : World) (hn : 100 < n) :
    Calls Try.prog 7 #[r, again, .slice A n c, s] w fun e w' => e = .returned (.bool true) ∧ Below w.heap.size w w' := by
  have hd : decide (100 < (n : Int)) = true := by simp; omega
  go_enter Try.func7, Try.ntmps7
  go_wp2_with (go_at_call 9; refine (awake_any _).mono ?_; rintro e w' ⟨rfl, hb⟩)
  go_ret
  exact ⟨rfl, hb⟩

theorem own : ownKnob Try.prog.godebug = none := by kernel_rfl
theorem laidOut : laidOutB Try.prog = true := by kernel_rfl

set_option maxRecDepth 100000 in
theorem linkIdle_lifted (os : Os) (started : os.Started) (H : Type) (enc : TypeId × Value → H) :
    ReturnsInHanded {} Try.checked os 7 .any (Rows.linkIdleSpec.pre6 enc Try.prog Try.f7 Rows.linkIdleRow.domain false) (Rows.linkIdleSpec.post enc Try.prog Try.f7 false true false false) := by
  refine returnsInHanded_of_change (C := Try.checked) own started (by kernel_rfl) Try.func7
    (ChangeSpec.witness6 (enc := enc) (C := Try.checked) false ⟨#[], #[.int .i64 0, .int .i64 0, .slice none 0 0, .int .u64 0], []⟩ 8 (by kernel_rfl) (by kernel_rfl) (by kernel_rfl) (by kernel_rfl)) ?_
  intro W base args ds gs before hval0 hW _ _
  have hval : ∀ (j : Nat) t v, Try.f7.params[j]? = some t → args[j]? = some v → Value.okWide Try.prog W .any base t v := hval0
  have hW' := hW
  obtain ⟨p, q, hA0, hV, rfl, _, _⟩ := hW
  have hA : DataW.TrodAll enc Try.prog W 0 (fun _ => true) true Try.f7.params.toList args.toList ds p := hA0
  rw [Try.params7] at hA hval
  obtain ⟨v0, vs0, d0, ds0, p0, q0, hargs, rfl, rfl, h0, r0⟩ := trodAll_cons hA
  obtain ⟨v1, vs1, d1, ds1, p1, q1, rfl, rfl, rfl, h1, r1⟩ := trodAll_cons r0
  obtain ⟨v2, vs2, d2, ds2, p2, q2, rfl, rfl, rfl, h2, r2⟩ := trodAll_cons r1
  obtain ⟨v3, vs3, d3, ds3, p3, q3, rfl, rfl, rfl, h3, r3⟩ := trodAll_cons r2
  obtain ⟨rfl, rfl, rfl⟩ := trodAll_nil r3
  obtain rfl : args = #[v0, v1, v2, v3] := by cases args; simp_all
  obtain ⟨rfl, rfl⟩ := trodVars_none hV
  have k0 := h0
  have lt0 : ∀ x ∈ p0, x.block < W.heap.size := by obtain ⟨m, hm⟩ := k0; exact DataW.trod_lt m _ _ _ hm
  have k1 := h1
  have lt1 : ∀ x ∈ p1, x.block < W.heap.size := by obtain ⟨m, hm⟩ := k1; exact DataW.trod_lt m _ _ _ hm
  have k2 := h2
  have lt2 : ∀ x ∈ p2, x.block < W.heap.size := by obtain ⟨m, hm⟩ := k2; exact DataW.trod_lt m _ _ _ hm
  have k3 := h3
  have lt3 : ∀ x ∈ p3, x.block < W.heap.size := by obtain ⟨m, hm⟩ := k3; exact DataW.trod_lt m _ _ _ hm
  obtain ⟨a0, rfl, _, _, wf0⟩ := open_int Try.underlying3 (hval 0 3 v0 rfl rfl) h0
  obtain ⟨a1, rfl, _, _, wf1⟩ := open_int Try.underlying2 (hval 1 2 v1 rfl rfl) h1
  obtain ⟨a3, rfl, _, _, wf3⟩ := open_int Try.underlying27 (hval 3 27 v3 rfl rfl) h3
  have hwalk : Calls Try.prog 7 #[.int .i64 a0, .int .i64 a1, v2, .int .u64 a3] W fun e w' => e = .returned (.bool true) ∧ Below W.heap.size W w' := by
    obtain ⟨x2, len2, cap2, rfl⟩ := okWide_slice Try.underlying68 (hval 2 68 v2 rfl rfl)
    obtain ⟨fuel2, hf2⟩ := h2
    obtain ⟨l, A, n, c, hv, hl, hc, hcm, hL⟩ := open_ticks Try.underlying68 Try.underlying2 (by kernel_rfl) (by simpa [Value.cells] using hf2)
    injection hv with e1 e2 e3
    subst e1 e2 e3
    by_cases hn : 100 < len2
    · exact linkIdle_many _ _ x2 len2 cap2 _ W hn
    · have b0 := bounds_i64 wf0
      have b1 := bounds_i64 wf1
      have b3 := bounds_u64 wf3
      obtain ⟨sq, rfl⟩ : ∃ k : Nat, a3 = (k : Int) := ⟨a3.toNat, by omega⟩
      exact linkIdle_walk a0 a1 x2 len2 cap2 l sq W hl (by omega) hL (by omega) (by omega) (by omega) (by omega) (by omega)
  clear hA0 hval0
  refine hwalk.mono fun e W' ⟨he, bel⟩ => ?_
  subst he
  exact ⟨_, rfl, _, _, _, [], _, [], hW', trodAll_mk1 (shut_bool Try.underlying4 _), (trodAll_cons_mk (Below.trod laidOut (by kernel_rfl) (of_decide_eq_true (by kernel_rfl)) k0 bel lt0) (trodAll_cons_mk (Below.trod laidOut (by kernel_rfl) (of_decide_eq_true (by kernel_rfl)) k1 bel lt1) (trodAll_cons_mk (Below.trod laidOut (by kernel_rfl) (of_decide_eq_true (by kernel_rfl)) k2 bel lt2) (trodAll_cons_mk (Below.trod laidOut (by kernel_rfl) (of_decide_eq_true (by kernel_rfl)) k3 bel lt3) trodAll_mk0)))), rfl, bel.frame _, fun h => by cases h⟩

theorem linkIdle_proved : Rows.LinkIdleSaid :=
  OpenClaim.holds_of_wide 7 Try.f7 rfl rfl rfl rfl rfl rfl rfl ⟨rfl, rfl, rfl, rfl, rfl⟩ rfl rfl rfl rfl rfl (by kernel_rfl) Try.func7 (by kernel_rfl)
    (of_decide_eq_true (by kernel_rfl)) (by unfold Func.isWrapper; first | (rw [if_pos (by decide +kernel)]; kernel_rfl) | (rw [if_neg (by decide +kernel)]; exact ⟨rfl, rfl⟩))
    (fun os started H enc _ => linkIdle_lifted os started H enc)

end Go.Proofs.Ytbkkpimhoeagdaa
