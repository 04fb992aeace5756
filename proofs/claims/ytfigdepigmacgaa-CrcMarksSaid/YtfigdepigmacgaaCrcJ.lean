/- The walk of CrcMarks, where rows and bytes are few. -/
import Derived.Test.YtfigdepigmacgaaCrcI
import Derived.Test.YtfigdepigmacgaaCrcD
import Derived.Test.YtfigdepigmacgaaJoin
import Derived.Test.YtfigdepigmacgaaHeld
namespace Go.Proofs.Ytfigdepigmacgaa
open Go.RowKit

theorem fits_mark (l : List UInt8) : fitsOf (markOf l) = (l, 0) := by
  have hl : (markOf l).length = l.length + 4 := by simp [markOf, four_length]
  have ht : (markOf l).take l.length = l := by unfold markOf; rw [List.take_append_of_le_length (Nat.le_refl _), List.take_length]
  unfold fitsOf
  rw [if_neg (by omega), show (markOf l).length - 4 = l.length by omega, ht, if_pos rfl]

/-- What is written into: bytes of the call's own. -/
def IncRel (w : World) (v : Value) (n : Nat) (wr : World) : Prop :=
  ∃ l, wr.ownsRow w.heap.size 5 1 v n (bvs l) ∧ Below w.heap.size w wr

theorem IncRel.step {w wr : World} {g n c k : Nat} {l : List UInt8} {x : Nat} (hown : wr.ownsRow w.heap.size 5 1 (.slice (some ⟨g, 0, none⟩) n c) n (bvs l)) (hb : Below w.heap.size w wr) (hg : w.heap.size ≤ g) :
    IncRel w (.slice (some ⟨g, 0, none⟩) n c) n (wr.setCell ⟨g, k, none⟩ (.int .u8 (((x : Int) + 1) % 256))) := by
  have e : Value.int .u8 (((x : Int) + 1) % 256) = bv (UInt8.ofNat ((x + 1) % 256)) := low_byte' (x + 1)
  rw [e]
  refine ⟨l.set k (UInt8.ofNat ((x + 1) % 256)), ?_, hb.setCell hg _⟩
  have e2 : bvs (l.set k (UInt8.ofNat ((x + 1) % 256))) = (bvs l).set k (bv (UInt8.ofNat ((x + 1) % 256))) := by
    unfold bvs; rw [List.map_set]
  rw [e2]
  exact (hown.stored k _).1

set_option maxRecDepth 100000 in
set_option maxHeartbeats 3200000 in
theorem crcMarks_walk (A A0 : Option Addr) (m c n c0 : Nat) (vs : List Value) (ls : List (List UInt8)) (lb : List UInt8) (w : World) (hm : m ≤ 30) (hl : vs.length = m) (h : Lies w w.heap.size A vs) (hr : BytRows w w.heap.size vs ls) (hls : ∀ x ∈ ls, x.length ≤ 300)
    (hlb : lb.length = n) (hn : n ≤ 1000) (hnc : n ≤ c0) (hcm : c0 ≤ maxLen) (hb0 : Lies w w.heap.size A0 (bvs lb)) :
    Calls Try.prog 4 #[.slice A m c, .slice A0 n c0] w fun e w' => e = .returned (.bool true) ∧ Below w.heap.size w w' := by
  have hany : (ls.any fun x => decide (300 < x.length)) = false := by
    rw [List.any_eq_false]; intro x hx; have := hls x hx; simp; omega
  have hfl := flatten_len ls hls
  have hlen : ls.flatten.length ≤ 9000 := by have := hr.1; omega
  have HL := Lib.hid hl
  have HR := Lib.hid hr
  have HA := Lib.hid hany
  have HLS := Lib.hid hls
  have HLB := Lib.hid hlb
  have hd : decide (1000 < (n : Int)) = false := by simp; omega
  clear hl hr hany hls hfl hlb
  go_enter Try.func4, Try.ntmps4
  go_wp2_with (go_at_call 7; refine (great_few A m c vs ls _ hm HL.out h HR.out).mono ?_; rw [HA.out]; rintro e w' ⟨rfl, rfl⟩)
  go_wp2_with fail
  refine (mark_any A m c vs ls _ HL.out (by omega) h HR.out (fun x hx => by have := HLS.out x hx; omega)).mono ?_
  intro e w1 ho1
  obtain ⟨A1, n1, c1, rfl, hn1, hc1, hc1m, ho1, hb1⟩ := ho1
  rw [bvs_length] at hn1
  have hn1b : n1 ≤ 9004 := by have := hn1.out; rw [markOf, List.length_append, four_length] at this; omega
  have hL1 := Lies.of_own ho1
  clear ho1
  go_wp2_with fail
  refine (fits_any A1 n1 c1 (markOf ls.flatten) _ hn1.out (by omega) hc1 hc1m hL1).mono ?_
  unfold Fitted
  rw [fits_mark]
  rintro e w2 ⟨A2, n2, c2, rfl, hn2, hc2, hc2m, ho2, hb2⟩
  have hL2 := Lies.of_own ho2
  have hb02 : Below w.heap.size w w2 := hb1.trans (hb2.mono hb1.size)
  clear ho2
  go_wp2_with fail
  refine (fits_any A0 n c0 lb _ HLB.out (by omega) hnc hcm (hb0.later hb02)).mono ?_
  rintro e w3 ⟨A3, n3, c3, rfl, hn3, hc3, hc3m, ho3, hb3⟩
  have hb03 : Below w.heap.size w w3 := hb02.trans (hb3.mono hb02.size)
  go_wp2_with fail
  refine (refFits_any A0 n c0 lb _ HLB.out (by omega) hnc hcm (hb0.later hb03)).mono ?_
  rintro e w4 ⟨A4, n4, c4, rfl, hn4, hL4, hb4⟩
  have ho4 := own_below ho3 hb4
  have hb24 : Below w2.heap.size w2 w4 := hb3.trans (hb4.mono hb3.size)
  have hs3 : Strs w4 A3 n3 (fitsOf lb).1 := strs_of hn3.out (Lies.of_own ho4)
  have hs4 : Strs w4 A4 n4 (fitsOf lb).1 := strs_of hn4.out hL4
  have hs0 : Strs w4 A0 n lb := strs_of HLB.out (hb0.below (hb03.trans (hb4.mono hb03.size)))
  unfold Strs at hs3 hs4 hs0
  have hI : IncRel w2 (.slice A3 n3 c3) n3 w4 := ⟨_, ho4, hb24⟩
  have hc3' := hc3m
  unfold maxLen at hc3'
  clear hb4 ho4 ho3 hb03 hb24 hL4 hb3
  go_wp2_with fail
  go_loopw [13] (fun i wr => ∃ (k : Nat), k ≤ n3 ∧ i = .int .i64 k ∧ IncRel w2 (.slice A3 n3 c3) n3 wr) (fun i _ => n3 - (intOf i).toNat)
  case atStart => exact ⟨0, Nat.zero_le _, rfl, hI⟩
  case round =>
    obtain ⟨k, hk, rfl, l3, ho, hbr⟩ := hrel
    clear hs3 hs4 hs0 hI
    by_cases hlt : k < n3
    · obtain ⟨g, cap, hv, _, _⟩ := ho.form (by omega)
      obtain ⟨rfl, rfl⟩ : A3 = some ⟨g, 0, none⟩ ∧ c3 = cap := by
        injection hv with h1 _ h2
        exact ⟨h1, h2⟩
      have hg2 : w2.heap.size ≤ g := (ho.lt g rfl).1
      have hl3 : k < l3.length := by have := own_len ho; rw [bvs_length] at this; omega
      have hcell : wr.cell? ⟨g, k, none⟩ = some (.int .u8 (l3[k].toNat : Int)) := by
        rw [ho.cellAt _ (by omega), bvs_at hl3]; rfl
      have hfr := ho.frozenAt k
      have hx := l3[k].toNat_lt
      have HST : Hid (IncRel w2 (.slice (some ⟨g, 0, none⟩) n3 c3) n3 (wr.setCell ⟨g, k, none⟩ (.int .u8 ((((l3[k].toNat : Nat) : Int) + 1) % 256)))) := IncRel.step ho hbr hg2
      generalize l3[k].toNat = x at hcell hx HST
      clear hv
      go_wp2
      go_roundw
      case rel => exact ⟨k + 1, by omega, by go_num, HST.out⟩
      case measure => simp [intOf]; omega
    · have hb0r : Below w.heap.size w wr := hb02.trans (hbr.mono hb02.size)
      clear ho
      go_wp2_with fail
      refine (refJoin_any A m c vs ls _ HL.out (by omega) (h.later hb0r) (HR.out.later hb0r) (fun x hx => by have := HLS.out x hx; omega)).mono ?_
      intro e wj hoj
      obtain ⟨Aj, nj, cj, rfl, hnj, hLj, hbj⟩ := hoj.use
      clear hoj
      have hb2j : Below w2.heap.size w2 wj := hbr.trans (hbj.mono hbr.size)
      have hb0j : Below w.heap.size w wj := hb02.trans (hb2j.mono hb02.size)
      have k1 : KeepS wj A1 n1 c1 (markOf ls.flatten) := keepS_of hn1.out (hL1.later (hb2.trans (hb2j.mono hb2.size)))
      have k2 : KeepS wj A2 n2 c2 ls.flatten := keepS_of hn2.out (hL2.later hb2j)
      have k0 : KeepS wj A0 n c0 lb := keepS_of HLB.out (hb0.later hb0j)
      have kj : KeepS wj Aj nj cj ls.flatten := keepS_of hnj.out hLj
      have J1 : Hid (∀ W : World, Below wj.heap.size wj W → Calls Try.prog 15 #[.slice Aj nj cj] W (Owned W W.heap.size (bvs (markOf ls.flatten)))) := fun W hW => refMark_any Aj nj cj ls.flatten W hnj.out (by have := hnj.out; omega) (hLj.later hW)
      have hbd : Below wj.heap.size wj wj.drew := (Below.refl _ _).drew
      unfold KeepS at k1 k2 k0 kj
      generalize markOf ls.flatten = mk at k1 J1
      generalize ls.flatten = fl at k2 kj
      clear hb2j hbr hbj hb0r hL1 hL2 hLj hb1 hb2 hb02 hn1 hn2 hn3 hn4 hnj HL HR HA HLS HLB h hb0 hlen
      go_wp2_with fail
      refine wp_region_held_drew (S := fun W => Below wj.heap.size wj W) (by kernel_rfl) hbd (fun hHeld => ?_)
      refine wpAnyH_takeAt (i := 0) (d := 66) (v := ?_) rfl rfl (by kernel_rfl) (by kernel_rfl) (by kernel_rfl) (fun _ _ _ h => h) (Or.inl ⟨by rfl, ?_⟩) hHeld ?_
      rotate_left
      · (intro _ hSw; go_simp; try with_reducible rfl)
      simp only [List.setIfInBounds_toArray, List.set_cons_zero, List.set_cons_succ]
      refine wpAnyH_takeAt (i := 1) (d := 67) (v := ?_) rfl rfl (by kernel_rfl) (by kernel_rfl) (by kernel_rfl) (fun _ _ _ h => h) (Or.inl ⟨by rfl, ?_⟩) hHeld ?_
      rotate_left
      · (intro _ hSw; go_simp; try with_reducible rfl)
      simp only [List.setIfInBounds_toArray, List.set_cons_zero, List.set_cons_succ]
      refine wpAnyH_takeAt (i := 2) (d := 68) (v := ?_) rfl rfl (by kernel_rfl) (by kernel_rfl) (by kernel_rfl) (fun _ _ _ h => h) (Or.inl ⟨by rfl, ?_⟩) hHeld ?_
      rotate_left
      · (intro _ hSw; go_simp; try with_reducible rfl)
      simp only [List.setIfInBounds_toArray, List.set_cons_zero, List.set_cons_succ]
      refine wpAnyH_ready (rs := [3]) (by kernel_rfl) (by simp) ?_
      refine AllReadyH.cons rfl (fun K hK => ?_) AllReadyH.nil
      go_simp
      refine (J1.out _ hbd).mono ?_
      intro e w7 ho7
      obtain ⟨A7, n7, c7, rfl, hn7, hL7, hb7⟩ := ho7.use
      have k7 := keepS_of (c := c7) hn7.out hL7
      have hbJ := hbd.trans (hb7.mono hbd.size)
      have k27 : KeepS w7 A2 n2 c2 fl := fun W hW => k2 W (hbJ.trans (hW.mono hbJ.size))
      have k07 : KeepS w7 A0 n c0 lb := fun W hW => k0 W (hbJ.trans (hW.mono hbJ.size))
      have kj7 : KeepS w7 Aj nj cj fl := fun W hW => kj W (hbJ.trans (hW.mono hbJ.size))
      clear ho7 hL7 hn7 k1 k2 k0 kj
      unfold KeepS at k7 k27 k07 kj7
      dsimp only
      refine hK.out _ _ hbJ (fun hHeld => ?_)
      clear hK K hHeld
      refine wpAnyH_mono (S' := fun W => Below w7.heap.size w7 W) (fun W hW => hbJ.trans (Below.mono hW hbJ.size)) _ _ _ _ ?_
      have hHeld : (fun W => Below w7.heap.size w7 W) w7 := Below.refl _ _
      refine wpAnyH_takeAt (i := 4) (d := 70) (v := ?_) rfl rfl (by kernel_rfl) (by kernel_rfl) (by kernel_rfl) (fun _ _ _ h => h) (Or.inl ⟨by rfl, ?_⟩) hHeld ?_
      rotate_left
      · (intro _ hSw; go_simp; try with_reducible rfl)
      simp only [List.setIfInBounds_toArray, List.set_cons_zero, List.set_cons_succ]
      refine wpAnyH_takeAt (i := 5) (d := 71) (v := ?_) rfl rfl (by kernel_rfl) (by kernel_rfl) (by kernel_rfl) (fun _ _ _ h => h) (Or.inl ⟨by rfl, ?_⟩) hHeld ?_
      rotate_left
      · (intro _ hSw; go_simp; try with_reducible rfl)
      simp only [List.setIfInBounds_toArray, List.set_cons_zero, List.set_cons_succ]
      refine wpAnyH_takeAt (i := 6) (d := 72) (v := ?_) rfl rfl (by kernel_rfl) (by kernel_rfl) (by kernel_rfl) (fun _ _ _ h => h) (Or.inl ⟨by rfl, ?_⟩) hHeld ?_
      rotate_left
      · (intro _ hSw; go_simp; try with_reducible rfl)
      simp only [List.setIfInBounds_toArray, List.set_cons_zero, List.set_cons_succ]
      refine wpAnyH_takeAt (i := 7) (d := 73) (v := ?_) rfl rfl (by kernel_rfl) (by kernel_rfl) (by kernel_rfl) (fun _ _ _ h => h) (Or.inl ⟨by rfl, ?_⟩) hHeld ?_
      rotate_left
      · (intro _ hSw; go_simp; try with_reducible rfl)
      simp only [List.setIfInBounds_toArray, List.set_cons_zero, List.set_cons_succ]
      refine wpAnyH_takeAt (i := 8) (d := 74) (v := ?_) rfl rfl (by kernel_rfl) (by kernel_rfl) (by kernel_rfl) (fun _ _ _ h => h) (Or.inl ⟨by rfl, ?_⟩) hHeld ?_
      rotate_left
      · (intro _ hSw; go_simp; try with_reducible rfl)
      simp only [List.setIfInBounds_toArray, List.set_cons_zero, List.set_cons_succ]
      refine wpAnyH_takeAt (i := 9) (d := 75) (v := ?_) rfl rfl (by kernel_rfl) (by kernel_rfl) (by kernel_rfl) (fun _ _ _ h => h) (Or.inl ⟨by rfl, ?_⟩) hHeld ?_
      rotate_left
      · (intro _ hSw; go_simp; try with_reducible rfl)
      simp only [List.setIfInBounds_toArray, List.set_cons_zero, List.set_cons_succ]
      refine wpAnyH_takeAt (i := 10) (d := 76) (v := ?_) rfl rfl (by kernel_rfl) (by kernel_rfl) (by kernel_rfl) (fun _ _ _ h => h) (Or.inl ⟨by rfl, ?_⟩) hHeld ?_
      rotate_left
      · (intro _ hSw; go_simp; try with_reducible rfl)
      simp only [List.setIfInBounds_toArray, List.set_cons_zero, List.set_cons_succ]
      refine wpAnyH_takeAt (i := 11) (d := 77) (v := ?_) rfl rfl (by kernel_rfl) (by kernel_rfl) (by kernel_rfl) (fun _ _ _ h => h) (Or.inl ⟨by rfl, ?_⟩) hHeld ?_
      rotate_left
      · (intro _ hSw; go_simp; try with_reducible rfl)
      simp only [List.setIfInBounds_toArray, List.set_cons_zero, List.set_cons_succ]
      refine wpAnyH_takeAt (i := 12) (d := 78) (v := ?_) rfl rfl (by kernel_rfl) (by kernel_rfl) (by kernel_rfl) (fun _ _ _ h => h) (Or.inl ⟨by rfl, ?_⟩) hHeld ?_
      rotate_left
      · (intro _ hSw; go_simp; try with_reducible rfl)
      simp only [List.setIfInBounds_toArray, List.set_cons_zero, List.set_cons_succ]
      refine wpAnyH_takeAt (i := 13) (d := 79) (v := ?_) rfl rfl (by kernel_rfl) (by kernel_rfl) (by kernel_rfl) (fun _ _ _ h => h) (Or.inl ⟨by rfl, ?_⟩) hHeld ?_
      rotate_left
      · (intro _ hSw; go_simp; try with_reducible rfl)
      simp only [List.setIfInBounds_toArray, List.set_cons_zero, List.set_cons_succ]
      refine wpAnyH_takeAt (i := 14) (d := 80) (v := ?_) rfl rfl (by kernel_rfl) (by kernel_rfl) (by kernel_rfl) (fun _ _ _ h => h) (Or.inl ⟨by rfl, ?_⟩) hHeld ?_
      rotate_left
      · (intro _ hSw; go_simp; try with_reducible rfl)
      simp only [List.setIfInBounds_toArray, List.set_cons_zero, List.set_cons_succ]
      refine wpAnyH_takeAt (i := 15) (d := 81) (v := ?_) rfl rfl (by kernel_rfl) (by kernel_rfl) (by kernel_rfl) (fun _ _ _ h => h) (Or.inl ⟨by rfl, ?_⟩) hHeld ?_
      rotate_left
      · (intro _ hSw; go_simp; try with_reducible rfl)
      simp only [List.setIfInBounds_toArray, List.set_cons_zero, List.set_cons_succ]
      refine wpAnyH_takeAt (i := 16) (d := 82) (v := ?_) rfl rfl (by kernel_rfl) (by kernel_rfl) (by kernel_rfl) (fun _ _ _ h => h) (Or.inl ⟨by rfl, ?_⟩) hHeld ?_
      rotate_left
      · (intro _ hSw; go_simp; try with_reducible rfl)
      simp only [List.setIfInBounds_toArray, List.set_cons_zero, List.set_cons_succ]
      refine wpAnyH_takeAt (i := 17) (d := 83) (v := ?_) rfl rfl (by kernel_rfl) (by kernel_rfl) (by kernel_rfl) (fun _ _ _ h => h) (Or.inl ⟨by rfl, ?_⟩) hHeld ?_
      rotate_left
      · (intro _ hSw; go_simp; try with_reducible rfl)
      simp only [List.setIfInBounds_toArray, List.set_cons_zero, List.set_cons_succ]
      refine wpAnyH_takeAt (i := 18) (d := 84) (v := ?_) rfl rfl (by kernel_rfl) (by kernel_rfl) (by kernel_rfl) (fun _ _ _ h => h) (Or.inl ⟨by rfl, ?_⟩) hHeld ?_
      rotate_left
      · (intro _ hSw; go_simp; try with_reducible rfl)
      simp only [List.setIfInBounds_toArray, List.set_cons_zero, List.set_cons_succ]
      refine wpAnyH_takeAt (i := 19) (d := 85) (v := ?_) rfl rfl (by kernel_rfl) (by kernel_rfl) (by kernel_rfl) (fun _ _ _ h => h) (Or.inl ⟨by rfl, ?_⟩) hHeld ?_
      rotate_left
      · (intro _ hSw; go_simp; try with_reducible rfl)
      simp only [List.setIfInBounds_toArray, List.set_cons_zero, List.set_cons_succ]
      refine wpAnyH_takeAt (i := 20) (d := 86) (v := ?_) rfl rfl (by kernel_rfl) (by kernel_rfl) (by kernel_rfl) (fun _ _ _ h => h) (Or.inl ⟨by rfl, ?_⟩) hHeld ?_
      rotate_left
      · (intro _ hSw; go_simp; try with_reducible rfl)
      simp only [List.setIfInBounds_toArray, List.set_cons_zero, List.set_cons_succ]
      refine wpAnyH_takeAt (i := 21) (d := 87) (v := ?_) rfl rfl (by kernel_rfl) (by kernel_rfl) (by kernel_rfl) (fun _ _ _ h => h) (Or.inl ⟨by rfl, ?_⟩) hHeld ?_
      rotate_left
      · (intro _ hSw; go_simp; try with_reducible rfl)
      simp only [List.setIfInBounds_toArray, List.set_cons_zero, List.set_cons_succ]
      refine wpAnyH_takeAt (i := 22) (d := 88) (v := ?_) rfl rfl (by kernel_rfl) (by kernel_rfl) (by kernel_rfl) (fun _ _ _ h => h) (Or.inl ⟨by rfl, ?_⟩) hHeld ?_
      rotate_left
      · (intro _ hSw; go_simp; try with_reducible rfl)
      simp only [List.setIfInBounds_toArray, List.set_cons_zero, List.set_cons_succ]
      refine wpAnyH_takeAt (i := 23) (d := 89) (v := ?_) rfl rfl (by kernel_rfl) (by kernel_rfl) (by kernel_rfl) (fun _ _ _ h => h) (Or.inl ⟨by rfl, ?_⟩) hHeld ?_
      rotate_left
      · (intro _ hSw; go_simp; try with_reducible rfl)
      simp only [List.setIfInBounds_toArray, List.set_cons_zero, List.set_cons_succ]
      refine wpAnyH_ready (rs := [24]) (by kernel_rfl) (by simp) ?_
      refine AllReadyH.cons rfl (fun K hK => ?_) AllReadyH.nil
      go_simp
      refine (awake_any _).mono ?_
      rintro e w9 ⟨rfl, hb9⟩
      have hbL := hbJ.trans (hb9.mono hbJ.size)
      dsimp only
      refine hK.out _ _ hb9 (fun hHeld => ?_)
      clear hK K hHeld
      have hHeld : (fun W => Below w7.heap.size w7 W) w9 := hb9
      refine wpAnyH_takeAt (i := 25) (d := 91) (v := ?_) rfl rfl (by kernel_rfl) (by kernel_rfl) (by kernel_rfl) (fun _ _ _ h => h) (Or.inl ⟨by rfl, ?_⟩) hHeld ?_
      rotate_left
      · (intro _ hSw; go_simp; try with_reducible rfl)
      simp only [List.setIfInBounds_toArray, List.set_cons_zero, List.set_cons_succ]
      refine wpAnyH_takeAt (i := 26) (d := 4) (v := ?_) rfl rfl (by kernel_rfl) (by kernel_rfl) (by kernel_rfl) (fun _ _ _ h => h) (Or.inl ⟨by rfl, ?_⟩) hHeld ?_
      rotate_left
      · (intro _ hSw; go_simp; try with_reducible rfl)
      simp only [List.setIfInBounds_toArray, List.set_cons_zero, List.set_cons_succ]
      refine wpAnyH_done (by kernel_rfl) ?_ _
      go_wp2
      go_ret
      exact ⟨rfl, hb0j.trans (hbL.mono hb0j.size)⟩

end Go.Proofs.Ytfigdepigmacgaa
