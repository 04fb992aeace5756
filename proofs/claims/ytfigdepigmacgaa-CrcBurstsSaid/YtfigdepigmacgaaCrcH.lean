/- The walk of CrcBursts. -/
import Derived.Test.YtfigdepigmacgaaCrcG
import Derived.Test.YtfigdepigmacgaaCrcD
import Derived.RegionTactic
namespace Go.Proofs.Ytfigdepigmacgaa
open Go.RowKit

/-- Marked bytes that are being turned: they lie in block g, which the call owns. -/
def BurstRel (w : World) (l : List UInt8) (p s q g N c : Nat) (wr : World) : Prop :=
  ∃ l', Turned (markOf l) l' p s q ∧ wr.ownsRow w.heap.size 5 1 (.slice (some ⟨g, 0, none⟩) N c) N (bvs l') ∧ Below w.heap.size w wr

theorem BurstRel.no {w wr : World} {l : List UInt8} {p s q g N c : Nat} (h : BurstRel w l p s q g N c wr) (hs : s.testBit q = false) : BurstRel w l p s (q + 1) g N c wr := by
  obtain ⟨l', h1, h2, h3⟩ := h
  exact ⟨l', h1.no hs, h2, h3⟩

theorem flip_val (y j : Nat) (hy : y < 256) (hj : j < 8) : Value.int .u8 (bits .xor .u8 (y : Int) (2 ^ j % 256)) = bv (UInt8.ofNat (y ^^^ 2 ^ j)) := by
  have h2 : (2 : Nat) ^ j < 256 := (Nat.pow_lt_pow_right (by decide) hj : 2 ^ j < 2 ^ 8)
  have e : ((2 : Int) ^ j % 256) = ((2 ^ j : Nat) : Int) := by
    rw [show ((2 : Int) ^ j) = ((2 ^ j : Nat) : Int) by rw [Int.natCast_pow]; rfl, Int.emod_eq_of_lt (Int.natCast_nonneg _) (by omega)]
  rw [e, u8_xor_nat _ _ hy h2]
  unfold bv
  rw [UInt8.toNat_ofNat', Nat.mod_eq_of_lt (flip_byte y j hy hj)]

theorem BurstRel.yes {w wr : World} {l l' : List UInt8} {p s q g N c k y : Nat} (hT : Turned (markOf l) l' p s q) (hown : wr.ownsRow w.heap.size 5 1 (.slice (some ⟨g, 0, none⟩) N c) N (bvs l')) (hb : Below w.heap.size w wr)
    (hs : s.testBit q = true) (hk : p + q = k) (hl : k < 8 * (markOf l).length) (hy : (l'.getD (k / 8) 0).toNat = y) (hg : w.heap.size ≤ g) :
    BurstRel w l p s (q + 1) g N c (wr.setCell ⟨g, k / 8, none⟩ (Value.int .u8 (bits .xor .u8 (y : Int) (2 ^ (k % 8) % 256)))).drew := by
  have hy8 : y < 256 := by rw [← hy]; exact UInt8.toNat_lt _
  subst hk
  refine ⟨flip l' (p + q), hT.yes hs hl, ?_, ?_⟩
  · have := (hown.stored ((p + q) / 8) (Value.int .u8 (bits .xor .u8 (y : Int) (2 ^ ((p + q) % 8) % 256)))).1
    rw [flip_val y _ hy8 (Nat.mod_lt _ (by decide))] at this ⊢
    have e : bvs (flip l' (p + q)) = (bvs l').set ((p + q) / 8) (bv (UInt8.ofNat (y ^^^ 2 ^ ((p + q) % 8)))) := by
      unfold bvs flip
      rw [List.map_set, hy]
    rw [e]
    exact this.drew
  · exact (hb.setCell hg _).drew

theorem bit_tmod (s q : Nat) : ((s : Int) / 2 ^ q).tmod 2 = ((s / 2 ^ q % 2 : Nat) : Int) := by
  have e : ((s : Int) / 2 ^ q) = ((s / 2 ^ q : Nat) : Int) := by rw [Int.natCast_ediv, Int.natCast_pow]; rfl
  rw [e, Int.tmod_eq_emod_of_nonneg (Int.natCast_nonneg _)]
  rfl

set_option maxHeartbeats 1600000 in
theorem crcBursts_walk (A : Option Addr) (n c : Nat) (l : List UInt8) (p s : Nat) (w : World) (hl : l.length = n) (hn : n ≤ 1000) (hc : n ≤ c) (hcm : c ≤ maxLen) (h : Lies w w.heap.size A (bvs l))
    (hs : s < 4294967296) (hs0 : 0 < s) (hp : p ≤ 8 * n) :
    Calls Try.prog 5 #[.slice A n c, .int .i64 p, .int .u32 s] w fun e w' => e = .returned (.bool true) ∧ Below w.heap.size w w' := by
  have hd : decide (1000 < (n : Int)) = false := by simp; omega
  have hd2 : ((s : Int) == 0) = false := by simp; omega
  have hd3 : decide ((p : Int) < 0) = false := by simp
  obtain ⟨hl1, hr1⟩ := rows_lit w 28 hl hc hcm h
  have HR1 := Lib.hid hr1
  have HL := Lib.hid hl
  clear hr1 hl
  go_enter Try.func5, Try.ntmps5
  go_wp2_with fail
  refine (mark_any _ 1 1 [.slice A n c] [l] _ rfl (by decide) hl1 HR1.out (by have := HL.out; simp; omega)).mono ?_
  rw [show [l].flatten = l by simp]
  intro e w1 ho
  obtain ⟨A1, n1, c1, rfl, hn1, hc1, hc2, ho1, hb1⟩ := ho
  rw [bvs_length] at hn1
  have hn1' : n + 4 = n1 := by have h1 := HL.out; have h2 := hn1.out; simp [markOf, four_length] at h2; omega
  subst hn1'
  obtain ⟨g, cap, hv, _, _⟩ := ho1.form (by omega)
  obtain ⟨rfl, rfl⟩ : A1 = some ⟨g, 0, none⟩ ∧ c1 = cap := by
    injection hv with h1 _ h2
    exact ⟨h1, h2⟩
  clear hv
  have hgw : w.heap.size ≤ g := by have := (ho1.lt g rfl).1; simp at this; omega
  have hb : Below w.heap.size w w1 := ((Below.refl _ _).alloc (Nat.le_refl _) _).trans (hb1.mono (by simp))
  have hS : BurstRel w l p s 0 g (n + 4) c1 w1 := ⟨_, Turned.start _ _ _, own_base ho1 (by simp), hb⟩
  have hd4 : ((n : Int) + 4 != (n : Int) + 4) = false := by simp
  have hd5 : decide (8 * ((n : Int) + 4) - 32 < (p : Int)) = false := by simp; omega
  clear hl1 HR1 ho1 hb1 hb
  go_wp2_with fail
  go_loopw [8] (fun i wr => ∃ (q : Nat), q ≤ 32 ∧ i = .int .i64 q ∧ BurstRel w l p s q g (n + 4) c1 wr) (fun i _ => 32 - (intOf i).toNat)
  case atStart => exact ⟨0, Nat.zero_le _, rfl, hS⟩
  case round =>
    obtain ⟨q, hq, rfl, hR⟩ := hrel
    by_cases hlt : q < 32
    · have hx := bit_tmod s q
      by_cases hbit : s / 2 ^ q % 2 = 1
      · rw [hbit] at hx
        have HB : Hid (s.testBit q = true) := by
          show s.testBit q = true
          rw [Nat.testBit_eq_decide_div_mod_eq, hbit]; rfl
        clear hbit
        obtain ⟨l', hT, hown, hbr⟩ := hR
        have hll : l'.length = n + 4 := by rw [hT.1]; exact hn1.out
        have hk8 : (p + q) / 8 < n + 4 := by omega
        have hcell : wr.cell? ⟨g, (p + q) / 8, none⟩ = some (.int .u8 ((l'.getD ((p + q) / 8) 0).toNat : Int)) := by
          rw [hown.cellAt _ (by omega), bvs_at (by omega)]
          simp [bv, List.getD, hll, hk8]
        have hfr := hown.frozenAt ((p + q) / 8)
        have HLL := Lib.hid hll
        have hx8 := (l'.getD ((p + q) / 8) 0).toNat_lt
        clear hll
        go_wp2_with fail
        rw [show (p : Int) + (q : Int) = ((p + q : Nat) : Int) from rfl]
        generalize hkk : p + q = k at hk8 hcell hfr hx8 ⊢
        have HK := Lib.hid hkk
        generalize hyy : (l'.getD (k / 8) 0).toNat = y at hcell hx8
        have HY := Lib.hid hyy
        clear hkk hyy hS
        have hkb : k ≤ 100000 := by have := HK.out; omega
        go_region
        all_goals
          go_wp2
          go_roundw
          case rel =>
            refine ⟨q + 1, by omega, by go_num, ?_⟩
            exact BurstRel.yes hT hown hbr HB.out HK.out (by have := hn1.out; have := HK.out; omega) HY.out hgw
          case measure => simp [intOf]; omega
      · have hb0 : s / 2 ^ q % 2 = 0 := by omega
        rw [hb0] at hx
        have HB : Hid (s.testBit q = false) := by
          show s.testBit q = false
          rw [Nat.testBit_eq_decide_div_mod_eq, hb0]; rfl
        clear hbit hb0
        go_wp2
        go_roundw
        case rel => exact ⟨q + 1, by omega, by go_num, hR.no HB.out⟩
        case measure => simp [intOf]; omega
    · have hq32 : q = 32 := by omega
      obtain ⟨l', hT, hown, hbr⟩ := hR
      have hT' : Turned (markOf l) l' p s 32 := by rw [hq32] at hT; exact hT
      have hf := turned_bad hT' (by have := hn1.out; omega) hs (by omega)
      have hll : l'.length = n + 4 := by rw [hT.1]; exact hn1.out
      have HF := Lib.hid hf
      have HLL := Lib.hid hll
      have hLf := Lies.of_own hown
      clear hT hT' hf hll hq32 hS
      go_wp2_with fail
      refine (fits_any _ (n + 4) c1 l' _ HLL.out (by omega) hc1 hc2 hLf).mono ?_
      unfold Fitted
      rw [HF.out]
      rintro e w5 ⟨A5, n5, c5, rfl, hn5, hc5, hc6, ho5, hb5⟩
      have hn50 : n5 = 0 := by have := hn5.out; simp at this; omega
      subst hn50
      have hb6 : Below w.heap.size w w5 := hbr.trans (hb5.mono hbr.size)
      clear hb5 ho5 hn5
      go_wp2_with fail
      refine (awake_any _).mono ?_
      rintro e w6 ⟨rfl, hb7⟩
      go_wp2
      go_ret
      exact ⟨rfl, hb6.trans (hb7.mono hb6.size)⟩

theorem crcBursts_none (A : Option Addr) (n c : Nat) (p s : Int) (w : World) (h : 1000 < n ∨ s = 0) :
    Calls Try.prog 5 #[.slice A n c, .int .i64 p, .int .u32 s] w fun e w' => e = .returned (.bool true) ∧ Below w.heap.size w w' := by
  by_cases hn : 1000 < n
  · go_enter Try.func5, Try.ntmps5
    go_wp2_with (go_at_call 8; refine (awake_any _).mono ?_; rintro e w' ⟨rfl, hb⟩)
    go_ret
    exact ⟨rfl, hb⟩
  · have hd : decide (1000 < (n : Int)) = false := by simp; omega
    obtain rfl : s = 0 := by omega
    go_enter Try.func5, Try.ntmps5
    go_wp2_with (go_at_call 8; refine (awake_any _).mono ?_; rintro e w' ⟨rfl, hb⟩)
    go_ret
    exact ⟨rfl, hb⟩

set_option maxHeartbeats 800000 in
theorem crcBursts_out (A : Option Addr) (n c : Nat) (l : List UInt8) (p s : Int) (w : World) (hl : l.length = n) (hn : n ≤ 1000) (hc : n ≤ c) (hcm : c ≤ maxLen) (h : Lies w w.heap.size A (bvs l)) (hs0 : s ≠ 0) (hp : p < 0 ∨ 8 * (n : Int) < p) :
    Calls Try.prog 5 #[.slice A n c, .int .i64 p, .int .u32 s] w fun e w' => e = .returned (.bool true) ∧ Below w.heap.size w w' := by
  have hd : decide (1000 < (n : Int)) = false := by simp; omega
  have hd2 : (s == 0) = false := by simp; omega
  obtain ⟨hl1, hr1⟩ := rows_lit w 28 hl hc hcm h
  have HR1 := Lib.hid hr1
  have HL := Lib.hid hl
  clear hr1 hl hs0
  go_enter Try.func5, Try.ntmps5
  go_wp2_with fail
  refine (mark_any _ 1 1 [.slice A n c] [l] _ rfl (by decide) hl1 HR1.out (by have := HL.out; simp; omega)).mono ?_
  rw [show [l].flatten = l by simp]
  intro e w1 ho
  obtain ⟨A1, n1, c1, rfl, hn1, hc1, hc2, ho1, hb1⟩ := ho
  rw [bvs_length] at hn1
  have hn1' : n + 4 = n1 := by have h1 := HL.out; have h2 := hn1.out; simp [markOf, four_length] at h2; omega
  subst hn1'
  have hb : Below w.heap.size w w1 := ((Below.refl _ _).alloc (Nat.le_refl _) _).trans (hb1.mono (by simp))
  have hd4 : ((n : Int) + 4 != (n : Int) + 4) = false := by simp
  clear hl1 HR1 ho1 hb1
  by_cases hp0 : p < 0
  · clear hp
    go_wp2_with fail
    refine (awake_any _).mono ?_
    rintro e w6 ⟨rfl, hb7⟩
    go_wp2
    go_ret
    exact ⟨rfl, hb.trans (hb7.mono hb.size)⟩
  · have hd6 : decide (p < 0) = false := by simp; omega
    have hd5 : decide (8 * ((n : Int) + 4) - 32 < p) = true := by simp; omega
    clear hp
    go_wp2_with fail
    refine (awake_any _).mono ?_
    rintro e w6 ⟨rfl, hb7⟩
    go_wp2
    go_ret
    exact ⟨rfl, hb.trans (hb7.mono hb.size)⟩

theorem crcBursts_any {v : Value} {l : List UInt8} {w : World} (h : Byt w w.heap.size v l) (p s : Int) (hs : 0 ≤ s) (hs2 : s < 4294967296) :
    Calls Try.prog 5 #[v, .int .i64 p, .int .u32 s] w fun e w' => e = .returned (.bool true) ∧ Below w.heap.size w w' := by
  obtain ⟨A, n, c, rfl, hl, hc, hcm, hL⟩ := h
  by_cases h1 : 1000 < n ∨ s = 0
  · exact crcBursts_none A n c p s w h1
  · by_cases h2 : p < 0 ∨ 8 * (n : Int) < p
    · exact crcBursts_out A n c l p s w hl (by omega) hc hcm hL (by omega) h2
    · obtain ⟨p', rfl⟩ := Int.eq_ofNat_of_zero_le (show 0 ≤ p by omega)
      obtain ⟨s', rfl⟩ := Int.eq_ofNat_of_zero_le hs
      exact crcBursts_walk A n c l p' s' w hl (by omega) hc hcm hL (by omega) (by omega) (by omega)

end Go.Proofs.Ytfigdepigmacgaa
