/- BatchFair: for every two vectors and every number the call returns true (what is built is a batch, and held; no sender of whom more is held gets less than another one gets, but for one; nothing is left while there is room), and changes nothing that was there. No conditions. -/
import Derived.Test.YtfkpffkickicmaaBtS
import Derived.Test.YtfkpffkickicmaaBtX
import Derived.ChangeOld
namespace Go.Proofs.Ytfkpffkickicmaa
open Go.ChangeShapes Go.WideShapes Go.ChangeAt Go.RowKit

theorem nextL_length (base held : List Nat) (R : Nat) : (nextL base held R).length ≤ 64 := by
  unfold nextL
  refine Nat.le_trans (List.length_filter_le _ _) ?_
  rw [rowOf_length]
  unfold endN
  rw [passes_length]
  unfold startN
  simp
  omega
theorem afterL_length (base : List Nat) (l : List Rn) : (afterL base l).length = base.length := by
  unfold afterL
  split
  · exact addTo_length _ _ _
  · rfl

theorem batchFair_long (A : Option Addr) (n c : Nat) (A2 : Option Addr) (m c2 : Nat) (i : Int) (w : World) (hn : 64 < n) :
    Calls Try.prog 5 #[.slice A n c, .slice A2 m c2, .int .i64 i] w fun e w' => e = .returned (.bool true) ∧ RowKit.Below w.heap.size w w' := by
  have hd : decide (64 < (n : Int)) = true := by simp; omega
  go_enter Try.func5, Try.ntmps5
  go_wp2_with (go_at_call 7; refine (awake_any _).mono ?_; rintro e w' ⟨rfl, hb⟩)
  go_ret
  exact ⟨rfl, hb⟩

theorem batchFair_long2 (A : Option Addr) (n c : Nat) (A2 : Option Addr) (m c2 : Nat) (i : Int) (w : World) (hn : n ≤ 64) (hm : 64 < m) :
    Calls Try.prog 5 #[.slice A n c, .slice A2 m c2, .int .i64 i] w fun e w' => e = .returned (.bool true) ∧ RowKit.Below w.heap.size w w' := by
  have hd : decide (64 < (n : Int)) = false := by simp; omega
  have hd2 : decide (64 < (m : Int)) = true := by simp; omega
  go_enter Try.func5, Try.ntmps5
  go_wp2_with (go_at_call 7; refine (awake_any _).mono ?_; rintro e w' ⟨rfl, hb⟩)
  go_ret
  exact ⟨rfl, hb⟩

set_option maxHeartbeats 6400000 in
set_option maxRecDepth 100000 in
theorem batchFair_walk (A : Option Addr) (n c : Nat) (base : List Nat) (A2 : Option Addr) (m c2 : Nat) (held : List Nat) (most : Int) (w : World) (hn : n ≤ 64) (hm : m ≤ 64)
    (hl : base.length = n) (h : Lies w w.heap.size A (uvs base)) (hu : ∀ x ∈ base, x < 18446744073709551616) (hl2 : held.length = m) (h2 : Lies w w.heap.size A2 (uvs held)) :
    Calls Try.prog 5 #[.slice A n c, .slice A2 m c2, .int .i64 most] w fun e w' => e = .returned (.bool true) ∧ RowKit.Below w.heap.size w w' := by
  have mixed := mixedOrders
  have hd : decide (64 < (n : Int)) = false := by simp; omega
  have hd2 : decide (64 < (m : Int)) = false := by simp; omega
  have hR4 := roomN_le most
  have HMX : Hid (max 0 (min most 4096) = (roomN most : Int)) := by show _ = _; unfold roomN; omega
  have J1 := next_any A n c base A2 m c2 held most w (by omega) hl h hu hl2 h2
  have HLEN := nextL_length base held (roomN most)
  have HBAT : Hid (nextL base held (roomN most) ≠ [] → batB base (roomN most) (nextL base held (roomN most)) = true) := fun hne => next_batch base held _ hR4 hne
  have HHLD : Hid (heldB held (nextL base held (roomN most)) = true) := next_held base held _ hR4
  have HAFT : Hid (∀ i, num (afterL base (nextL base held (roomN most))) i = num base i + num (endN base held (roomN most)).1 i) := next_after base held _ hR4
  have HFAIR : Hid (∀ i, i < n → moreB base held i (num (endN base held (roomN most)).1 i) = true → roomN most ≤ cntN (nextL base held (roomN most)) ∧ longR (nextL base held (roomN most)) ≤ num (endN base held (roomN most)).1 i + 1) := fun i hi hmo => next_fair hR4 (by omega) hmo
  have HSML : Hid (∀ i, num (endN base held (roomN most)).1 i ≤ 4096) := fun i => by have := end_small base held (roomN most) i; omega
  have HAL : Hid ((afterL base (nextL base held (roomN most))).length = n) := by show _ = _; rw [afterL_length]; exact hl
  have JM : Hid (∀ (L : List Rn) (W : World) (A1 : Option Addr) (n1 c1 : Nat), n1 ≤ 64 → L.length = n1 → RowKit.Below w.heap.size w W → Lies W W.heap.size A1 (flat encRn L) → Calls Try.prog 11 #[.slice A n c, .int .i64 most, .slice A1 n1 c1] W fun e w' => e = .returned (.bool (batB base (roomN most) L)) ∧ RowKit.Below W.heap.size W w') := fun L W A1 n1 c1 hn1 hL hW hLi => mayB_any A n c base most A1 n1 c1 L W (by omega) hl (h.on hW) hu (by omega) hL hLi
  have JA : Hid (∀ (L : List Rn) (W : World) (A1 : Option Addr) (n1 c1 : Nat), n1 ≤ 64 → L.length = n1 → RowKit.Below w.heap.size w W → Lies W W.heap.size A1 (flat encRn L) → Calls Try.prog 8 #[.slice A n c, .slice A1 n1 c1] W (OwnedV W W.heap.size (afterL base L))) := fun L W A1 n1 c1 hn1 hL hW hLi => after_any A n c base A1 n1 c1 L W (by omega) hl (h.on hW) hu (by omega) hL hLi
  have JH : Hid (∀ (L : List Rn) (W : World) (A1 : Option Addr) (n1 c1 : Nat), n1 ≤ 64 → L.length = n1 → RowKit.Below w.heap.size w W → Lies W W.heap.size A1 (flat encRn L) → Calls Try.prog 13 #[.slice A2 m c2, .slice A1 n1 c1] W fun e w' => e = .returned (.bool (heldB held L)) ∧ RowKit.Below W.heap.size W w') := fun L W A1 n1 c1 hn1 hL hW hLi => held_any A2 m c2 held A1 n1 c1 L W hl2 (h2.on hW) hL (by omega) hLi
  have JT : Hid (∀ (i : Nat) W', RowKit.Below w.heap.size w W' → Calls Try.prog 22 #[.slice A2 m c2, .int .i64 (i : Int)] W' fun e w' => e = .returned (.int .u64 (num held i : Int)) ∧ W' = w') := fun i W' hW => refAt_nat A2 m c2 i _ held W' hl2 (h2.below hW)
  have HBU : Hid (∀ i, num base i < 18446744073709551616) := fun i => num_lt hu i
  have HL := Lib.hid hl
  generalize nextL base held (roomN most) = L at J1 HLEN HBAT HHLD HAFT HFAIR HAL
  generalize (endN base held (roomN most)).1 = cs at HAFT HFAIR HSML
  generalize roomN most = R at hR4 HMX HBAT HFAIR JM
  clear hl hl2 hu h2
  go_enter Try.func5, Try.ntmps5
  go_wp2_with fail
  refine J1.mono ?_
  rintro e w1 ⟨A3, n3, c3, rfl, hn3, _, _, hown3, hb1⟩
  have hL3 := Lies.of_ownK hown3
  have hn3b : n3 ≤ 64 := by rw [← hn3.out]; exact HLEN
  have haft := JA.out L w1 A3 n3 c3 hn3b hn3.out hb1 hL3
  clear J1 hown3 JA HLEN
  go_wp2_with fail
  refine haft.mono ?_
  intro e w2 ho
  obtain ⟨A4, n4, c4, rfl, hn4, _, _, hL4, hb12⟩ := ho.use
  have e4 : n4 = n := by rw [← hn4.out]; exact HAL.out
  subst e4
  have hb2 : RowKit.Below w.heap.size w w2 := hb1.trans (hb12.mono hb1.size)
  have hL3' := hL3.on hb12
  clear ho haft hL3 hn4
  have hcm : ∀ (w5 : World), RowKit.Below w2.heap.size w2 w5 → True := fun _ _ => trivial
  clear hcm
  generalize afterL base L = aft at HAFT HAL hL4
  by_cases h0 : 0 < n3
  · have hbt := HBAT.out (by rintro rfl; have := hn3.out; simp at this; omega)
    have hmay := JM.out L w2 A3 n3 c3 hn3b hn3.out hb2 hL3'
    rw [hbt] at hmay
    clear hbt JM HBAT
    go_wp2_with fail
    refine hmay.mono ?_
    rintro e w3 ⟨rfl, hb23⟩
    have hb3 : RowKit.Below w.heap.size w w3 := hb2.trans (hb23.mono hb2.size)
    have hhl := JH.out L w3 A3 n3 c3 hn3b hn3.out hb3 (hL3'.on hb23)
    rw [HHLD.out] at hhl
    clear hmay JH HHLD
    go_wp2_with fail
    refine hhl.mono ?_
    rintro e w4 ⟨rfl, hb34⟩
    have hb4 : RowKit.Below w.heap.size w w4 := hb3.trans (hb34.mono hb3.size)
    have hb24 : RowKit.Below w2.heap.size w2 w4 := hb23.trans (hb34.mono hb23.size)
    have hcnt := refCount_any A3 n3 c3 L w4 hn3.out (by omega) (hL3'.on hb24)
    have hL3w := hL3'.on hb24
    have hL4w := hL4.on hb24
    clear hhl hL3' hL4 hb3 hb34 hb23 hb24 hb1 hb12 hb2
    go_wp2_with fail
    refine hcnt.mono ?_
    rintro e w5 ⟨rfl, hb45⟩
    have hb5 : RowKit.Below w.heap.size w w5 := hb4.trans (hb45.mono hb4.size)
    have hLl := hL3w.on hb45
    have hLa := hL4w.on hb45
    clear hcnt hL3w hL4w hb45 hb4
    generalize cntN L = C at HFAIR
    go_wp2
    go_loop [10, 11] (fun s10 s11 => ∃ k : Nat, k ≤ n3 ∧ s11 = .int .i64 k ∧ s10 = .int .u64 (longR (L.take k) : Int)) (fun _ s11 => n3 - (intOf s11).toNat)
    case atStart => exact ⟨0, Nat.zero_le _, rfl, rfl⟩
    case round =>
      obtain ⟨k, hk, rfl, rfl⟩ := hrel
      by_cases hlt : k < n3
      · have hkl : k < L.length := by rw [hn3.out]; exact hlt
        obtain ⟨bb, off, rfl, hbl, c0, c1, c2'⟩ := hLl.rn hkl
        have HS := Lib.hid (longR_snoc L k hkl)
        have hcc := L[k].hc
        have c2k : w5.cell? ⟨bb, off + k * 3 + 2, none⟩ = some (.int .u64 (L[k].c : Int)) := c2'
        generalize L[k] = x at c0 c1 c2' c2k HS hcc
        generalize longR (L.take k) = q at HS
        have HM : Hid (((longR (L.take (k + 1)) : Nat) : Int) = max (q : Int) (x.c : Int)) := by show _ = _; rw [HS.out]; omega
        clear HS
        go_wp2
        go_round
        case rel => exact ⟨k + 1, by omega, by go_num, by rw [HM.out]⟩
        case measure => simp [intOf]; omega
      · have hA : L.take k = L := List.take_of_length_le (by rw [hn3.out]; omega)
        rw [hA]
        generalize longR L = G at HFAIR
        clear hA
        go_wp2
        go_loopw [12] (fun s12 wr => ∃ i : Nat, i ≤ n4 ∧ s12 = .int .i64 i ∧ RowKit.Below w5.heap.size w5 wr) (fun s12 _ => n4 - (intOf s12).toNat)
        case atStart => exact ⟨0, Nat.zero_le _, rfl, RowKit.Below.refl _ _⟩
        case round =>
          obtain ⟨i, hi, rfl, hbr⟩ := hrel
          have hbW : RowKit.Below w.heap.size w wr := hb5.trans (hbr.mono hb5.size)
          by_cases hlt2 : i < n4
          · have hia : i < aft.length := by rw [HAL.out]; exact hlt2
            have hib : i < base.length := by rw [HL.out]; exact hlt2
            obtain ⟨ba, offa, rfl, hbla, hca⟩ := (hLa.below hbr).at_ (uvs_at hia)
            obtain ⟨bz, offz, rfl, hblz, hcz⟩ := (h.below hbW).at_ (uvs_at hib)
            have hX := HAFT.out i
            rw [num_in hia] at hX
            have hfair := HFAIR.out i hlt2
            have hmo := moreB_iff base held i (num cs i)
            have hsm := HSML.out i
            have hbu := HBU.out i
            rw [num_in hib] at hX hmo hbu
            have HA2 : Hid (∀ p : Later wr, Calls Try.prog 22 #[.slice A2 m c2, .int .i64 (i : Int)] p.w fun e w' => e = .returned (.int .u64 (num held i : Int)) ∧ p.w = w') := fun p => JT.out i p.w (hbW.trans (p.hb.mono hbW.size))
            generalize moreB base held i (num cs i) = mo at hfair hmo
            generalize num held i = y at hmo HA2
            generalize num cs i = q at hX hfair hmo hsm
            rw [hX] at hca
            generalize base[i] = Y at hca hcz hmo hbu
            have hbaw : ba < wr.heap.size := Nat.lt_of_lt_of_le hbla hbr.size
            have hbzw : bz < wr.heap.size := Nat.lt_of_lt_of_le hblz hbW.size
            have p0 := later_cell (w0 := wr) (b := ba) hbaw hca
            have p1 := later_cell (w0 := wr) (b := bz) hbzw hcz
            have hiz : (i : Int) < (n4 : Int) := by omega
            have HMO := Lib.hid hmo
            have HFR := Lib.hid hfair
            have hb0 := hbW
            clear hX hfair hmo hca hcz hia hib
            by_cases hX1 : Y + q < y
            · by_cases hX2 : Y + q < 4611686018427387904
              · obtain ⟨f1, f2⟩ := HFR.out (HMO.out.2 ⟨hX1, hX2⟩)
                have HD2 : Hid (decide (((Y + q : Nat) : Int) < 4611686018427387904) = true) := decide_eq_true (by omega)
                have HD2n : Hid (decide (Y + q < 4611686018427387904) = true) := decide_eq_true hX2
                have ec : IntKind.u64.wrap (((Y + q : Nat) : Int) - (Y : Int)) = (q : Int) := by rw [IntKind.wrap_u64]; omega
                have ec1 : IntKind.u64.wrap ((q : Int) + 1) = ((q + 1 : Nat) : Int) := by rw [IntKind.wrap_u64]; omega
                have hdR : decide (C < R) = false := decide_eq_false (by omega)
                have hdG : decide (q + 1 < G) = false := decide_eq_false (by omega)
                generalize Y + q = X at p0 hX1 HD2 HD2n ec
                have hd1 : decide (X < y) = true := decide_eq_true hX1
                generalize q + 1 = q1 at ec1 hdG
                have eR : IntKind.u64.wrap (R : Int) = (R : Int) := by rw [IntKind.wrap_u64]; omega
                clear hX2 f1 f2 hX1
                have hmx := HMX.out
                have HEC := Lib.hid (And.intro ec ec1)
                clear ec ec1
                go_wp2_with fail
                refine wp_region_later mixed (by kernel_rfl) ?_
                repeat (go_big_quiet_step ((go_at_call 22; exact later_same (HA2.out _))))
                refine wpQuiet_nil ?_
                intro _ hw'
                obtain ⟨p, rfl⟩ := hw'
                have hbp : RowKit.Below w.heap.size w p.w := hb0.trans (p.hb.mono hb0.size)
                (try rw [HD2.out])
                (try rw [HD2n.out])
                obtain ⟨ec, ec1⟩ := HEC.out
                have r0 := fun pp : Later p.w => (pp.hb.cell (p := ⟨ba, offa + i, none⟩) (Nat.lt_of_lt_of_le hbaw p.hb.size)).trans (p0 p)
                have r1 := fun pp : Later p.w => (pp.hb.cell (p := ⟨bz, offz + i, none⟩) (Nat.lt_of_lt_of_le hbzw p.hb.size)).trans (p1 p)
                have hbq : RowKit.Below w5.heap.size w5 p.w := hbr.trans (p.hb.mono hbr.size)
                have hb0 := hbp
                generalize p.w = w6 at r0 r1 hbq hb0 ⊢
                clear p0 p1 hbp HA2
                go_wp2_with fail
                refine wp_region_later mixed (by kernel_rfl) ?_
                repeat (go_big_quiet_step (fail))
                refine wpQuiet_nil ?_
                intro _ hw'
                obtain ⟨p, rfl⟩ := hw'
                have hbp : RowKit.Below w.heap.size w p.w := hb0.trans (p.hb.mono hb0.size)
                have hbq2 : RowKit.Below w5.heap.size w5 p.w := hbq.trans (p.hb.mono hbq.size)
                clear r0 r1
                go_wp2
                go_roundw
                case rel => exact ⟨i + 1, by omega, by go_num, hbq2⟩
                case measure => simp [intOf]; omega
              · have HD2 : Hid (decide (((Y + q : Nat) : Int) < 4611686018427387904) = false) := decide_eq_false (by omega)
                have HD2n : Hid (decide (Y + q < 4611686018427387904) = false) := decide_eq_false hX2
                generalize Y + q = X at p0 hX1 HD2 HD2n
                have hd1 : decide (X < y) = true := decide_eq_true hX1
                clear hX2 hX1
                go_wp2_with fail
                refine wp_region_later mixed (by kernel_rfl) ?_
                repeat (go_big_quiet_step ((go_at_call 22; exact later_same (HA2.out _))))
                refine wpQuiet_nil ?_
                intro _ hw'
                obtain ⟨p, rfl⟩ := hw'
                have hbp : RowKit.Below w.heap.size w p.w := hb0.trans (p.hb.mono hb0.size)
                (try rw [HD2.out])
                (try rw [HD2n.out])
                have hbq : RowKit.Below w5.heap.size w5 p.w := hbr.trans (p.hb.mono hbr.size)
                clear p0 p1 HA2
                go_wp2
                go_roundw
                case rel => exact ⟨i + 1, by omega, by go_num, hbq⟩
                case measure => simp [intOf]; omega
            · generalize Y + q = X at p0 hX1
              have hd1 : decide (X < y) = false := decide_eq_false hX1
              clear hX1
              go_wp2_with fail
              refine wp_region_later mixed (by kernel_rfl) ?_
              repeat (go_big_quiet_step ((go_at_call 22; exact later_same (HA2.out _))))
              refine wpQuiet_nil ?_
              intro _ hw'
              obtain ⟨p, rfl⟩ := hw'
              have hbp : RowKit.Below w.heap.size w p.w := hb0.trans (p.hb.mono hb0.size)
              have hbq : RowKit.Below w5.heap.size w5 p.w := hbr.trans (p.hb.mono hbr.size)
              clear p0 p1 HA2
              go_wp2
              go_roundw
              case rel => exact ⟨i + 1, by omega, by go_num, hbq⟩
              case measure => simp [intOf]; omega
          · go_wp2_with fail
            refine (awake_any _).mono ?_
            rintro e w7 ⟨rfl, hb67⟩
            go_wp2
            go_ret
            exact ⟨rfl, hbW.trans (hb67.mono hbW.size)⟩
  · have hn0 : n3 = 0 := by omega
    subst hn0
    have hcnt := refCount_any A3 0 c3 L w2 hn3.out (by omega) hL3'
    have hL3w := hL3'
    have hL4w := hL4
    have hb4 := hb2
    generalize w2 = w4 at hcnt hL3w hL4w hb4 ⊢
    clear hL3' hL4 JM JH HBAT HHLD hb1 hb12 hb2
    go_wp2_with fail
    refine hcnt.mono ?_
    rintro e w5 ⟨rfl, hb45⟩
    have hb5 : RowKit.Below w.heap.size w w5 := hb4.trans (hb45.mono hb4.size)
    have hLl := hL3w.on hb45
    have hLa := hL4w.on hb45
    clear hcnt hL3w hL4w hb45 hb4
    generalize cntN L = C at HFAIR
    go_wp2
    go_loop [10, 11] (fun s10 s11 => ∃ k : Nat, k ≤ 0 ∧ s11 = .int .i64 k ∧ s10 = .int .u64 (longR (L.take k) : Int)) (fun _ s11 => 0 - (intOf s11).toNat)
    case atStart => exact ⟨0, Nat.zero_le _, rfl, rfl⟩
    case round =>
      obtain ⟨k, hk, rfl, rfl⟩ := hrel
      by_cases hlt : k < 0
      · exact absurd hlt (by omega)
      · have hA : L.take k = L := List.take_of_length_le (by rw [hn3.out]; omega)
        rw [hA]
        generalize longR L = G at HFAIR
        clear hA
        go_wp2
        go_loopw [12] (fun s12 wr => ∃ i : Nat, i ≤ n4 ∧ s12 = .int .i64 i ∧ RowKit.Below w5.heap.size w5 wr) (fun s12 _ => n4 - (intOf s12).toNat)
        case atStart => exact ⟨0, Nat.zero_le _, rfl, RowKit.Below.refl _ _⟩
        case round =>
          obtain ⟨i, hi, rfl, hbr⟩ := hrel
          have hbW : RowKit.Below w.heap.size w wr := hb5.trans (hbr.mono hb5.size)
          by_cases hlt2 : i < n4
          · have hia : i < aft.length := by rw [HAL.out]; exact hlt2
            have hib : i < base.length := by rw [HL.out]; exact hlt2
            obtain ⟨ba, offa, rfl, hbla, hca⟩ := (hLa.below hbr).at_ (uvs_at hia)
            obtain ⟨bz, offz, rfl, hblz, hcz⟩ := (h.below hbW).at_ (uvs_at hib)
            have hX := HAFT.out i
            rw [num_in hia] at hX
            have hfair := HFAIR.out i hlt2
            have hmo := moreB_iff base held i (num cs i)
            have hsm := HSML.out i
            have hbu := HBU.out i
            rw [num_in hib] at hX hmo hbu
            have HA2 : Hid (∀ p : Later wr, Calls Try.prog 22 #[.slice A2 m c2, .int .i64 (i : Int)] p.w fun e w' => e = .returned (.int .u64 (num held i : Int)) ∧ p.w = w') := fun p => JT.out i p.w (hbW.trans (p.hb.mono hbW.size))
            generalize moreB base held i (num cs i) = mo at hfair hmo
            generalize num held i = y at hmo HA2
            generalize num cs i = q at hX hfair hmo hsm
            rw [hX] at hca
            generalize base[i] = Y at hca hcz hmo hbu
            have hbaw : ba < wr.heap.size := Nat.lt_of_lt_of_le hbla hbr.size
            have hbzw : bz < wr.heap.size := Nat.lt_of_lt_of_le hblz hbW.size
            have p0 := later_cell (w0 := wr) (b := ba) hbaw hca
            have p1 := later_cell (w0 := wr) (b := bz) hbzw hcz
            have hiz : (i : Int) < (n4 : Int) := by omega
            have HMO := Lib.hid hmo
            have HFR := Lib.hid hfair
            have hb0 := hbW
            clear hX hfair hmo hca hcz hia hib
            by_cases hX1 : Y + q < y
            · by_cases hX2 : Y + q < 4611686018427387904
              · obtain ⟨f1, f2⟩ := HFR.out (HMO.out.2 ⟨hX1, hX2⟩)
                have HD2 : Hid (decide (((Y + q : Nat) : Int) < 4611686018427387904) = true) := decide_eq_true (by omega)
                have HD2n : Hid (decide (Y + q < 4611686018427387904) = true) := decide_eq_true hX2
                have ec : IntKind.u64.wrap (((Y + q : Nat) : Int) - (Y : Int)) = (q : Int) := by rw [IntKind.wrap_u64]; omega
                have ec1 : IntKind.u64.wrap ((q : Int) + 1) = ((q + 1 : Nat) : Int) := by rw [IntKind.wrap_u64]; omega
                have hdR : decide (C < R) = false := decide_eq_false (by omega)
                have hdG : decide (q + 1 < G) = false := decide_eq_false (by omega)
                generalize Y + q = X at p0 hX1 HD2 HD2n ec
                have hd1 : decide (X < y) = true := decide_eq_true hX1
                generalize q + 1 = q1 at ec1 hdG
                have eR : IntKind.u64.wrap (R : Int) = (R : Int) := by rw [IntKind.wrap_u64]; omega
                clear hX2 f1 f2 hX1
                have hmx := HMX.out
                have HEC := Lib.hid (And.intro ec ec1)
                clear ec ec1
                go_wp2_with fail
                refine wp_region_later mixed (by kernel_rfl) ?_
                repeat (go_big_quiet_step ((go_at_call 22; exact later_same (HA2.out _))))
                refine wpQuiet_nil ?_
                intro _ hw'
                obtain ⟨p, rfl⟩ := hw'
                have hbp : RowKit.Below w.heap.size w p.w := hb0.trans (p.hb.mono hb0.size)
                (try rw [HD2.out])
                (try rw [HD2n.out])
                obtain ⟨ec, ec1⟩ := HEC.out
                have r0 := fun pp : Later p.w => (pp.hb.cell (p := ⟨ba, offa + i, none⟩) (Nat.lt_of_lt_of_le hbaw p.hb.size)).trans (p0 p)
                have r1 := fun pp : Later p.w => (pp.hb.cell (p := ⟨bz, offz + i, none⟩) (Nat.lt_of_lt_of_le hbzw p.hb.size)).trans (p1 p)
                have hbq : RowKit.Below w5.heap.size w5 p.w := hbr.trans (p.hb.mono hbr.size)
                have hb0 := hbp
                generalize p.w = w6 at r0 r1 hbq hb0 ⊢
                clear p0 p1 hbp HA2
                go_wp2_with fail
                refine wp_region_later mixed (by kernel_rfl) ?_
                repeat (go_big_quiet_step (fail))
                refine wpQuiet_nil ?_
                intro _ hw'
                obtain ⟨p, rfl⟩ := hw'
                have hbp : RowKit.Below w.heap.size w p.w := hb0.trans (p.hb.mono hb0.size)
                have hbq2 : RowKit.Below w5.heap.size w5 p.w := hbq.trans (p.hb.mono hbq.size)
                clear r0 r1
                go_wp2
                go_roundw
                case rel => exact ⟨i + 1, by omega, by go_num, hbq2⟩
                case measure => simp [intOf]; omega
              · have HD2 : Hid (decide (((Y + q : Nat) : Int) < 4611686018427387904) = false) := decide_eq_false (by omega)
                have HD2n : Hid (decide (Y + q < 4611686018427387904) = false) := decide_eq_false hX2
                generalize Y + q = X at p0 hX1 HD2 HD2n
                have hd1 : decide (X < y) = true := decide_eq_true hX1
                clear hX2 hX1
                go_wp2_with fail
                refine wp_region_later mixed (by kernel_rfl) ?_
                repeat (go_big_quiet_step ((go_at_call 22; exact later_same (HA2.out _))))
                refine wpQuiet_nil ?_
                intro _ hw'
                obtain ⟨p, rfl⟩ := hw'
                have hbp : RowKit.Below w.heap.size w p.w := hb0.trans (p.hb.mono hb0.size)
                (try rw [HD2.out])
                (try rw [HD2n.out])
                have hbq : RowKit.Below w5.heap.size w5 p.w := hbr.trans (p.hb.mono hbr.size)
                clear p0 p1 HA2
                go_wp2
                go_roundw
                case rel => exact ⟨i + 1, by omega, by go_num, hbq⟩
                case measure => simp [intOf]; omega
            · generalize Y + q = X at p0 hX1
              have hd1 : decide (X < y) = false := decide_eq_false hX1
              clear hX1
              go_wp2_with fail
              refine wp_region_later mixed (by kernel_rfl) ?_
              repeat (go_big_quiet_step ((go_at_call 22; exact later_same (HA2.out _))))
              refine wpQuiet_nil ?_
              intro _ hw'
              obtain ⟨p, rfl⟩ := hw'
              have hbp : RowKit.Below w.heap.size w p.w := hb0.trans (p.hb.mono hb0.size)
              have hbq : RowKit.Below w5.heap.size w5 p.w := hbr.trans (p.hb.mono hbr.size)
              clear p0 p1 HA2
              go_wp2
              go_roundw
              case rel => exact ⟨i + 1, by omega, by go_num, hbq⟩
              case measure => simp [intOf]; omega
          · go_wp2_with fail
            refine (awake_any _).mono ?_
            rintro e w7 ⟨rfl, hb67⟩
            go_wp2
            go_ret
            exact ⟨rfl, hbW.trans (hb67.mono hbW.size)⟩


theorem own : ownKnob Try.prog.godebug = none := by kernel_rfl
theorem laidOut : laidOutB Try.prog = true := by kernel_rfl

set_option maxRecDepth 100000 in
theorem batchFair_lifted (os : Os) (started : os.Started) (H : Type) (enc : TypeId × Value → H) :
    ReturnsInHanded {} Try.checked os 5 .any (Rows.batchFairSpec.pre6 enc Try.prog Try.f5 Rows.batchFairRow.domain false) (Rows.batchFairSpec.post enc Try.prog Try.f5 false true false false) := by
  refine returnsInHanded_of_change (C := Try.checked) own started (by kernel_rfl) Try.func5
    (ChangeSpec.witness6 (enc := enc) (C := Try.checked) false ⟨#[], #[.slice none 0 0, .slice none 0 0, .int .i64 0], []⟩ 8 (by kernel_rfl) (by kernel_rfl) (by kernel_rfl) (by kernel_rfl)) ?_
  intro W base args ds gs before hval0 hW _ _
  have hval : ∀ (j : Nat) t v, Try.f5.params[j]? = some t → args[j]? = some v → Value.okWide Try.prog W .any base t v := hval0
  have hW' := hW
  obtain ⟨p, q, hA0, hV, rfl, _, _⟩ := hW
  have hA : DataW.TrodAll enc Try.prog W 0 (fun _ => true) true Try.f5.params.toList args.toList ds p := hA0
  rw [Try.params5] at hA hval
  obtain ⟨v0, vs0, d0, ds0, p0, q0, hargs, rfl, rfl, h0, r0⟩ := trodAll_cons hA
  obtain ⟨v1, vs1, d1, ds1, p1, q1, rfl, rfl, rfl, h1, r1⟩ := trodAll_cons r0
  obtain ⟨v2, vs2, d2, ds2, p2, q2, rfl, rfl, rfl, h2, r2⟩ := trodAll_cons r1
  obtain ⟨rfl, rfl, rfl⟩ := trodAll_nil r2
  obtain rfl : args = #[v0, v1, v2] := by cases args; simp_all
  obtain ⟨rfl, rfl⟩ := trodVars_none hV
  have k0 := h0
  have lt0 : ∀ x ∈ p0, x.block < W.heap.size := by obtain ⟨m, hm⟩ := k0; exact DataW.trod_lt m _ _ _ hm
  have k1 := h1
  have lt1 : ∀ x ∈ p1, x.block < W.heap.size := by obtain ⟨m, hm⟩ := k1; exact DataW.trod_lt m _ _ _ hm
  have k2 := h2
  have lt2 : ∀ x ∈ p2, x.block < W.heap.size := by obtain ⟨m, hm⟩ := k2; exact DataW.trod_lt m _ _ _ hm
  have hwalk : Calls Try.prog 5 #[v0, v1, v2] W fun e w' => e = .returned (.bool true) ∧ Below W.heap.size W w' := by
    obtain ⟨a0, len0, cap0, rfl⟩ := okWide_slice Try.underlying22 (hval 0 22 v0 rfl rfl)
    obtain ⟨a1, len1, cap1, rfl⟩ := okWide_slice Try.underlying22 (hval 1 22 v1 rfl rfl)
    obtain ⟨x2, rfl, _, _, _⟩ := open_int Try.underlying3 (hval 2 3 v2 rfl rfl) h2
    obtain ⟨fuel, hf⟩ := h0
    obtain ⟨fuel1, hf1⟩ := h1
    obtain ⟨a, A, n, c, hv, hl, hc1, hc2, hL, hu⟩ := open_nums Try.underlying22 Try.underlying40 (by kernel_rfl) (by simpa [Value.cells] using hf)
    obtain ⟨b, A2, m, c2, hv2, hl2, hc3, hc4, hL2, hu2⟩ := open_nums Try.underlying22 Try.underlying40 (by kernel_rfl) (by simpa [Value.cells] using hf1)
    rw [hv, hv2]
    by_cases hn : n ≤ 64
    · by_cases hm : m ≤ 64
      · exact batchFair_walk A n c a A2 m c2 b x2 W hn hm hl hL hu hl2 hL2
      · exact batchFair_long2 A n c A2 m c2 _ W hn (by omega)
    · exact batchFair_long A n c A2 m c2 _ W (by omega)
  clear hA0 hval0
  refine hwalk.mono fun e W' ⟨he, bel⟩ => ?_
  subst he
  exact ⟨_, rfl, _, _, _, [], _, [], hW', trodAll_mk1 (shut_bool Try.underlying4 _), (trodAll_cons_mk (Below.trod laidOut (by kernel_rfl) (of_decide_eq_true (by kernel_rfl)) k0 bel lt0) (trodAll_cons_mk (Below.trod laidOut (by kernel_rfl) (of_decide_eq_true (by kernel_rfl)) k1 bel lt1) (trodAll_cons_mk (Below.trod laidOut (by kernel_rfl) (of_decide_eq_true (by kernel_rfl)) k2 bel lt2) trodAll_mk0))), rfl, bel.frame _, fun h => by cases h⟩

theorem batchFair_proved : Rows.BatchFairSaid :=
  OpenClaim.holds_of_wide 5 Try.f5 rfl rfl rfl rfl rfl rfl rfl ⟨rfl, rfl, rfl, rfl, rfl⟩ rfl rfl rfl rfl rfl (by kernel_rfl) Try.func5 (by kernel_rfl)
    (of_decide_eq_true (by kernel_rfl)) (by unfold Func.isWrapper; first | (rw [if_pos (by decide +kernel)]; kernel_rfl) | (rw [if_neg (by decide +kernel)]; exact ⟨rfl, rfl⟩))
    (fun os started H enc _ => batchFair_lifted os started H enc)

end Go.Proofs.Ytfkpffkickicmaa
