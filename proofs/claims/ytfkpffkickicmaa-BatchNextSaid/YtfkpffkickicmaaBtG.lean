/- The walk of the document's May (layer 5). -/
import Derived.Test.YtfkpffkickicmaaBtF
namespace Go.Proofs.Ytfkpffkickicmaa
open Go.RowKit Go.Sort

theorem satC_ge : ∀ (l : List Rn) (n : Nat), n ≤ 4611686018427387904 → n ≤ satC n l
  | [], n, _ => Nat.le_refl n
  | r :: t, n, h => by
    rw [satC]
    split
    · exact h
    · exact Nat.le_trans (Nat.le_add_right n r.c) (satC_ge t _ (by omega))

theorem cnt_pos {base : List Nat} {l : List Rn} (h : BatchTo base l l.length) (hne : l ≠ []) : 1 ≤ cntN l := by
  rcases l with _ | ⟨x, t⟩
  · exact absurd rfl hne
  · have h1 := (h 0 (by simp) (by simp)).1
    have h2 := (standsB_iff _ _).1 h1
    have h3 : runB x = true := h2.1
    have h4 := (runB_iff x).1 h3
    unfold cntN
    rw [List.filter_cons, if_pos h3, satC]
    split
    · decide
    · exact Nat.le_trans (by omega) (satC_ge _ _ (by omega))

theorem batB_zero (base : List Nat) (l : List Rn) : batB base 0 l = false := by
  rw [Bool.eq_false_iff, Ne, batB_iff]
  rintro ⟨h1, h2, h3⟩
  have := cnt_pos h1 h2
  omega

/-- The sender ahead of place k, or -1. -/
def lastF (l : List Rn) (k : Nat) : Int := if h : 0 < k ∧ k ≤ l.length then ((l[k - 1]'(by omega)).f : Int) else -1

theorem lastF_zero (l : List Rn) : lastF l 0 = -1 := by unfold lastF; rw [dif_neg (by omega)]
theorem lastF_next (l : List Rn) (k : Nat) (h : k < l.length) : lastF l (k + 1) = (l[k].f : Int) := by unfold lastF; rw [dif_pos ⟨by omega, by omega⟩]; simp
theorem lastF_lt {l : List Rn} {k : Nat} (hk : k < l.length) : lastF l k < (l[k].f : Int) ↔ ∀ hp : 0 < k, (l[k - 1]'(by omega)).f < l[k].f := by
  unfold lastF
  by_cases h : 0 < k
  · rw [dif_pos ⟨h, by omega⟩]
    constructor
    · intro h1 _; omega
    · intro h1; have := h1 h; omega
  · rw [dif_neg (by omega)]
    constructor
    · intro _ hp; exact absurd hp h
    · intro _; omega

set_option maxHeartbeats 1600000 in
theorem refMayB_any (A : Option Addr) (n c : Nat) (base : List Nat) (m : Int) (A2 : Option Addr) (n2 c2 : Nat) (l : List Rn) (w : World) (_hn : n ≤ 1000) (hl : base.length = n) (h : Lies w w.heap.size A (uvs base)) (hu : ∀ x ∈ base, x < 18446744073709551616)
    (hm : m ≤ 9223372036854775807) (hn2 : n2 ≤ 1000) (hl2 : l.length = n2) (h2 : Lies w w.heap.size A2 (flat encRn l)) :
    Calls Try.prog 12 #[.slice A n c, .int .i64 m, .slice A2 n2 c2] w fun e w' => e = .returned (.bool (batB base (roomN m) l)) ∧ RowKit.Below w.heap.size w w' := by
  have mixed := mixedOrders
  by_cases h0 : n2 = 0
  · have HR : Hid (batB base (roomN m) l = false) := by
      have : l = [] := List.eq_nil_of_length_eq_zero (by rw [hl2]; exact h0)
      rw [this]; exact batB_none _ _
    generalize batB base (roomN m) l = R at HR ⊢
    subst h0
    clear hl2 hl hu h h2
    go_enter Try.func12, Try.ntmps12
    go_wp2
    go_ret
    rw [HR.out]
    exact ⟨rfl, RowKit.Below.refl _ _⟩
  have hp : 0 < n2 := by omega
  have hz0 : ((n2 : Int) == 0) = false := beq_eq_false_iff_ne.2 (by omega)
  by_cases hm0 : m < 0
  · have HR : Hid (batB base (roomN m) l = false) := by
      have : roomN m = 0 := by unfold roomN; omega
      rw [this]; exact batB_zero _ _
    generalize batB base (roomN m) l = R at HR ⊢
    clear hl2 hl hu h h2 h0
    go_enter Try.func12, Try.ntmps12
    go_wp2
    go_ret
    rw [HR.out]
    exact ⟨rfl, RowKit.Below.refl _ _⟩
  obtain ⟨mm, rfl⟩ : ∃ mm : Nat, m = (mm : Int) := ⟨m.toNat, by omega⟩
  have hcnt := refCount_any A2 n2 c2 l w hl2 hn2 h2
  have HQ : Hid (roomN (mm : Int) = min mm 4096) := by show roomN (mm : Int) = min mm 4096; unfold roomN; omega
  have HB : Hid (∀ k, BatchTo base l k → l.length ≤ k → cntN l ≤ mm → cntN l ≤ 4096 → batB base (roomN (mm : Int)) l = true) := fun k hk hlk h1 h2 => (batB_iff _ _ _).2 ⟨fun i hi hl => hk i (by omega) hl, by rintro rfl; simp at hl2; omega, by rw [HQ.out]; omega⟩
  have HF : Hid (¬ (cntN l ≤ mm ∧ cntN l ≤ 4096) → batB base (roomN (mm : Int)) l = false) := fun hx => by
    rw [Bool.eq_false_iff, Ne, batB_iff]
    rintro ⟨_, _, h3⟩
    rw [HQ.out] at h3
    exact hx (by omega)
  have HNB : Hid (¬ BatchTo base l l.length → batB base (roomN (mm : Int)) l = false) := fun hx => batB_false hx
  generalize batB base (roomN (mm : Int)) l = R at HB HF HNB ⊢
  generalize cntN l = C at hcnt HB HF
  have HL := Lib.hid hl
  have HL2 := Lib.hid hl2
  have HU := Lib.hid hu
  clear hl hl2 hu h0 HQ
  by_cases hC1 : mm < C
  · have HR : Hid (R = false) := HF.out (by omega)
    have hd : decide (mm < C) = true := decide_eq_true hC1
    go_enter Try.func12, Try.ntmps12
    go_wp2_with fail
    refine hcnt.mono ?_
    rintro e w1 ⟨rfl, hb1⟩
    clear hcnt
    go_wp2
    go_ret
    rw [HR.out]
    exact ⟨rfl, hb1⟩
  by_cases hC2 : 4096 < C
  · have HR : Hid (R = false) := HF.out (by omega)
    have hd : decide (mm < C) = false := decide_eq_false hC1
    go_enter Try.func12, Try.ntmps12
    go_wp2_with fail
    refine hcnt.mono ?_
    rintro e w1 ⟨rfl, hb1⟩
    clear hcnt
    go_wp2
    go_ret
    rw [HR.out]
    exact ⟨rfl, hb1⟩
  have hd : decide (mm < C) = false := decide_eq_false hC1
  have HE : Hid (∀ k, BatchTo base l k → l.length ≤ k → R = true) := fun k h1 h2 => HB.out k h1 h2 (by omega) (by omega)
  clear HB HF
  go_enter Try.func12, Try.ntmps12
  go_wp2_with fail
  refine hcnt.mono ?_
  rintro e w1 ⟨rfl, hb1⟩
  have h1' := h.on hb1
  have h2' := h2.on hb1
  clear hcnt h h2
  go_wp2
  go_loopw [8, 9, 10, 30] (fun s8 _ _ i wr => ∃ (k : Nat) (la : Int), k ≤ n2 ∧ i = .int .i64 k ∧ s8 = .int .i64 la ∧ RowKit.Below w1.heap.size w1 wr ∧ Hid (la = lastF l k) ∧ Hid (BatchTo base l k)) (fun _ _ _ i _ => n2 - (intOf i).toNat)
  case atStart => exact ⟨0, -1, Nat.zero_le _, rfl, rfl, RowKit.Below.refl _ _, (lastF_zero l).symm, BatchTo.zero base l⟩
  case round =>
    obtain ⟨k, la, hk, rfl, rfl, hb, hLa, hK⟩ := hrel
    by_cases hlt : k < n2
    · have hkl : k < l.length := by rw [HL2.out]; exact hlt
      obtain ⟨bb, off, rfl, hbl, c0, c1, c2'⟩ := (h2'.below hb).rn hkl
      have hbw : bb < wr.heap.size := Nat.lt_of_lt_of_le hbl hb.size
      have K1 : Hid (standsB base l[k] = false → R = false) := fun h1 => HNB.out (batch_not_stands hkl h1)
      have K2 : Hid (¬ la < (l[k].f : Int) → R = false) := fun h1 => HNB.out (fun hB => h1 (by rw [hLa.out, lastF_lt hkl]; exact (hB k hkl hkl).2))
      have K3 : Hid (standsB base l[k] = true → la < (l[k].f : Int) → BatchTo base l (k + 1)) := fun h1 h2 => hK.out.next hkl h1 ((lastF_lt hkl).1 (by rw [← hLa.out]; exact h2))
      have KL : Hid ((l[k].f : Int) = lastF l (k + 1)) := (lastF_next l k hkl).symm
      have hr := fun W' => refRun_lit l[k] W'
      have hiff := standsB_iff base l[k]
      have hfx := l[k].hf
      have hax := l[k].ha
      have hra := runB_iff l[k]
      generalize l[k] = x at c0 c1 c2' K1 K2 K3 KL hr hiff hfx hax hra
      have HIF := Lib.hid hiff
      have HRA := Lib.hid hra
      have x0 := later_cell (w0 := wr) (b := bb) hbw c0
      have x1 := later_cell (w0 := wr) (b := bb) hbw c1
      have x2 := later_cell (w0 := wr) (b := bb) hbw c2'
      clear c1 c2' hLa hK hiff hra
      generalize runB x = rb at hr HIF HRA
      have hb0 : RowKit.Below w.heap.size w wr := hb1.trans (hb.mono hb1.size)
      cases rb with
      | false =>
        have HR : Hid (R = false) := K1.out (by rw [Bool.eq_false_iff, Ne, HIF.out]; rintro ⟨h, _⟩; cases h)
        go_wp2_with fail
        refine wp_region_later mixed (by kernel_rfl) ?_
        repeat (go_big_quiet_step ((go_at_call 29; exact later_grew (hr _))))
        refine wpQuiet_nil ?_
        intro _ hw'
        obtain ⟨p, rfl⟩ := hw'
        have hbp : RowKit.Below w.heap.size w p.w := hb0.trans (p.hb.mono hb0.size)
        go_wp2
        go_ret
        rw [HR.out]
        exact ⟨rfl, hbp⟩
      | true =>
        by_cases hlx : la < (x.f : Int)
        · have hd2 : decide ((x.f : Int) ≤ la) = false := decide_eq_false (by omega)
          by_cases hfn : x.f < n
          · have hd3 : decide (n ≤ x.f) = false := decide_eq_false (by omega)
            have hk3 : x.f < base.length := by rw [HL.out]; exact hfn
            obtain ⟨bv, ofv, rfl, hbv, hcv⟩ := (h1'.below hb).at_ (uvs_at hk3)
            have hbvw : bv < wr.heap.size := Nat.lt_of_lt_of_le hbv hb.size
            have HN : Hid (num base x.f = base[x.f]) := num_in hk3
            have hy := HU.out _ (List.getElem_mem hk3)
            generalize base[x.f] = y at hcv HN hy
            have y0 := later_cell (w0 := wr) (b := bv) hbvw hcv
            have ha1 : 1 ≤ x.a := (HRA.out.1 rfl).2.1
            have e1 : IntKind.u64.wrap ((x.a : Int) - 1) = ((x.a - 1 : Nat) : Int) := by rw [IntKind.wrap_u64]; omega
            have hz1 : (x.f : Int) < (n : Int) := by omega
            by_cases hay : y = x.a - 1
            · have HN2 : Hid (BatchTo base l (k + 1)) := K3.out (HIF.out.2 ⟨rfl, hk3, by rw [HN.out]; omega⟩) hlx
              have hq1 : ((y : Int) == ((x.a - 1 : Nat) : Int)) = true := beq_iff_eq.2 (by omega)
              have hq2 : ((y : Int) != ((x.a - 1 : Nat) : Int)) = false := by simp [bne, hq1]
              clear hay hk3 hcv
              generalize ((x.a - 1 : Nat) : Int) = z at e1 hq1 hq2
              go_wp2_with fail
              refine wp_region_later mixed (by kernel_rfl) ?_
              repeat (go_big_quiet_step ((go_at_call 29; exact later_grew (hr _))))
              refine wpQuiet_nil ?_
              intro _ hw'
              obtain ⟨p, rfl⟩ := hw'
              have hbp : RowKit.Below w.heap.size w p.w := hb0.trans (p.hb.mono hb0.size)
              have hbq : RowKit.Below w1.heap.size w1 p.w := hb.trans (p.hb.mono hb.size)
              go_wp2
              go_roundw
              case rel => exact ⟨k + 1, (x.f : Int), by omega, by go_num, rfl, hbq, KL, HN2⟩
              case measure => simp [intOf]; omega
            · have HR : Hid (R = false) := K1.out (by rw [Bool.eq_false_iff, Ne, HIF.out]; rintro ⟨_, _, h⟩; rw [HN.out] at h; omega)
              have hq1 : ((y : Int) == ((x.a - 1 : Nat) : Int)) = false := beq_eq_false_iff_ne.2 (by omega)
              have hq2 : ((y : Int) != ((x.a - 1 : Nat) : Int)) = true := by simp [bne, hq1]
              clear hay hk3 hcv
              generalize ((x.a - 1 : Nat) : Int) = z at e1 hq1 hq2
              go_wp2_with fail
              refine wp_region_later mixed (by kernel_rfl) ?_
              repeat (go_big_quiet_step ((go_at_call 29; exact later_grew (hr _))))
              refine wpQuiet_nil ?_
              intro _ hw'
              obtain ⟨p, rfl⟩ := hw'
              have hbp : RowKit.Below w.heap.size w p.w := hb0.trans (p.hb.mono hb0.size)
              go_wp2
              go_ret
              rw [HR.out]
              exact ⟨rfl, hbp⟩
          · have hd3 : decide (n ≤ x.f) = true := decide_eq_true (by omega)
            have HR : Hid (R = false) := K1.out (by rw [Bool.eq_false_iff, Ne, HIF.out]; rintro ⟨_, h, _⟩; rw [HL.out] at h; exact hfn h)
            go_wp2_with fail
            refine wp_region_later mixed (by kernel_rfl) ?_
            repeat (go_big_quiet_step ((go_at_call 29; exact later_grew (hr _))))
            refine wpQuiet_nil ?_
            intro _ hw'
            obtain ⟨p, rfl⟩ := hw'
            have hbp : RowKit.Below w.heap.size w p.w := hb0.trans (p.hb.mono hb0.size)
            go_wp2
            go_ret
            rw [HR.out]
            exact ⟨rfl, hbp⟩
        · have HR : Hid (R = false) := K2.out hlx
          have hd2 : decide ((x.f : Int) ≤ la) = true := decide_eq_true (by omega)
          go_wp2_with fail
          refine wp_region_later mixed (by kernel_rfl) ?_
          repeat (go_big_quiet_step ((go_at_call 29; exact later_grew (hr _))))
          refine wpQuiet_nil ?_
          intro _ hw'
          obtain ⟨p, rfl⟩ := hw'
          have hbp : RowKit.Below w.heap.size w p.w := hb0.trans (p.hb.mono hb0.size)
          go_wp2
          go_ret
          rw [HR.out]
          exact ⟨rfl, hbp⟩
    · have HR : Hid (R = true) := HE.out k hK.out (by rw [HL2.out]; omega)
      have hb0 : RowKit.Below w.heap.size w wr := hb1.trans (hb.mono hb1.size)
      go_wp2
      go_ret
      rw [HR.out]
      exact ⟨rfl, hb0⟩

end Go.Proofs.Ytfkpffkickicmaa
