/- What a batch is, and the walk of May (batch). -/
import Derived.Test.YtfkpffkickicmaaBtE
namespace Go.Proofs.Ytfkpffkickicmaa
open Go.RowKit Go.Sort

/-- The first k runs stand on the base, and rise by their senders. -/
def BatchTo (base : List Nat) (l : List Rn) (k : Nat) : Prop := ∀ i, i < k → ∀ h : i < l.length, standsB base l[i] = true ∧ (0 < i → (l[i - 1]'(by omega)).f < l[i].f)

open Classical in
noncomputable def batB (base : List Nat) (m : Nat) (l : List Rn) : Bool := decide (BatchTo base l l.length ∧ l ≠ [] ∧ cntN l ≤ m)

theorem batB_iff (base : List Nat) (m : Nat) (l : List Rn) : batB base m l = true ↔ BatchTo base l l.length ∧ l ≠ [] ∧ cntN l ≤ m := by unfold batB; simp
theorem batB_false {base : List Nat} {m : Nat} {l : List Rn} (h : ¬ BatchTo base l l.length) : batB base m l = false := by rw [Bool.eq_false_iff, Ne, batB_iff]; exact fun h' => h h'.1
theorem batB_none (base : List Nat) (m : Nat) : batB base m [] = false := by rw [Bool.eq_false_iff, Ne, batB_iff]; exact fun h' => h'.2.1 rfl
theorem batB_count {base : List Nat} {m : Nat} {l : List Rn} (h : BatchTo base l l.length) (hne : l ≠ []) : batB base m l = decide (cntN l ≤ m) := by
  rw [Bool.eq_iff_iff, batB_iff, decide_eq_true_eq]
  exact ⟨fun h' => h'.2.2, fun h' => ⟨h, hne, h'⟩⟩

theorem BatchTo.zero (base : List Nat) (l : List Rn) : BatchTo base l 0 := fun _ h => absurd h (by omega)
theorem BatchTo.next {base : List Nat} {l : List Rn} {k : Nat} (h : BatchTo base l k) (hk : k < l.length) (h1 : standsB base l[k] = true) (h2 : ∀ hp : 0 < k, (l[k - 1]'(by omega)).f < l[k].f) : BatchTo base l (k + 1) := fun i hi hl => by
  by_cases e : i = k
  · subst e; exact ⟨h1, h2⟩
  · exact h i (by omega) hl
theorem batch_not_stands {base : List Nat} {l : List Rn} {k : Nat} (hk : k < l.length) (h1 : standsB base l[k] = false) : ¬ BatchTo base l l.length := fun h => by
  have := (h k hk hk).1
  rw [h1] at this
  cases this
theorem batch_not_rising {base : List Nat} {l : List Rn} {k : Nat} (hk : k < l.length) (hp : 0 < k) (h1 : ¬ (l[k - 1]'(by omega)).f < l[k].f) : ¬ BatchTo base l l.length := fun h => h1 ((h k hk hk).2 hp)

set_option maxHeartbeats 1600000 in
theorem mayB_any (A : Option Addr) (n c : Nat) (base : List Nat) (m : Int) (A2 : Option Addr) (n2 c2 : Nat) (l : List Rn) (w : World) (hn : n ≤ 1000) (hl : base.length = n) (h : Lies w w.heap.size A (uvs base)) (hu : ∀ x ∈ base, x < 18446744073709551616)
    (hn2 : n2 ≤ 1000) (hl2 : l.length = n2) (h2 : Lies w w.heap.size A2 (flat encRn l)) :
    Calls Try.prog 11 #[.slice A n c, .int .i64 m, .slice A2 n2 c2] w fun e w' => e = .returned (.bool (batB base (roomN m) l)) ∧ RowKit.Below w.heap.size w w' := by
  have mixed := mixedOrders
  have hq4 := roomN_le m
  have HRM : Hid (∀ W, Calls Try.prog 28 #[.int .i64 m] W fun e w' => e = .returned (.int .i64 (roomN m : Int)) ∧ W = w') := fun W => room_any m W
  have HST : Hid (∀ W, RowKit.Below w.heap.size w W → ∀ x : Rn, Calls Try.prog 26 #[.slice A n c, .agg #[.int .u8 (x.f : Int), .int .u64 (x.a : Int), .int .u64 (x.c : Int)]] W fun e w' => e = .returned (.bool (standsB base x)) ∧ RowKit.Below W.heap.size W w') :=
    fun W hW x => standsOn_lit A n c base x W hn hl (h.on hW) hu
  have HCN : Hid (∀ W, RowKit.Below w.heap.size w W → Calls Try.prog 27 #[.slice A2 n2 c2] W fun e w' => e = .returned (.int .u64 (cntN l)) ∧ RowKit.Below W.heap.size W w') := fun W hW => count_any A2 n2 c2 l W hl2 hn2 (h2.on hW)
  generalize roomN m = q at hq4 HRM ⊢
  have HL2 := Lib.hid hl2
  clear hl2 hl hu h
  go_enter Try.func11, Try.ntmps11
  go_wp2
  go_loopw [7, 8, 11] (fun _ _ i wr => ∃ k : Nat, k ≤ n2 ∧ i = .int .i64 k ∧ RowKit.Below w.heap.size w wr ∧ Hid (BatchTo base l k)) (fun _ _ i _ => n2 - (intOf i).toNat)
  case atStart => exact ⟨0, Nat.zero_le _, rfl, RowKit.Below.refl _ _, BatchTo.zero base l⟩
  case round =>
    obtain ⟨k, hk, rfl, hb, hK⟩ := hrel
    by_cases hlt : k < n2
    · have hkl : k < l.length := by rw [HL2.out]; exact hlt
      obtain ⟨bb, off, rfl, hbl, c0, c1, c2'⟩ := (h2.below hb).rn hkl
      have hbw : bb < wr.heap.size := Nat.lt_of_lt_of_le hbl hb.size
      by_cases hkp : 0 < k
      · obtain ⟨t, rfl⟩ : ∃ t, k = t + 1 := ⟨k - 1, by omega⟩
        have hql : t < l.length := by omega
        obtain ⟨b2, off2, he2, _, d0, d1, d2⟩ := (h2.below hb).rn hql
        obtain ⟨rfl, rfl⟩ : bb = b2 ∧ off = off2 := by injection he2 with he2; injection he2 with e1 e2; exact ⟨e1, e2⟩
        have K1 : Hid (standsB base l[t + 1] = false → batB base q l = false) := fun h1 => batB_false (batch_not_stands hkl h1)
        have K2 : Hid (¬ l[t].f < l[t + 1].f → batB base q l = false) := fun h1 => batB_false (batch_not_rising hkl (by omega) h1)
        have K3 : Hid (standsB base l[t + 1] = true → l[t].f < l[t + 1].f → BatchTo base l (t + 1 + 1)) := fun h1 h2 => hK.out.next hkl h1 (fun _ => h2)
        have hst := fun W hW => HST.out W hW l[t + 1]
        generalize l[t + 1] = x at c0 c1 c2' K1 K2 K3 hst
        generalize l[t] = r at d0 d1 d2 K2 K3
        generalize standsB base x = S at hst K1 K3
        have ewq : IntKind.i64.wrap (t : Int) = (t : Int) := by rw [IntKind.wrap_i64]; omega
        have hz1 : (0 : Int) < (t : Int) + 1 := by omega
        have hz2 : (t : Int) < (n2 : Int) := by omega
        have hz3 : (t : Int) + 1 < (n2 : Int) := by omega
        have hz4 : (0 : Int) ≤ (t : Int) + 1 := by omega
        have ez : ((t : Int) + 1).toNat = t + 1 := by omega
        have HSt := Lib.hid hst
        clear he2 hst
        go_wp2_with fail
        generalize hw0 : World.alloc wr _ = w0
        obtain ⟨hs0, hG, hcc⟩ := box1 wr w0 _ _ hw0
        have x0 := later_cell (w0 := w0) (b := wr.heap.size) (by omega) (hcc 0 _ rfl)
        have x1 := later_cell (w0 := w0) (b := wr.heap.size) (by omega) (hcc 1 _ rfl)
        have x2 := later_cell (w0 := w0) (b := wr.heap.size) (by omega) (hcc 2 _ rfl)
        have y0 := later_cell (w0 := w0) (b := bb) (by omega) ((hG.below.cell (p := ⟨bb, _, none⟩) hbw).trans d0)
        have y1 := later_cell (w0 := w0) (b := bb) (by omega) ((hG.below.cell (p := ⟨bb, _, none⟩) hbw).trans d1)
        have y2 := later_cell (w0 := w0) (b := bb) (by omega) ((hG.below.cell (p := ⟨bb, _, none⟩) hbw).trans d2)
        have hb0 : RowKit.Below w.heap.size w w0 := hb.trans (hG.below.mono hb.size)
        have HS : Hid (∀ p : Later w0, Calls Try.prog 26 #[.slice A n c, .agg #[.int .u8 (x.f : Int), .int .u64 (x.a : Int), .int .u64 (x.c : Int)]] p.w fun e w' => e = .returned (.bool S) ∧ RowKit.Below p.w.heap.size p.w w') := fun p => HSt.out p.w (hb0.trans (p.hb.mono hb0.size))
        clear hcc hw0 hs0 hG c0 c1 c2' d0 d1 d2 HSt
        cases S with
        | false =>
          have HR : Hid (batB base q l = false) := K1.out rfl
          refine wp_region_later mixed (by kernel_rfl) ?_
          repeat (go_big_quiet_step ((go_at_call 26; exact later_of (HS.out _))))
          refine wpQuiet_nil ?_
          intro _ hw'
          obtain ⟨p, rfl⟩ := hw'
          have hbp : RowKit.Below w.heap.size w p.w := hb0.trans (p.hb.mono hb0.size)
          go_wp2
          go_ret
          rw [HR.out]
          exact ⟨rfl, hbp⟩
        | true =>
          by_cases hrx : r.f < x.f
          · have HN : Hid (BatchTo base l (t + 1 + 1)) := K3.out rfl hrx
            have hd : decide (x.f ≤ r.f) = false := decide_eq_false (by omega)
            refine wp_region_later mixed (by kernel_rfl) ?_
            repeat (go_big_quiet_step ((go_at_call 26; exact later_of (HS.out _))))
            refine wpQuiet_nil ?_
            intro _ hw'
            obtain ⟨p, rfl⟩ := hw'
            have hbp : RowKit.Below w.heap.size w p.w := hb0.trans (p.hb.mono hb0.size)
            go_wp2
            go_roundw
            case rel => exact ⟨t + 1 + 1, by omega, by go_num, hbp, HN⟩
            case measure => simp [intOf]; omega
          · have HR : Hid (batB base q l = false) := K2.out hrx
            have hd : decide (x.f ≤ r.f) = true := decide_eq_true (by omega)
            refine wp_region_later mixed (by kernel_rfl) ?_
            repeat (go_big_quiet_step ((go_at_call 26; exact later_of (HS.out _))))
            refine wpQuiet_nil ?_
            intro _ hw'
            obtain ⟨p, rfl⟩ := hw'
            have hbp : RowKit.Below w.heap.size w p.w := hb0.trans (p.hb.mono hb0.size)
            go_wp2
            go_ret
            rw [HR.out]
            exact ⟨rfl, hbp⟩
      · have hk0 : k = 0 := by omega
        subst hk0
        have K1 : Hid (standsB base l[0] = false → batB base q l = false) := fun h1 => batB_false (batch_not_stands hkl h1)
        have K3 : Hid (standsB base l[0] = true → BatchTo base l (0 + 1)) := fun h1 => hK.out.next hkl h1 (fun h => absurd h (by omega))
        simp only [Nat.zero_mul, Nat.add_zero] at c0 c1 c2'
        have hst := fun W hW => HST.out W hW l[0]
        generalize l[0] = x at c0 c1 c2' K1 K3 hst
        generalize standsB base x = S at hst K1 K3
        have HSt := Lib.hid hst
        clear hst
        go_wp2_with fail
        generalize hw0 : World.alloc wr _ = w0
        obtain ⟨hs0, hG, hcc⟩ := box1 wr w0 _ _ hw0
        have x0 := later_cell (w0 := w0) (b := wr.heap.size) (by omega) (hcc 0 _ rfl)
        have x1 := later_cell (w0 := w0) (b := wr.heap.size) (by omega) (hcc 1 _ rfl)
        have x2 := later_cell (w0 := w0) (b := wr.heap.size) (by omega) (hcc 2 _ rfl)
        have hb0 : RowKit.Below w.heap.size w w0 := hb.trans (hG.below.mono hb.size)
        have HS : Hid (∀ p : Later w0, Calls Try.prog 26 #[.slice A n c, .agg #[.int .u8 (x.f : Int), .int .u64 (x.a : Int), .int .u64 (x.c : Int)]] p.w fun e w' => e = .returned (.bool S) ∧ RowKit.Below p.w.heap.size p.w w') := fun p => HSt.out p.w (hb0.trans (p.hb.mono hb0.size))
        clear hcc hw0 hs0 hG c0 c1 c2' HSt
        cases S with
        | false =>
          have HR : Hid (batB base q l = false) := K1.out rfl
          refine wp_region_later mixed (by kernel_rfl) ?_
          repeat (go_big_quiet_step ((go_at_call 26; exact later_of (HS.out _))))
          refine wpQuiet_nil ?_
          intro _ hw'
          obtain ⟨p, rfl⟩ := hw'
          have hbp : RowKit.Below w.heap.size w p.w := hb0.trans (p.hb.mono hb0.size)
          go_wp2
          go_ret
          rw [HR.out]
          exact ⟨rfl, hbp⟩
        | true =>
          have HN : Hid (BatchTo base l (0 + 1)) := K3.out rfl
          refine wp_region_later mixed (by kernel_rfl) ?_
          repeat (go_big_quiet_step ((go_at_call 26; exact later_of (HS.out _))))
          refine wpQuiet_nil ?_
          intro _ hw'
          obtain ⟨p, rfl⟩ := hw'
          have hbp : RowKit.Below w.heap.size w p.w := hb0.trans (p.hb.mono hb0.size)
          go_wp2
          go_roundw
          case rel => exact ⟨0 + 1, by omega, by go_num, hbp, HN⟩
          case measure => simp [intOf]; omega
    · have HK : Hid (BatchTo base l l.length) := by
        have : k = l.length := by rw [HL2.out]; omega
        rw [← this]; exact hK.out
      by_cases h0 : n2 = 0
      · have HR : Hid (batB base q l = false) := by
          have : l = [] := List.eq_nil_of_length_eq_zero (by rw [HL2.out]; exact h0)
          rw [this]; exact batB_none base q
        subst h0
        go_wp2
        go_ret
        rw [HR.out]
        exact ⟨rfl, hb⟩
      · have HR : Hid (batB base q l = decide (cntN l ≤ q)) := batB_count HK.out (by rintro rfl; exact h0 (by simpa using HL2.out.symm))
        have hp : 0 < n2 := by omega
        have hcnt := HCN.out wr hb
        generalize cntN l = C at HR hcnt
        clear HCN
        go_wp2_with fail
        refine hcnt.mono ?_
        rintro e w1 ⟨rfl, hb1⟩
        clear hcnt
        go_wp2_with fail
        refine (HRM.out _).mono ?_
        rintro e w2 ⟨rfl, rfl⟩
        go_wp2
        go_ret
        rw [HR.out]
        exact ⟨rfl, hb.trans (hb1.mono hb.size)⟩

end Go.Proofs.Ytfkpffkickicmaa
