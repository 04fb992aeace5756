/- The walk of the document's Lack. -/
import Derived.Test.YtjhdaddemeegmaaVcG
namespace Go.Proofs.Ytjhdaddemeegmaa
open Go.RowKit

set_option maxHeartbeats 1600000 in
theorem refLack_any (A : Option Addr) (n c : Nat) (a : List Nat) (A2 : Option Addr) (m c2 : Nat) (b : List Nat) (w : World) (hm : m ≤ 1000) (hl : a.length = n) (h : Lies w w.heap.size A (uvs a)) (hl2 : b.length = m) (h2 : Lies w w.heap.size A2 (uvs b)) (hu : ∀ x ∈ b, x < 18446744073709551616) :
    Calls Try.prog 16 #[.slice A n c, .slice A2 m c2] w fun e w' => e = .returned (.int .u64 (lackN a b : Int)) ∧ Below w.heap.size w w' := by
  have mixed := mixedOrders
  have HL := Lib.hid hl
  have HL2 := Lib.hid hl2
  have HU := Lib.hid hu
  have HAT : Hid (∀ (W : World) (k : Nat), Below w.heap.size w W → Calls Try.prog 14 #[.slice A n c, .int .i64 (k : Int)] W fun e w' => e = .returned (.int .u64 (num a k : Int)) ∧ W = w') := fun W k hW => refAt_nat A n c k _ a W HL.out (h.below hW)
  clear hl hl2 h hu
  go_enter Try.func16, Try.ntmps16
  go_wp2
  go_loopw [5, 6, 7, 10] (fun s5 _ _ i wr => ∃ k q : Nat, k ≤ m ∧ i = .int .i64 k ∧ s5 = .int .u64 (q : Int) ∧ q ≤ 18446744073709551615 ∧ Below w.heap.size w wr ∧ Hid (lackTo a b k = q)) (fun _ _ _ i _ => m - (intOf i).toNat)
  case atStart => exact ⟨0, 0, Nat.zero_le _, rfl, rfl, by omega, Below.refl _ _, rfl⟩
  case round =>
    obtain ⟨k, q, hk, rfl, rfl, hq, hb, hK⟩ := hrel
    by_cases hlt : k < m
    · have hk1 : k < b.length := by rw [HL2.out]; exact hlt
      have hy := HU.out _ (List.getElem_mem hk1)
      obtain ⟨bb, off, rfl, hbl, hc⟩ := (h2.below hb).at_ (uvs_at hk1)
      have hbw : bb < wr.heap.size := Nat.lt_of_lt_of_le hbl hb.size
      have x0 := later_cell (w0 := wr) hbw hc
      have K1 : Hid (lackTo a b (k + 1) = q + (b[k] - num a k)) := by
        show _ = _
        rw [← num_in hk1, ← hK.out]; rfl
      have K2 : Hid (18446744073709551615 < q + (b[k] - num a k) → lackN a b = 18446744073709551615) := fun ho => lack_over hk1 (by rw [hK.out, num_in hk1]; exact ho)
      have HATk : Hid (∀ W : World, Below w.heap.size w W → Calls Try.prog 14 #[.slice A n c, .int .i64 (k : Int)] W fun e w' => e = .returned (.int .u64 (num a k : Int)) ∧ W = w') := fun W hW => HAT.out W k hW
      clear hK
      generalize b[k] = y at x0 hc K1 K2 hy
      generalize num a k = x at HATk K1 K2
      have G1 : Hid (∀ p : Later wr, Calls Try.prog 14 #[.slice A n c, .int .i64 (k : Int)] p.w fun e w' => e = .returned (.int .u64 (x : Int)) ∧ p.w = w') := fun p => HATk.out p.w (hb.trans (p.hb.mono hb.size))
      by_cases hxy : x < y
      · obtain ⟨d, rfl⟩ : ∃ d, y = x + d := ⟨y - x, by omega⟩
        have ed : x + d - x = d := by omega
        rw [ed] at K1 K2
        clear ed
        have ed2 : (x : Int) + (d : Int) - (x : Int) = (d : Int) := by omega
        have ed3 : IntKind.u64.wrap (d : Int) = (d : Int) := by rw [IntKind.wrap_u64]; omega
        go_wp2_with fail
        refine wp_region_later mixed (by kernel_rfl) ?_
        repeat (go_big_quiet_step ((go_at_call 14; exact later_same (G1.out _))))
        refine wpQuiet_nil ?_
        intro _ hw'
        obtain ⟨p, rfl⟩ := hw'
        have hbp : Below w.heap.size w p.w := hb.trans (p.hb.mono hb.size)
        have hbw2 : bb < p.w.heap.size := Nat.lt_of_lt_of_le hbw p.hb.size
        have x1 := later_cell (w0 := p.w) hbw2 (x0 p)
        have G2 : Hid (∀ p2 : Later p.w, Calls Try.prog 14 #[.slice A n c, .int .i64 (k : Int)] p2.w fun e w' => e = .returned (.int .u64 (x : Int)) ∧ p2.w = w') := fun p2 => HATk.out p2.w (hbp.trans (p2.hb.mono hbp.size))
        clear x0 hc G1
        go_wp2_with fail
        refine wp_region_later mixed (by kernel_rfl) ?_
        repeat (go_big_quiet_step ((go_at_call 14; exact later_same (G2.out _))))
        refine wpQuiet_nil ?_
        intro _ hw'
        obtain ⟨p2, rfl⟩ := hw'
        have hbp2 : Below w.heap.size w p2.w := hbp.trans (p2.hb.mono hbp.size)
        clear x1 G2 HATk hbp hb
        by_cases ho : 18446744073709551615 < q + d
        · have HO : Hid (lackN a b = 18446744073709551615) := K2.out ho
          have ew : IntKind.u64.wrap ((q : Int) + (d : Int)) = ((q + d - 18446744073709551616 : Nat) : Int) := by rw [IntKind.wrap_u64]; omega
          have ez : q + d - 18446744073709551616 < q := by omega
          have ez2 : ((q + d - 18446744073709551616 : Nat) : Int) < (q : Int) := by omega
          clear K1 K2
          go_wp2
          go_ret
          exact ⟨by rw [HO.out]; rfl, hbp2⟩
        · have ew : IntKind.u64.wrap ((q : Int) + (d : Int)) = (q : Int) + (d : Int) := by rw [IntKind.wrap_u64]; omega
          have ez : ¬ ((q : Int) + (d : Int) < (q : Int)) := by omega
          clear K2
          go_wp2
          go_roundw
          case rel => exact ⟨k + 1, q + d, by omega, by go_num, by go_num, by omega, hbp2, K1⟩
          case measure => simp [intOf]; omega
      · have ed : y - x = 0 := by omega
        rw [ed, Nat.add_zero] at K1
        clear K2 ed
        go_wp2_with fail
        refine wp_region_later mixed (by kernel_rfl) ?_
        repeat (go_big_quiet_step ((go_at_call 14; exact later_same (G1.out _))))
        refine wpQuiet_nil ?_
        intro _ hw'
        obtain ⟨p, rfl⟩ := hw'
        have hbp : Below w.heap.size w p.w := hb.trans (p.hb.mono hb.size)
        clear x0 hc G1
        go_wp2
        go_roundw
        case rel => exact ⟨k + 1, q, by omega, by go_num, by go_num, by omega, hbp, K1⟩
        case measure => simp [intOf]; omega
    · have HA : Hid (lackN a b = q) := by
        have e : k = b.length := by rw [HL2.out]; omega
        show lackN a b = q
        unfold lackN
        rw [← e, hK.out]
        omega
      go_wp2
      go_ret
      exact ⟨by rw [HA.out]; rfl, hb⟩

end Go.Proofs.Ytjhdaddemeegmaa
