/- The walk of Lack: by how much a vector falls short of another one. -/
import Derived.Test.YtjhdaddemeegmaaVcA
namespace Go.Proofs.Ytjhdaddemeegmaa
open Go.RowKit

/-- By how much a falls short of b at the first k places. -/
def lackTo (a b : List Nat) : Nat → Nat
  | 0 => 0
  | k + 1 => lackTo a b k + (num b k - num a k)
def lackN (a b : List Nat) : Nat := min (lackTo a b b.length) 18446744073709551615

theorem lackTo_le (a b : List Nat) {k m : Nat} (h : k ≤ m) : lackTo a b k ≤ lackTo a b m := by
  induction m with
  | zero => have : k = 0 := by omega
            subst this; exact Nat.le_refl _
  | succ m ih =>
    by_cases e : k = m + 1
    · subst e; exact Nat.le_refl _
    · have := ih (by omega)
      simp only [lackTo]; omega

theorem lack_over {a b : List Nat} {k : Nat} (hk : k < b.length) (h : 18446744073709551615 < lackTo a b k + (num b k - num a k)) : lackN a b = 18446744073709551615 := by
  have := lackTo_le a b (k := k + 1) (m := b.length) (by omega)
  simp only [lackTo] at this
  unfold lackN
  omega

set_option maxHeartbeats 800000 in
theorem lack_any (A : Option Addr) (n c : Nat) (B : Nat) (a : List Nat) (A2 : Option Addr) (m c2 : Nat) (b : List Nat) (w : World) (hm : m ≤ 1000) (hl : a.length = n) (h : Lies w B A (uvs a)) (hl2 : b.length = m) (h2 : Lies w B A2 (uvs b)) (hu : ∀ x ∈ b, x < 18446744073709551616) :
    Calls Try.prog 15 #[.slice A n c, .slice A2 m c2] w fun e w' => e = .returned (.int .u64 (lackN a b : Int)) ∧ w = w' := by
  have HL := Lib.hid hl
  have HL2 := Lib.hid hl2
  have HU := Lib.hid hu
  clear hl hl2 hu
  go_enter Try.func15, Try.ntmps15
  go_wp2
  go_loop [5, 6, 7, 8, 11] (fun s5 _ _ _ i => ∃ k q : Nat, k ≤ m ∧ i = .int .i64 k ∧ s5 = .int .u64 (q : Int) ∧ q ≤ 18446744073709551615 ∧ Hid (lackTo a b k = q)) (fun _ _ _ _ i => m - (intOf i).toNat)
  case atStart => exact ⟨0, 0, Nat.zero_le _, rfl, rfl, by omega, rfl⟩
  case round =>
    obtain ⟨k, q, hk, rfl, rfl, hq, hK⟩ := hrel
    by_cases hlt : k < m
    · have hk1 : k < b.length := by rw [HL2.out]; exact hlt
      have hy := HU.out _ (List.getElem_mem hk1)
      obtain ⟨bb, off, rfl, hb, hc⟩ := h2.at_ (uvs_at hk1)
      have hat := at_nat A n c k B a w HL.out h
      have K1 : Hid (lackTo a b (k + 1) = q + (b[k] - num a k)) := by
        show _ = _
        rw [← num_in hk1, ← hK.out]; rfl
      have K2 : Hid (18446744073709551615 < q + (b[k] - num a k) → lackN a b = 18446744073709551615) := fun ho => lack_over hk1 (by rw [hK.out, num_in hk1]; exact ho)
      generalize b[k] = y at hc K1 K2 hy
      generalize num a k = x at hat K1 K2
      by_cases hxy : x < y
      · obtain ⟨d, rfl⟩ : ∃ d, y = x + d := ⟨y - x, by omega⟩
        have ed : x + d - x = d := by omega
        rw [ed] at K1 K2
        by_cases ho : 18446744073709551615 < q + d
        · have HO : Hid (lackN a b = 18446744073709551615) := K2.out ho
          clear K1 K2 ed
          go_wp2_with (go_at_call 13; refine hat.mono ?_; rintro e w1 ⟨rfl, rfl⟩)
          go_ret
          exact ⟨by rw [HO.out]; rfl, rfl⟩
        · clear K2 ed
          go_wp2_with (go_at_call 13; refine hat.mono ?_; rintro e w1 ⟨rfl, rfl⟩)
          go_round
          case rel => exact ⟨k + 1, q + d, by omega, by go_num, by go_num, by omega, K1⟩
          case measure => simp [intOf]; omega
      · have ed : y - x = 0 := by omega
        rw [ed, Nat.add_zero] at K1
        clear K2 ed
        go_wp2_with (go_at_call 13; refine hat.mono ?_; rintro e w1 ⟨rfl, rfl⟩)
        go_round
        case rel => exact ⟨k + 1, q, by omega, by go_num, by go_num, by omega, K1⟩
        case measure => simp [intOf]; omega
    · have HA : Hid (lackN a b = q) := by
        have e : k = b.length := by rw [HL2.out]; omega
        show lackN a b = q
        unfold lackN
        rw [← e, hK.out]
        omega
      go_wp2
      go_ret
      exact ⟨by rw [HA.out]; rfl, rfl⟩

end Go.Proofs.Ytjhdaddemeegmaa
