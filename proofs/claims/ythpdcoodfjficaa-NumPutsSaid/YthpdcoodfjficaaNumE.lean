/- The walk of readNumber: the number at the front of bytes. -/
import Derived.Test.YthpdcoodfjficaaNumD
namespace Go.Proofs.Ythpdcoodfjficaa
open Go.RowKit

/-- The number at the front of l, how many bytes it takes, and the error. -/
def rd (l : List UInt8) (most : Nat) : Nat × Nat × Nat :=
  match l with
  | [] => (0, 0, 2)
  | c :: t =>
    if 8 < c.toNat then (0, 0, 3)
    else if t.length < c.toNat then (0, 0, 2)
    else if 0 < c.toNat ∧ (t[c.toNat - 1]?.getD 0) = 0 then (0, 0, 3)
    else if most < val (t.take c.toNat) then (0, 0, 6)
    else (val (t.take c.toNat), 1 + c.toNat, 0)

/-- What readNumber answers, as values. -/
def rdVal (x : Nat × Nat × Nat) : Value := .tuple #[.int .u64 (x.1 : Int), .int .i64 (x.2.1 : Int), .int .i64 (x.2.2 : Int)]

set_option maxHeartbeats 400000 in
theorem readNumber_empty (A : Option Addr) (c most : Nat) (w : World) :
    Calls Try.prog 28 #[.slice A 0 c, .int .u64 most] w fun e w' => e = .returned (rdVal (rd [] most)) ∧ w = w' := by
  go_enter Try.func28, Try.ntmps28
  go_wp2
  go_ret3
  exact ⟨rfl, rfl⟩

set_option maxHeartbeats 400000 in
theorem readNumber_eight (b off n cap most : Nat) (c : UInt8) (t : List UInt8) (w : World) (hn : 0 < n) (hc : w.cell? ⟨b, off, none⟩ = some (bv c)) (h8 : 8 < c.toNat) :
    Calls Try.prog 28 #[.slice (some ⟨b, off, none⟩) n cap, .int .u64 most] w fun e w' => e = .returned (rdVal (rd (c :: t) most)) ∧ w = w' := by
  unfold bv at hc
  have hr : rd (c :: t) most = (0, 0, 3) := by simp [rd, h8]
  rw [hr]
  clear hr
  have h0 : ((n : Int) == 0) = false := by simp; omega
  go_enter Try.func28, Try.ntmps28
  go_wp2
  go_ret3
  exact ⟨rfl, rfl⟩

set_option maxHeartbeats 400000 in
theorem readNumber_short (b off n cap most : Nat) (c : UInt8) (t : List UInt8) (w : World) (hn : t.length + 1 = n) (hc : w.cell? ⟨b, off, none⟩ = some (bv c)) (h8 : ¬ 8 < c.toNat) (hs : t.length < c.toNat) :
    Calls Try.prog 28 #[.slice (some ⟨b, off, none⟩) n cap, .int .u64 most] w fun e w' => e = .returned (rdVal (rd (c :: t) most)) ∧ w = w' := by
  unfold bv at hc
  have hr : rd (c :: t) most = (0, 0, 2) := by simp [rd, h8, hs]
  rw [hr]
  clear hr
  have h0 : ((n : Int) == 0) = false := by simp; omega
  have h1 : n < 1 + c.toNat := by omega
  have h2 : 0 < n := by omega
  clear hn hs
  go_enter Try.func28, Try.ntmps28
  go_wp2
  go_ret3
  exact ⟨rfl, rfl⟩

set_option maxHeartbeats 400000 in
theorem readNumber_zero (b off n cap most : Nat) (c : UInt8) (t : List UInt8) (w : World) (hn : t.length + 1 = n) (hc : w.cell? ⟨b, off, none⟩ = some (bv c)) (h8 : ¬ 8 < c.toNat) (hs : ¬ t.length < c.toNat)
    (h0 : 0 < c.toNat) (hz : (t[c.toNat - 1]?.getD 0) = 0) (hl : w.cell? ⟨b, off + c.toNat, none⟩ = some (.int .u8 0)) :
    Calls Try.prog 28 #[.slice (some ⟨b, off, none⟩) n cap, .int .u64 most] w fun e w' => e = .returned (rdVal (rd (c :: t) most)) ∧ w = w' := by
  unfold bv at hc
  have hr : rd (c :: t) most = (0, 0, 3) := by simp [rd, h8, hs, hz, h0]
  rw [hr]
  clear hr hz
  have h3 : ((n : Int) == 0) = false := by simp; omega
  have h1 : ¬ n < 1 + c.toNat := by omega
  have h2 : 0 < n := by omega
  have h4 : c.toNat < n := by omega
  clear hn hs
  go_enter Try.func28, Try.ntmps28
  go_wp2
  go_ret3
  exact ⟨rfl, rfl⟩

theorem val_lt : ∀ l : List UInt8, val l < 256 ^ l.length
  | [] => by simp [val]
  | c :: t => by
    have h1 := val_lt t
    have h2 := c.toNat_lt
    rw [val, List.length_cons, Nat.pow_succ]
    omega

theorem val_drop (l : List UInt8) (k : Nat) (h : k < l.length) : val (l.drop k) = l[k].toNat + 256 * val (l.drop (k + 1)) := by
  rw [List.drop_eq_getElem_cons h]; rfl

theorem wrap_u64 (n : Int) : IntKind.u64.wrap n = n % 18446744073709551616 := by simp [IntKind.wrap, IntKind.bits, IntKind.signed]

theorem or_byte (V x : Nat) (h : V < 72057594037927936) (hx : x < 256) : bits .or .u64 (IntKind.u64.wrap ((V : Int) * 256)) (IntKind.u64.wrap (x : Int)) = ((x + 256 * V : Nat) : Int) := by
  have e1 : IntKind.u64.wrap ((V : Int) * 256) = ((V * 256 : Nat) : Int) := by rw [wrap_u64]; omega
  have e2 : IntKind.u64.wrap (x : Int) = (x : Int) := by rw [wrap_u64]; omega
  rw [e1, e2, u64_or_nat _ _ (by omega) (by omega), nat_join 8 _ _ (by omega) (by omega)]
  congr 1
  omega

theorem val_small (l : List UInt8) (h : l.length ≤ 7) : val l < 72057594037927936 := by
  have h1 := val_lt l
  have h2 : 256 ^ l.length ≤ 256 ^ 7 := Nat.pow_le_pow_right (by decide) h
  have h3 : (256 : Nat) ^ 7 = 72057594037927936 := by decide
  omega

theorem digit_step (t : List UInt8) (c k : Nat) (hc : c ≤ 8) (hct : c ≤ t.length) (hk : k ≤ c) (h0 : 0 < k) (hkt : k - 1 < t.length) :
    bits .or .u64 (IntKind.u64.wrap ((val (List.drop k (List.take c t)) : Int) * 256)) (IntKind.u64.wrap (t[k - 1].toNat : Int)) = ((val (List.drop (k - 1) (List.take c t)) : Nat) : Int) := by
  rw [or_byte _ _ (val_small _ (by simp; omega)) (t[k - 1]).toNat_lt, val_drop (List.take c t) (k - 1) (by simp; omega)]
  congr 1
  rw [List.getElem_take, show k - 1 + 1 = k by omega]

theorem rd_ok (c : UInt8) (t : List UInt8) (most : Nat) (h8 : ¬ 8 < c.toNat) (hs : ¬ t.length < c.toNat) (hz : ¬ (0 < c.toNat ∧ (t[c.toNat - 1]?.getD 0) = 0)) (hm : ¬ most < val (t.take c.toNat)) :
    rd (c :: t) most = (val (t.take c.toNat), 1 + c.toNat, 0) := by
  simp only [rd]; rw [if_neg h8, if_neg hs, if_neg hz, if_neg hm]
theorem rd_range (c : UInt8) (t : List UInt8) (most : Nat) (h8 : ¬ 8 < c.toNat) (hs : ¬ t.length < c.toNat) (hz : ¬ (0 < c.toNat ∧ (t[c.toNat - 1]?.getD 0) = 0)) (hm : most < val (t.take c.toNat)) :
    rd (c :: t) most = (0, 0, 6) := by
  simp only [rd]; rw [if_neg h8, if_neg hs, if_neg hz, if_pos hm]

set_option maxHeartbeats 400000 in
theorem readNumber_loop (b off n cap most : Nat) (c : UInt8) (t : List UInt8) (w : World) (hn : t.length + 1 = n) (hc : w.cell? ⟨b, off, none⟩ = some (bv c)) (h8 : ¬ 8 < c.toNat) (hs : ¬ t.length < c.toNat)
    (h0 : 0 < c.toNat) (z : UInt8) (hz : 0 < z.toNat) (hzt : t[c.toNat - 1]? = some z) (hcells : ∀ i, (h : i < t.length) → w.cell? ⟨b, off + (i + 1), none⟩ = some (bv t[i])) :
    Calls Try.prog 28 #[.slice (some ⟨b, off, none⟩) n cap, .int .u64 most] w fun e w' => e = .returned (rdVal (rd (c :: t) most)) ∧ w = w' := by
  unfold bv at hc hcells
  have HC := Lib.hid hcells
  have HN := Lib.hid hn
  have HZ := Lib.hid hzt
  have hl : w.cell? ⟨b, off + c.toNat, none⟩ = some (.int .u8 z.toNat) := by
    have h1 := hcells (c.toNat - 1) (by omega)
    have h2 : t[c.toNat - 1]'(by omega) = z := by rw [List.getElem?_eq_getElem (by omega)] at hzt; injection hzt
    rw [h2] at h1
    rw [← h1]; congr 2; omega
  have h3 : ((n : Int) == 0) = false := by simp; omega
  have h1 : ¬ n < 1 + c.toNat := by omega
  have h2 : 0 < n := by omega
  have h4 : c.toNat < n := by omega
  have h5 : ((z.toNat : Int) == 0) = false := by simp; omega
  have b1 : decide (8 < (c.toNat : Int)) = false := by simp; omega
  have b2 : decide ((n : Int) < 1 + (c.toNat : Int)) = false := by simp; omega
  clear hn hs hcells hzt
  go_enter Try.func28, Try.ntmps28
  go_wp2
  go_loop [4, 7] (fun m i => ∃ k : Nat, k ≤ c.toNat ∧ i = .int .i64 k ∧ m = .int .u64 (val ((t.take c.toNat).drop k))) (fun _ i => (intOf i).toNat)
  case atStart => exact ⟨c.toNat, Nat.le_refl _, by go_num, by rw [List.drop_of_length_le (by simp; omega)]; rfl⟩
  case round =>
    obtain ⟨k, hk, rfl, rfl⟩ := hrel
    by_cases hlt : 0 < k
    · have hx := HC.out (k - 1) (by have := HN.out; omega)
      rw [show k - 1 + 1 = k by omega] at hx
      go_wp2
      go_round
      case rel => exact ⟨k - 1, by omega, by go_num, congrArg _ (digit_step t c.toNat k (by omega) (by have := HN.out; omega) hk hlt (by have := HN.out; omega))⟩
      case measure => simp [intOf]; omega
    · have hk0 : k = 0 := by omega
      subst hk0
      have hs : ¬ t.length < c.toNat := by have := HN.out; omega
      have hnz : ¬ (0 < c.toNat ∧ (t[c.toNat - 1]?.getD 0) = 0) := by
        rw [HZ.out]
        rintro ⟨_, h⟩
        simp at h
        subst h
        simp at hz
      by_cases hm : most < val (t.take c.toNat)
      · have HR := Lib.hid (rd_range c t most h8 hs hnz hm)
        rw [List.drop_zero]
        go_wp2
        go_ret3
        exact ⟨by rw [HR.out]; rfl, rfl⟩
      · have HR := Lib.hid (rd_ok c t most h8 hs hnz hm)
        rw [List.drop_zero]
        go_wp2
        go_ret3
        exact ⟨by rw [HR.out]; rfl, rfl⟩

set_option maxHeartbeats 400000 in
theorem readNumber_none (b off n cap most : Nat) (t : List UInt8) (w : World) (hn : 0 < n) (hc : w.cell? ⟨b, off, none⟩ = some (.int .u8 0)) :
    Calls Try.prog 28 #[.slice (some ⟨b, off, none⟩) n cap, .int .u64 most] w fun e w' => e = .returned (rdVal (rd (0 :: t) most)) ∧ w = w' := by
  have hr : rd (0 :: t) most = (0, 1, 0) := by simp [rd, val]
  rw [hr]
  clear hr
  have h3 : ((n : Int) == 0) = false := by simp; omega
  go_enter Try.func28, Try.ntmps28
  go_wp2
  refine wp_loop_rounds 1 ?_
  rw [rounds_succ]
  go_wp2
  go_ret3
  exact ⟨rfl, rfl⟩

theorem readNumber_any (A : Option Addr) (B n cap most : Nat) (l : List UInt8) (w : World) (hl : l.length = n) (h : Lies w B A (bvs l)) :
    Calls Try.prog 28 #[.slice A n cap, .int .u64 most] w fun e w' => e = .returned (rdVal (rd l most)) ∧ w = w' := by
  rcases l with _ | ⟨c, t⟩
  · simp at hl; subst hl; exact readNumber_empty A cap most w
  · obtain ⟨b, off, rfl, hb, hc⟩ := h (by simp [bvs])
    have hc0 : w.cell? ⟨b, off, none⟩ = some (bv c) := hc 0 _ (by simp [bvs])
    have hct : ∀ i, (h : i < t.length) → w.cell? ⟨b, off + (i + 1), none⟩ = some (bv t[i]) := fun i hi => hc (i + 1) _ (by simp [bvs, hi])
    have hn : t.length + 1 = n := by simpa using hl
    by_cases h8 : 8 < c.toNat
    · exact readNumber_eight b off n cap most c t w (by omega) hc0 h8
    · by_cases hs : t.length < c.toNat
      · exact readNumber_short b off n cap most c t w hn hc0 h8 hs
      · by_cases h0 : 0 < c.toNat
        · have hi : c.toNat - 1 < t.length := by omega
          by_cases hz : t[c.toNat - 1] = 0
          · refine readNumber_zero b off n cap most c t w hn hc0 h8 hs h0 (by simp [hi, hz]) ?_
            have := hct _ hi
            rw [hz, show c.toNat - 1 + 1 = c.toNat by omega] at this
            exact this
          · refine readNumber_loop b off n cap most c t w hn hc0 h8 hs h0 t[c.toNat - 1] ?_ (List.getElem?_eq_getElem hi) hct
            rcases Nat.eq_zero_or_pos (t[c.toNat - 1]).toNat with h | h
            · exact absurd (UInt8.toNat_inj.1 (by simpa using h)) hz
            · exact h
        · have : c = 0 := UInt8.toNat_inj.1 (by simp; omega)
          subst this
          exact readNumber_none b off n cap most t w (by omega) hc0

end Go.Proofs.Ythpdcoodfjficaa
