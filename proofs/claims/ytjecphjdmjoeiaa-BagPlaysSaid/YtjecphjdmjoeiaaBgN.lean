/- near: do bytes differ within 32 bits in a row. -/
import Derived.Test.YtjecphjdmjoeiaaBgL
namespace Go.Proofs.Ytjecphjdmjoeiaa
open Go.RowKit Go.Sort

/-- The first and the last of the first k bits in which bytes differ; -1, if none does. -/
def difs (a b : List UInt8) : Nat → Int × Int
  | 0 => (-1, -1)
  | k + 1 => if tb a k != tb b k then (if (difs a b k).1 < 0 then (k : Int) else (difs a b k).1, (k : Int)) else difs a b k

def nearB (a b : List UInt8) : Bool := decide ((difs a b (8 * a.length)).2 - (difs a b (8 * a.length)).1 < 32)

theorem difs_turned {a b : List UInt8} {p s : Nat} (h : Turned a b p s 32) : ∀ k, k ≤ 8 * a.length → difs a b k = (-1, -1) ∨ ((p : Int) ≤ (difs a b k).1 ∧ (difs a b k).1 < (p : Int) + 32 ∧ (p : Int) ≤ (difs a b k).2 ∧ (difs a b k).2 < (p : Int) + 32)
  | 0, _ => .inl rfl
  | k + 1, hk => by
    have ih := difs_turned h k (by omega)
    unfold difs
    split
    · next hd =>
      have ht := h.2 k (by omega)
      have hin : p ≤ k ∧ k < p + 32 := by
        by_cases hp : p ≤ k ∧ k < p + 32
        · exact hp
        · rw [decide_eq_false hp, Bool.false_and, Bool.xor_false] at ht
          rw [ht] at hd
          simp at hd
      right
      rcases ih with e | ⟨h1, h2, h3, h4⟩
      · rw [e]
        simp only []
        rw [if_pos (by decide)]
        omega
      · rw [if_neg (by omega)]
        exact ⟨h1, h2, by show (p : Int) ≤ (k : Int); omega, by show (k : Int) < _; omega⟩
    · exact ih

theorem near_turned {a b : List UInt8} {p s : Nat} (h : Turned a b p s 32) : nearB a b = true := by
  unfold nearB
  rw [decide_eq_true_eq]
  rcases difs_turned h (8 * a.length) (Nat.le_refl _) with e | ⟨h1, h2, h3, h4⟩
  · rw [e]; decide
  · omega

theorem difs_range (a b : List UInt8) : ∀ k, -1 ≤ (difs a b k).1 ∧ (difs a b k).1 < k ∧ -1 ≤ (difs a b k).2 ∧ (difs a b k).2 < (k : Int)
  | 0 => by simp [difs]
  | k + 1 => by
    have ih := difs_range a b k
    unfold difs
    split
    · split <;> simp only [] <;> omega
    · omega

theorem bit_dif (x y j : Nat) : ((x ^^^ y : Nat) / 2 ^ j % 2 = 1) ↔ (x.testBit j != y.testBit j) = true := by
  have h := Nat.testBit_xor x y j
  rw [Nat.testBit_eq_decide_div_mod_eq] at h
  rw [← decide_eq_true_eq (p := (x ^^^ y) / 2 ^ j % 2 = 1), h]

theorem str_at (l : List UInt8) (i : Nat) (hi : i < l.length) (h : i < (str l).size) : (str l)[i]'h = l.getD i 0 := by
  simp [str, ByteArray.getElem_eq_getElem_data, List.getD, hi]

set_option maxHeartbeats 1600000 in
theorem near_any (a b : List UInt8) (w : World) (hn : a.length ≤ 1000) (hab : b.length = a.length) :
    Calls Try.prog 18 #[.string (str a), .string (str b)] w fun e w' => e = .returned (.bool (nearB a b)) ∧ RowKit.Below w.heap.size w w' := by
  have sza : (str a).size = a.length := by simp [str, ByteArray.size]
  have szb : (str b).size = a.length := by rw [← hab]; simp [str, ByteArray.size]
  unfold nearB
  generalize hn' : a.length = n at hn sza szb hab
  have HN := Lib.hid hn'
  have HB := Lib.hid hab
  clear hn' hab
  go_enter Try.func18, Try.ntmps18
  go_wp2_with fail
  go_loopw [5, 6, 7] (fun s5 s6 s7 wr => ∃ (k : Nat) (d1 d2 : Int), k ≤ 8 * n ∧ s7 = .int .i64 k ∧ s5 = .int .i64 d1 ∧ s6 = .int .i64 d2 ∧ Hid (difs a b k = (d1, d2)) ∧ RowKit.Below w.heap.size w wr) (fun _ _ s7 _ => 8 * n - (intOf s7).toNat)
  case atStart => exact ⟨0, -1, -1, Nat.zero_le _, rfl, rfl, rfl, rfl, RowKit.Below.refl _ _⟩
  case round =>
    obtain ⟨k, d1, d2, hk, rfl, rfl, rfl, hE, hb⟩ := hrel
    have hrg := difs_range a b k
    rw [hE.out] at hrg
    simp only [] at hrg
    by_cases hlt : k < 8 * n
    · have HD : Hid (difs a b (k + 1) = if tb a k != tb b k then (if d1 < 0 then (k : Int) else d1, (k : Int)) else (d1, d2)) := by
        show _ = _
        rw [difs, hE.out]
      have hk8 : k / 8 < n := by omega
      have ha8 : k / 8 < (str a).size := by rw [sza]; exact hk8
      have hb8 : k / 8 < (str b).size := by rw [szb]; exact hk8
      have h1 : (str a)[k / 8]'ha8 = a.getD (k / 8) 0 := str_at a (k / 8) (by rw [HN.out]; exact hk8) ha8
      have h2 : (str b)[k / 8]'hb8 = b.getD (k / 8) 0 := str_at b (k / 8) (by rw [HB.out]; exact hk8) hb8
      have HT1 : Hid (tb a k = (a.getD (k / 8) 0).toNat.testBit (k % 8)) := rfl
      have HT2 : Hid (tb b k = (b.getD (k / 8) 0).toNat.testBit (k % 8)) := rfl
      generalize a.getD (k / 8) 0 = xa at h1 HT1
      generalize b.getD (k / 8) 0 = xb at h2 HT2
      have hx1 := xa.toNat_lt
      have hx2 := xb.toNat_lt
      have HBD := Lib.hid (bit_dif xa.toNat xb.toNat (k % 8))
      have hxo := u8_xor_nat _ _ hx1 hx2
      have hx3 : xa.toNat ^^^ xb.toNat < 256 := Nat.xor_lt_two_pow (n := 8) hx1 hx2
      generalize xa.toNat ^^^ xb.toNat = z at HBD hxo hx3
      have hq1 : (k : Int) / 8 < (n : Int) := by omega
      have hq0 : 0 ≤ (k : Int) / 8 := by omega
      have htm := bit_tmod z (k % 8)
      have HB3 := Lib.hid hb
      have hdn : ∀ q, RowKit.Below w.heap.size w (wr.drewN q) := fun q => ⟨hb.os, hb.tape, hb.output, hb.size, hb.block⟩
      have HDN := Lib.hid hdn
      clear hb hdn hE
      by_cases hbit : z / 2 ^ (k % 8) % 2 = 1
      · have hne : Hid ((tb a k != tb b k) = true) := by show (tb a k != tb b k) = true; rw [HT1.out, HT2.out]; exact HBD.out.1 hbit
        rw [hbit] at htm
        have hone : ((1 : Nat) : Int) = 1 := rfl
        clear hbit
        by_cases hd0 : d1 < 0
        · have HD2 : Hid (difs a b (k + 1) = ((k : Int), (k : Int))) := by show _ = _; rw [HD.out, if_pos hne.out, if_pos hd0]
          go_wp2_with fail
          go_quiet (fail)
          go_wp2
          go_roundw
          case rel => exact ⟨k + 1, k, k, by omega, by go_num, rfl, rfl, HD2.out, HDN.out _⟩
          case measure => simp [intOf]; omega
        · have HD2 : Hid (difs a b (k + 1) = (d1, (k : Int))) := by show _ = _; rw [HD.out, if_pos hne.out, if_neg hd0]
          go_wp2_with fail
          go_quiet (fail)
          go_wp2
          go_roundw
          case rel => exact ⟨k + 1, d1, k, by omega, by go_num, rfl, rfl, HD2.out, HDN.out _⟩
          case measure => simp [intOf]; omega
      · have hne : Hid (¬ (tb a k != tb b k) = true) := by show ¬ (tb a k != tb b k) = true; rw [HT1.out, HT2.out]; exact fun h => hbit (HBD.out.2 h)
        have hb0 : z / 2 ^ (k % 8) % 2 = 0 := by omega
        rw [hb0] at htm
        have HD2 : Hid (difs a b (k + 1) = (d1, d2)) := by show _ = _; rw [HD.out, if_neg hne.out]
        clear hbit hb0
        go_wp2_with fail
        go_quiet (fail)
        go_wp2
        go_roundw
        case rel => exact ⟨k + 1, d1, d2, by omega, by go_num, rfl, rfl, HD2.out, HDN.out _⟩
        case measure => simp [intOf]; omega
    · obtain rfl : k = 8 * n := by omega
      have HB2 := Lib.hid hb
      have HR : Hid (decide ((difs a b (8 * n)).2 - (difs a b (8 * n)).1 < 32) = decide (d2 - d1 < 32)) := by show _ = _; rw [hE.out]
      clear hb hE
      go_wp2
      go_ret
      rw [HR.out]
      exact ⟨rfl, HB2.out⟩

end Go.Proofs.Ytjecphjdmjoeiaa
