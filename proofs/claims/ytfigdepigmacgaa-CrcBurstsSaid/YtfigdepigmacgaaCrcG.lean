/- Bits that are turned, in plain words: whatever is turned within 32 bits in a row of marked bytes, they don't fit. Nothing of the program's text is named here but Fits' own answer. -/
import Derived.Test.YtfigdepigmacgaaCrcF
namespace Go.Proofs.Ytfigdepigmacgaa
open Go.RowKit

/-- Bit i of bytes. -/
def tb (l : List UInt8) (i : Nat) : Bool := (l.getD (i / 8) 0).toNat.testBit (i % 8)

theorem bitsAll_get (l : List UInt8) (i : Nat) (h : i < 8 * l.length) : (bitsAll l)[i]? = some (tb l i) := by
  induction l generalizing i with
  | nil => simp at h
  | cons c t ih =>
    have e : bitsAll (c :: t) = bitsOf c ++ bitsAll t := rfl
    rw [e]
    by_cases h8 : i < 8
    · rw [List.getElem?_append_left (by rw [bitsOf_length]; exact h8)]
      have h0 : i / 8 = 0 := by omega
      have h1 : i % 8 = i := by omega
      simp [bitsOf, tb, h0, h1, h8]
    · rw [List.getElem?_append_right (by rw [bitsOf_length]; omega), bitsOf_length, ih (i - 8) (by simp at h; omega)]
      have h0 : i / 8 = (i - 8) / 8 + 1 := by omega
      have h1 : i % 8 = (i - 8) % 8 := by omega
      simp [tb, h0, h1]

/-- Bytes in which bit k is turned. -/
def flip (l : List UInt8) (k : Nat) : List UInt8 := l.set (k / 8) (UInt8.ofNat ((l.getD (k / 8) 0).toNat ^^^ 2 ^ (k % 8)))

theorem flip_length (l : List UInt8) (k : Nat) : (flip l k).length = l.length := by simp [flip]

theorem flip_byte (x j : Nat) (hx : x < 256) (hj : j < 8) : x ^^^ 2 ^ j < 256 :=
  Nat.xor_lt_two_pow (n := 8) hx (Nat.pow_lt_pow_right (by decide) hj)

theorem tb_flip (l : List UInt8) (k i : Nat) (hk : k < 8 * l.length) : tb (flip l k) i = (tb l i ^^ decide (i = k)) := by
  unfold tb flip
  have hk8 : k / 8 < l.length := by omega
  by_cases hb : i / 8 = k / 8
  · have hg : (l.set (k / 8) (UInt8.ofNat ((l.getD (k / 8) 0).toNat ^^^ 2 ^ (k % 8)))).getD (i / 8) 0 = UInt8.ofNat ((l.getD (k / 8) 0).toNat ^^^ 2 ^ (k % 8)) := by
      rw [hb, List.getD_eq_getElem?_getD, List.getElem?_set_self hk8]; rfl
    rw [hg, hb]
    have hx := (l.getD (k / 8) 0).toNat_lt
    generalize (l.getD (k / 8) 0).toNat = x at hx ⊢
    have hm := Nat.mod_lt k (show 0 < 8 by decide)
    have hv : (UInt8.ofNat (x ^^^ 2 ^ (k % 8))).toNat = x ^^^ 2 ^ (k % 8) := by
      rw [UInt8.toNat_ofNat', Nat.mod_eq_of_lt (flip_byte x (k % 8) hx hm)]
    rw [hv, Nat.testBit_xor, Nat.testBit_two_pow]
    congr 1
    have : (k % 8 = i % 8) ↔ i = k := by omega
    simp [this]
  · have hg : (l.set (k / 8) (UInt8.ofNat ((l.getD (k / 8) 0).toNat ^^^ 2 ^ (k % 8)))).getD (i / 8) 0 = l.getD (i / 8) 0 := by
      rw [List.getD_eq_getElem?_getD, List.getElem?_set_ne (by omega), ← List.getD_eq_getElem?_getD]
    rw [hg]
    have : i ≠ k := by intro h; subst h; exact hb rfl
    simp [this]

/-- What has been turned when q of the bits have been looked at. -/
def Turned (l0 l : List UInt8) (p s q : Nat) : Prop := l.length = l0.length ∧ ∀ i, i < 8 * l0.length → tb l i = (tb l0 i ^^ (decide (p ≤ i ∧ i < p + q) && s.testBit (i - p)))

theorem Turned.start (l0 : List UInt8) (p s : Nat) : Turned l0 l0 p s 0 := ⟨rfl, fun i _ => by
  rw [decide_eq_false (by omega : ¬ (p ≤ i ∧ i < p + 0)), Bool.false_and, Bool.xor_false]⟩

theorem Turned.no {l0 l : List UInt8} {p s q : Nat} (h : Turned l0 l p s q) (hs : s.testBit q = false) : Turned l0 l p s (q + 1) := ⟨h.1, fun i hi => by
  rw [h.2 i hi]
  congr 1
  by_cases he : i = p + q
  · subst he; simp [hs]
  · have : (p ≤ i ∧ i < p + (q + 1)) ↔ (p ≤ i ∧ i < p + q) := by omega
    simp only [this]⟩

theorem Turned.yes {l0 l : List UInt8} {p s q : Nat} (h : Turned l0 l p s q) (hs : s.testBit q = true) (hk : p + q < 8 * l0.length) : Turned l0 (flip l (p + q)) p s (q + 1) := ⟨by rw [flip_length]; exact h.1, fun i hi => by
  rw [tb_flip l (p + q) i (by rw [h.1]; exact hk), h.2 i hi, Bool.xor_assoc]
  congr 1
  by_cases he : i = p + q
  · subst he; simp [hs]
  · have : (p ≤ i ∧ i < p + (q + 1)) ↔ (p ≤ i ∧ i < p + q) := by omega
    simp [he, this]⟩

theorem Turned.bits {l0 l : List UInt8} {p s : Nat} (h : Turned l0 l p s 32) (hp : p + 32 ≤ 8 * l0.length) :
    bitsAll l = List.zipWith (· ^^ ·) (bitsAll l0) (List.replicate p false ++ ((List.range 32).map (fun k => s.testBit k) ++ List.replicate (8 * l0.length - p - 32) false)) := by
  apply List.ext_getElem?
  intro i
  by_cases hi : i < 8 * l0.length
  · rw [bitsAll_get l i (by rw [h.1]; exact hi), List.getElem?_zipWith, bitsAll_get l0 i hi, h.2 i hi]
    have e : (List.replicate p false ++ ((List.range 32).map (fun k => s.testBit k) ++ List.replicate (8 * l0.length - p - 32) false))[i]? = some (decide (p ≤ i ∧ i < p + 32) && s.testBit (i - p)) := by
      by_cases h1 : i < p
      · rw [List.getElem?_append_left (by simp; exact h1), List.getElem?_replicate, if_pos h1]
        have : ¬ (p ≤ i ∧ i < p + 32) := by omega
        simp [this]
      · rw [List.getElem?_append_right (by simp; omega), List.length_replicate]
        by_cases h2 : i - p < 32
        · rw [List.getElem?_append_left (by simp; exact h2), List.getElem?_map, List.getElem?_range h2]
          have : p ≤ i ∧ i < p + 32 := by omega
          simp [this]
        · rw [List.getElem?_append_right (by simp; omega), List.getElem?_replicate, if_pos (by simp; omega)]
          have : ¬ (p ≤ i ∧ i < p + 32) := by omega
          simp [this]
    rw [e]
  · rw [List.getElem?_eq_none (by rw [bitsAll_length, h.1]; omega), List.getElem?_eq_none (by rw [List.length_zipWith, bitsAll_length]; omega)]

theorem word_bits (s : Nat) (h : s < 4294967296) (h0 : s ≠ 0) : word ((List.range 32).map fun k => s.testBit k) ≠ 0#32 := by
  intro hw
  apply h0
  apply Nat.eq_of_testBit_eq
  intro i
  rw [Nat.zero_testBit]
  by_cases hi : i < 32
  · have h1 := word_get ((List.range 32).map fun k => s.testBit k) i hi
    rw [hw] at h1
    rw [List.getElem?_map, List.getElem?_range hi] at h1
    simpa using h1.symm
  · exact Nat.testBit_lt_two_pow (Nat.lt_of_lt_of_le h (by
      have : (2 : Nat) ^ 32 ≤ 2 ^ i := Nat.pow_le_pow_right (by decide) (by omega)
      exact this))

/-- P2.2: marked bytes in which something is turned within 32 bits in a row don't fit. -/
theorem turned_bad {a l : List UInt8} {p s : Nat} (h : Turned (markOf a) l p s 32) (hp : p + 32 ≤ 8 * (markOf a).length) (hs : s < 4294967296) (h0 : s ≠ 0) : fitsOf l = ([], 5) := by
  have hl : l.length = a.length + 4 := by rw [h.1]; simp [markOf, four_length]
  unfold fitsOf
  rw [if_neg (by omega), if_neg]
  intro hm
  have r1 : regOf l = downs 32 ones := by rw [← hm]; exact reg_mark _
  have r2 : regOf (markOf a) = downs 32 ones := reg_mark a
  have hb := h.bits hp
  have := reg_turned (bitsAll (markOf a)) ((List.range 32).map fun k => s.testBit k) p (8 * (markOf a).length - p - 32) (by simp) (word_bits s hs h0) (by rw [bitsAll_length]; simp; omega) ones
  rw [← hb] at this
  exact this (r1.trans r2.symm)

end Go.Proofs.Ytfigdepigmacgaa
