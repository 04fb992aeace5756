/- Plain facts on the sum of bytes (CRC-32), bit by bit, over registers of 32 bits: it is linear, its step is one to one, the sum of marked bytes is always the same, and what is turned within 32 bits in a row is told. Nothing of the program is named here. -/
import Derived.Below
namespace Go.Proofs.Ytfigdepigmacgaa

def poly : BitVec 32 := 0xedb88320#32
def ones : BitVec 32 := 0xffffffff#32

/-- The register goes down by one bit; if the bit that fell out was set, the polynomial is put onto it. -/
def down (x : BitVec 32) : BitVec 32 := (x >>> 1) ^^^ (if x.getLsbD 0 then poly else 0#32)
def bit (b : Bool) : BitVec 32 := if b then 1#32 else 0#32

/-- Bits go through the register, one behind the other. -/
def feed (r : BitVec 32) : List Bool → BitVec 32
  | [] => r
  | b :: t => feed (down (r ^^^ bit b)) t

theorem feed_append (r : BitVec 32) (a b : List Bool) : feed r (a ++ b) = feed (feed r a) b := by
  induction a generalizing r with
  | nil => rfl
  | cons x t ih => simp only [List.cons_append, feed, ih]

theorem xor4 (a b c d : BitVec 32) : (a ^^^ b) ^^^ (c ^^^ d) = (a ^^^ c) ^^^ (b ^^^ d) := by
  rw [BitVec.xor_assoc, BitVec.xor_assoc, ← BitVec.xor_assoc b, BitVec.xor_comm b c, BitVec.xor_assoc c]

theorem down_xor (x y : BitVec 32) : down (x ^^^ y) = down x ^^^ down y := by
  unfold down
  rw [BitVec.ushiftRight_xor_distrib, BitVec.getLsbD_xor, xor4]
  congr 1
  cases x.getLsbD 0 <;> cases y.getLsbD 0 <;> simp

theorem down_zero : down 0#32 = 0#32 := by decide

theorem bit_xor (a b : Bool) : bit (a ^^ b) = bit a ^^^ bit b := by cases a <;> cases b <;> decide

/-- Both registers, and both rows of bits, may be put onto one another. -/
theorem feed_xor : ∀ (a b : List Bool) (r s : BitVec 32), a.length = b.length → feed (r ^^^ s) (List.zipWith (· ^^ ·) a b) = feed r a ^^^ feed s b
  | [], [], _, _, _ => rfl
  | [], _ :: _, _, _, h => by simp at h
  | _ :: _, [], _, _, h => by simp at h
  | x :: a, y :: b, r, s, h => by
    simp only [List.zipWith_cons_cons, feed]
    rw [bit_xor, xor4, down_xor]
    exact feed_xor a b _ _ (by simpa using h)

theorem down_inj {x : BitVec 32} (h : down x = 0#32) : x = 0#32 := by
  unfold down at h
  by_cases hb : x.getLsbD 0 = true
  · rw [if_pos hb] at h
    have h31 := congrArg (fun z : BitVec 32 => z.getLsbD 31) h
    simp [poly] at h31
  · rw [if_neg hb, BitVec.xor_zero] at h
    apply BitVec.eq_of_getLsbD_eq
    intro i hi
    rcases Nat.eq_zero_or_pos i with h0 | h0
    · subst h0; simpa using hb
    · have := congrArg (fun z : BitVec 32 => z.getLsbD (i - 1)) h
      simp only [BitVec.getLsbD_ushiftRight] at this
      rw [show 1 + (i - 1) = i by omega] at this
      simpa using this

def downs : Nat → BitVec 32 → BitVec 32
  | 0, x => x
  | n + 1, x => downs n (down x)

theorem downs_xor (n : Nat) (x y : BitVec 32) : downs n (x ^^^ y) = downs n x ^^^ downs n y := by
  induction n generalizing x y with
  | zero => rfl
  | succ n ih => simp only [downs, down_xor, ih]

theorem downs_inj : ∀ (n : Nat) {x : BitVec 32}, downs n x = 0#32 → x = 0#32
  | 0, _, h => h
  | n + 1, _, h => down_inj (downs_inj n h)

theorem downs_zero (n : Nat) : downs n 0#32 = 0#32 := by
  induction n with
  | zero => rfl
  | succ n ih => rw [downs, down_zero, ih]

/-- Bits that aren't set only let the register go down. -/
theorem feed_none (n : Nat) (r : BitVec 32) : feed r (List.replicate n false) = downs n r := by
  induction n generalizing r with
  | zero => rfl
  | succ n ih =>
    rw [List.replicate_succ, feed, show bit false = 0#32 from rfl, BitVec.xor_zero, ih]; rfl

/-- The number that bits say, the lowest one first. -/
def word : List Bool → BitVec 32
  | [] => 0#32
  | b :: t => bit b ^^^ (word t <<< 1)

theorem downs_succ (n : Nat) (x : BitVec 32) : downs (n + 1) x = downs n (down x) := rfl

/-- Of up to 32 bits: they may be put onto the register all at once. -/
theorem down_shl (x : BitVec 32) (h : x.getLsbD 31 = false) : down (x <<< 1) = x := by
  have h0 : (x <<< 1).getLsbD 0 = false := by simp
  unfold down
  rw [h0]
  simp only [Bool.false_eq_true, if_false, BitVec.xor_zero]
  apply BitVec.eq_of_getLsbD_eq
  intro i hi
  simp only [BitVec.getLsbD_ushiftRight, BitVec.getLsbD_shiftLeft]
  by_cases h1 : i = 31
  · subst h1; rw [h]; simp
  · have : 1 + i < 32 := by omega
    simp [this]

theorem word_high (l : List Bool) (i : Nat) (h : l.length ≤ i) (hi : i < 32) : (word l).getLsbD i = false := by
  induction l generalizing i with
  | nil => simp [word]
  | cons b t ih =>
    have h1 : t.length ≤ i - 1 := by simp at h; omega
    have h2 : 0 < i := by simp at h; omega
    have hb : (bit b).getLsbD i = false := by
      cases b
      · simp [bit]
      · have : i ≠ 0 := by omega
        simp [bit, this]
    simp only [word, BitVec.getLsbD_xor, hb, BitVec.getLsbD_shiftLeft]
    have := ih (i - 1) h1 (by omega)
    have h3 : ¬ i < 1 := by omega
    simp [this, hi]

theorem feed_word : ∀ (l : List Bool) (r : BitVec 32), l.length ≤ 32 → feed r l = downs l.length (r ^^^ word l)
  | [], r, _ => by simp [feed, downs, word]
  | b :: t, r, h => by
    have hl : t.length ≤ 31 := by simpa using h
    rw [feed, feed_word t _ (by omega), List.length_cons, downs_succ]
    congr 1
    rw [word, ← BitVec.xor_assoc, down_xor (r ^^^ bit b), down_shl _ (word_high t 31 hl (by omega))]

/-- A byte's bits, the lowest one first. -/
def bitsOf (c : UInt8) : List Bool := (List.range 8).map fun k => c.toNat.testBit k
def bitsAll (l : List UInt8) : List Bool := l.flatMap bitsOf
theorem bitsOf_length (c : UInt8) : (bitsOf c).length = 8 := by simp [bitsOf]
theorem bitsAll_length (l : List UInt8) : (bitsAll l).length = 8 * l.length := by
  induction l with
  | nil => rfl
  | cons c t ih =>
    have : bitsAll (c :: t) = bitsOf c ++ bitsAll t := rfl
    rw [this, List.length_append, bitsOf_length, ih, List.length_cons]; omega
theorem bitsAll_append (a b : List UInt8) : bitsAll (a ++ b) = bitsAll a ++ bitsAll b := List.flatMap_append

/-- The register behind bytes, and their sum. -/
def regOf (l : List UInt8) : BitVec 32 := feed ones (bitsAll l)
def sumOf (l : List UInt8) : BitVec 32 := ~~~ regOf l

/-- A number's four bytes, the lowest one first. -/
def four (s : BitVec 32) : List UInt8 := [UInt8.ofNat (s.toNat % 256), UInt8.ofNat (s.toNat / 256 % 256), UInt8.ofNat (s.toNat / 65536 % 256), UInt8.ofNat (s.toNat / 16777216 % 256)]
def markOf (l : List UInt8) : List UInt8 := l ++ four (sumOf l)

theorem xor_not (r : BitVec 32) : r ^^^ ~~~ r = ones := by
  have e : ones = BitVec.allOnes 32 := by decide
  rw [e]
  apply BitVec.eq_of_getLsbD_eq
  intro i hi
  rw [BitVec.getLsbD_xor, BitVec.getLsbD_not, BitVec.getLsbD_allOnes]
  simp [hi]

theorem foot_value : ~~~ (downs 32 ones) = 0x2144df1c#32 := by decide

theorem word_get : ∀ (l : List Bool) (i : Nat), i < 32 → (word l).getLsbD i = (l[i]?).getD false
  | [], i, _ => by simp [word]
  | b :: t, 0, _ => by cases b <;> simp [word, bit]
  | b :: t, i + 1, h => by
    have hb : (bit b).getLsbD (i + 1) = false := by cases b <;> simp [bit]
    simp only [word, BitVec.getLsbD_xor, hb, BitVec.getLsbD_shiftLeft]
    have := word_get t i (by omega)
    simp [this, h]

theorem four_byte (n k : Nat) : (UInt8.ofNat (n % 256)).toNat.testBit k = (decide (k < 8) && n.testBit k) := by
  have : (UInt8.ofNat (n % 256)).toNat = n % 2 ^ 8 := by simp [UInt8.toNat_ofNat']
  rw [this, Nat.testBit_mod_two_pow]

theorem word_four (s : BitVec 32) : word (bitsAll (four s)) = s := by
  apply BitVec.eq_of_getLsbD_eq
  intro i hi
  rw [word_get _ _ hi]
  have e : bitsAll (four s) = (List.range 32).map fun k => s.toNat.testBit k := by
    have h1 : ∀ n : Nat, bitsOf (UInt8.ofNat (n % 256)) = (List.range 8).map fun k => n.testBit k := fun n => by
      unfold bitsOf
      refine List.map_congr_left fun k hk => ?_
      rw [four_byte]
      simp at hk
      simp [hk]
    have h2 : bitsAll (four s) = bitsOf (UInt8.ofNat (s.toNat % 256)) ++ (bitsOf (UInt8.ofNat (s.toNat / 256 % 256)) ++ (bitsOf (UInt8.ofNat (s.toNat / 65536 % 256)) ++ (bitsOf (UInt8.ofNat (s.toNat / 16777216 % 256)) ++ []))) := rfl
    have d1 : ∀ k, (s.toNat / 256).testBit k = s.toNat.testBit (8 + k) := fun k => by rw [show s.toNat / 256 = s.toNat / 2 ^ 8 from rfl, Nat.testBit_div_two_pow, Nat.add_comm]
    have d2 : ∀ k, (s.toNat / 65536).testBit k = s.toNat.testBit (16 + k) := fun k => by rw [show s.toNat / 65536 = s.toNat / 2 ^ 16 from rfl, Nat.testBit_div_two_pow, Nat.add_comm]
    have d3 : ∀ k, (s.toNat / 16777216).testBit k = s.toNat.testBit (24 + k) := fun k => by rw [show s.toNat / 16777216 = s.toNat / 2 ^ 24 from rfl, Nat.testBit_div_two_pow, Nat.add_comm]
    rw [h2, h1, h1, h1, h1]
    simp only [d1, d2, d3]
    rfl
  rw [e]
  simp only [List.getElem?_map, List.getElem?_range hi, Option.map_some, Option.getD_some]
  rfl

theorem four_length (s : BitVec 32) : (four s).length = 4 := rfl

/-- The register behind marked bytes is always the same. -/
theorem reg_mark (l : List UInt8) : regOf (markOf l) = downs 32 ones := by
  unfold regOf markOf
  have hl : (bitsAll (four (sumOf l))).length = 32 := by rw [bitsAll_length, four_length]
  rw [bitsAll_append, feed_append, feed_word _ _ (by omega), hl, word_four]
  show downs 32 (regOf l ^^^ ~~~ regOf l) = _
  rw [xor_not]

/-- P2.3: the sum of marked bytes. -/
theorem sum_mark (l : List UInt8) : sumOf (markOf l) = 0x2144df1c#32 := by
  unfold sumOf
  rw [reg_mark]
  exact foot_value

/-- P2.2: whatever is turned within 32 bits in a row, the register behind all is another one. -/
theorem reg_turned (a : List Bool) (e : List Bool) (p q : Nat) (he : e.length ≤ 32) (hw : word e ≠ 0#32) (hlen : a.length = p + e.length + q) (r : BitVec 32) :
    feed r (List.zipWith (· ^^ ·) a (List.replicate p false ++ (e ++ List.replicate q false))) ≠ feed r a := by
  have h := feed_xor a (List.replicate p false ++ (e ++ List.replicate q false)) r 0#32 (by simp; omega)
  rw [BitVec.xor_zero] at h
  rw [h]
  have h2 : feed 0#32 (List.replicate p false ++ (e ++ List.replicate q false)) = downs q (downs e.length (word e)) := by
    rw [feed_append, feed_none, downs_zero, feed_append, feed_word _ _ he, BitVec.zero_xor, feed_none]
  rw [h2]
  intro hx
  have h3 : downs q (downs e.length (word e)) = 0#32 := by
    have := congrArg (fun z => feed r a ^^^ z) hx
    simp only [← BitVec.xor_assoc, BitVec.xor_self, BitVec.zero_xor] at this
    exact this
  exact hw (downs_inj _ (downs_inj _ h3))

/-- The step with a bit, as it is told: the register goes down; if the bit that fell out isn't the one that comes in, the polynomial is put onto it. -/
theorem down_bit (r : BitVec 32) (b : Bool) : down (r ^^^ bit b) = (r >>> 1) ^^^ (if r.getLsbD 0 ^^ b then poly else 0#32) := by
  have hs : (bit b) >>> 1 = 0#32 := by cases b <;> decide
  have hl : (bit b).getLsbD 0 = b := by cases b <;> decide
  unfold down
  rw [BitVec.ushiftRight_xor_distrib, hs, BitVec.xor_zero, BitVec.getLsbD_xor, hl]

theorem getLsbD_zero_nat (r : BitVec 32) : r.getLsbD 0 = decide (r.toNat % 2 = 1) := by
  rw [BitVec.getLsbD]
  simp [Nat.testBit_zero]

theorem poly_nat : poly.toNat = 3988292384 := by decide

/-- The same in numbers. -/
theorem down_bit_nat (r : BitVec 32) (b : Bool) : (down (r ^^^ bit b)).toNat = if (decide (r.toNat % 2 = 1) ^^ b) then (r.toNat / 2) ^^^ 3988292384 else r.toNat / 2 := by
  rw [down_bit, getLsbD_zero_nat]
  have h2 : (r >>> 1).toNat = r.toNat / 2 := by rw [BitVec.toNat_ushiftRight, Nat.shiftRight_eq_div_pow]
  split
  · rw [BitVec.toNat_xor, h2, poly_nat]
  · rw [BitVec.xor_zero, h2]

theorem downs_add (m n : Nat) (x : BitVec 32) : downs (m + n) x = downs n (downs m x) := by
  induction m generalizing x with
  | zero => simp [downs]
  | succ m ih => rw [Nat.succ_add, downs, ih]; rfl

theorem downs_shl : ∀ (n : Nat) (y : BitVec 32), n ≤ 32 → (∀ i, 32 - n ≤ i → i < 32 → y.getLsbD i = false) → downs n (y <<< n) = y
  | 0, y, _, _ => by simp [downs]
  | n + 1, y, hn, h => by
    rw [downs_succ, BitVec.shiftLeft_add, down_shl]
    · exact downs_shl n y (by omega) (fun i hi hi2 => h i (by omega) hi2)
    · rw [BitVec.getLsbD_shiftLeft]
      have := h (31 - n) (by omega) (by omega)
      simp [this]

theorem split_low (n : Nat) (x : BitVec 32) : x = ((x >>> n) <<< n) ^^^ (x &&& (BitVec.ofNat 32 (2 ^ n - 1))) := by
  apply BitVec.eq_of_getLsbD_eq
  intro i hi
  rw [BitVec.getLsbD_xor, BitVec.getLsbD_shiftLeft, BitVec.getLsbD_ushiftRight, BitVec.getLsbD_and, BitVec.getLsbD_ofNat]
  by_cases h : i < n
  · simp [h, hi]
  · have h2 : n + (i - n) = i := by omega
    simp [h, hi, h2]

/-- n steps at once: what the lowest n bits do, put onto the register that has gone down by n. -/
theorem downs_table (n : Nat) (hn : n ≤ 32) (x : BitVec 32) : downs n x = (x >>> n) ^^^ downs n (x &&& BitVec.ofNat 32 (2 ^ n - 1)) := by
  conv => lhs; rw [split_low n x]
  rw [downs_xor, downs_shl n _ hn]
  intro i hi hi2
  rw [BitVec.getLsbD_ushiftRight]
  exact BitVec.getLsbD_of_ge _ _ (by omega)

theorem word_byte (c : UInt8) : word (bitsOf c) = BitVec.ofNat 32 c.toNat := by
  have hc := c.toNat_lt
  apply BitVec.eq_of_getLsbD_eq
  intro i hi
  rw [word_get _ _ hi, BitVec.getLsbD_ofNat]
  by_cases h : i < 8
  · simp [bitsOf, h, hi]
  · have h2 : c.toNat.testBit i = false := Nat.testBit_lt_two_pow (Nat.lt_of_lt_of_le hc (by
      have : (2 : Nat) ^ 8 ≤ 2 ^ i := Nat.pow_le_pow_right (by decide) (by omega)
      exact this))
    have h3 : ((List.range 8).map fun k => c.toNat.testBit k)[i]? = none := by simp; omega
    simp [bitsOf, h2, h3]

/-- A byte goes through the register. -/
theorem feed_byte (r : BitVec 32) (c : UInt8) : feed r (bitsOf c) = downs 8 (r ^^^ BitVec.ofNat 32 c.toNat) := by
  rw [feed_word _ _ (by rw [bitsOf_length]; omega), bitsOf_length, word_byte]

/-- .. four bits at a time. -/
theorem feed_nibbles (r : BitVec 32) (c : UInt8) : feed r (bitsOf c) = downs 4 (downs 4 (r ^^^ BitVec.ofNat 32 c.toNat)) := by
  rw [feed_byte, show (8 : Nat) = 4 + 4 from rfl, downs_add]

theorem regOf_snoc (l : List UInt8) (c : UInt8) : regOf (l ++ [c]) = feed (regOf l) (bitsOf c) := by
  unfold regOf
  rw [bitsAll_append, feed_append]
  simp [bitsAll]

/-- Bytes of which the last four are the sum of those ahead leave the one register. -/
theorem fits_reg (a : List UInt8) : regOf (a ++ four (sumOf a)) = downs 32 ones := reg_mark a

end Go.Proofs.Ytfigdepigmacgaa
