/- Plain facts on numbers as bytes: the digits of a number to the base 256, lowest first, and the number that such digits say. No conditions; nothing of the program is named here. -/
import Derived.Below
namespace Go.Proofs.Ythpdcoodfjficaa

def digs (n : Nat) : List UInt8 := if n = 0 then [] else UInt8.ofNat (n % 256) :: digs (n / 256)
termination_by n
decreasing_by omega

theorem digs_zero : digs 0 = [] := by rw [digs]; simp
theorem digs_pos {n : Nat} (h : 0 < n) : digs n = UInt8.ofNat (n % 256) :: digs (n / 256) := by rw [digs, if_neg (by omega)]

def val : List UInt8 → Nat
  | [] => 0
  | c :: t => c.toNat + 256 * val t

theorem byte_toNat (n : Nat) : (UInt8.ofNat (n % 256)).toNat = n % 256 := by
  simp [UInt8.toNat_ofNat']

theorem val_digs (n : Nat) : val (digs n) = n := by
  induction n using Nat.strongRecOn with
  | ind n ih =>
    rcases Nat.eq_zero_or_pos n with h | h
    · subst h; rw [digs_zero]; rfl
    · rw [digs_pos h, val, ih _ (by omega), byte_toNat]; omega

theorem digs_le (k : Nat) : ∀ n, n < 256 ^ k → (digs n).length ≤ k := by
  induction k with
  | zero => intro n h; have : n = 0 := by simp at h; omega
            subst this; rw [digs_zero]; simp
  | succ k ih =>
    intro n h
    rcases Nat.eq_zero_or_pos n with h0 | h0
    · subst h0; rw [digs_zero]; simp
    · rw [digs_pos h0, List.length_cons]
      have := ih (n / 256) (by rw [Nat.pow_succ] at h; omega)
      omega

theorem digs_le8 {n : Nat} (h : n < 18446744073709551616) : (digs n).length ≤ 8 :=
  digs_le 8 n (Nat.lt_of_lt_of_eq h (by decide))

def enc (n : Nat) : List UInt8 := UInt8.ofNat (digs n).length :: digs n
def encs : List Nat → List UInt8
  | [] => []
  | n :: t => enc n ++ encs t
def row (r : List UInt8) : List UInt8 := enc r.length ++ r
def rows : List (List UInt8) → List UInt8
  | [] => []
  | r :: t => row r ++ rows t

theorem encs_append (a b : List Nat) : encs (a ++ b) = encs a ++ encs b := by
  induction a with
  | nil => rfl
  | cons x a ih => simp [encs, ih]
theorem rows_append (a b : List (List UInt8)) : rows (a ++ b) = rows a ++ rows b := by
  induction a with
  | nil => rfl
  | cons x a ih => simp [rows, ih]

theorem enc_len {n : Nat} (h : n < 18446744073709551616) : (enc n).length ≤ 9 := by
  have := digs_le8 h
  simp only [enc, List.length_cons]
  omega

end Go.Proofs.Ythpdcoodfjficaa
