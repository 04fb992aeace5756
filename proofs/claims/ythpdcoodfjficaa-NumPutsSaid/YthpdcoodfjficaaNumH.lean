/- Plain facts: each number has one writing; what is put is read. No conditions beyond those that each theorem names. -/
import Derived.Test.YthpdcoodfjficaaNumF
namespace Go.Proofs.Ythpdcoodfjficaa

theorem digs_val : ∀ l : List UInt8, (∀ x, l.getLast? = some x → x ≠ 0) → digs (val l) = l
  | [], _ => digs_zero
  | c :: t, h => by
    have hc := c.toNat_lt
    rcases t with _ | ⟨d, t⟩
    · have h1 : c ≠ 0 := h c rfl
      have h2 : 0 < c.toNat := by
        rcases Nat.eq_zero_or_pos c.toNat with h3 | h3
        · exact absurd (UInt8.toNat_inj.1 (by simpa using h3)) h1
        · exact h3
      simp only [val, Nat.mul_zero, Nat.add_zero]
      rw [digs_pos h2, Nat.mod_eq_of_lt hc, Nat.div_eq_of_lt hc, digs_zero]
      simp
    · have ih := digs_val (d :: t) (fun x hx => h x (by simpa using hx))
      have h2 : 0 < val (d :: t) := by
        rcases Nat.eq_zero_or_pos (val (d :: t)) with h3 | h3
        · rw [h3, digs_zero] at ih; cases ih
        · exact h3
      rw [val, digs_pos (by omega), show (c.toNat + 256 * val (d :: t)) % 256 = c.toNat by omega, show (c.toNat + 256 * val (d :: t)) / 256 = val (d :: t) by omega, ih]
      simp

theorem rd_enc {l : List UInt8} {most m s : Nat} (h : rd l most = (m, s, 0)) : l = enc m ++ l.drop s ∧ 0 < s ∧ s ≤ l.length ∧ m ≤ most := by
  obtain ⟨h1, h2, h3, h4, c, t, rfl, rfl, rfl, hz⟩ := rd_size h
  refine ⟨?_, h1, h2, h4⟩
  have hk : c.toNat ≤ t.length := by simp at h2; omega
  have hd : digs (val (t.take c.toNat)) = t.take c.toNat := by
    apply digs_val
    intro x hx hx0
    subst hx0
    rw [List.getLast?_eq_getElem?, List.length_take, Nat.min_eq_left hk] at hx
    rcases Nat.eq_zero_or_pos c.toNat with h0 | h0
    · rw [h0] at hx; simp at hx
    · rw [List.getElem?_take, if_pos (by omega)] at hx
      exact hz ⟨h0, by rw [hx]; rfl⟩
  rw [enc, hd, List.length_take, Nat.min_eq_left hk, Nat.add_comm 1, List.drop_succ_cons]
  simp

theorem getLast_digs (n : Nat) : ∀ x, (digs n).getLast? = some x → x ≠ 0 := by
  induction n using Nat.strongRecOn with
  | ind n ih =>
    intro x hx
    rcases Nat.eq_zero_or_pos n with h | h
    · subst h; rw [digs_zero] at hx; cases hx
    · rw [digs_pos h] at hx
      by_cases h0 : n / 256 = 0
      · rw [h0, digs_zero] at hx
        simp at hx
        subst hx
        intro he
        have := congrArg UInt8.toNat he
        simp at this
        omega
      · have hd := digs_pos (n := n / 256) (by omega)
        refine ih (n / 256) (by omega) x ?_
        rw [hd] at hx ⊢
        simpa using hx

/-- What is put is read. -/
theorem rd_put (n most : Nat) (t : List UInt8) (hn : n < 18446744073709551616) (hm : n ≤ most) : rd (enc n ++ t) most = (n, (enc n).length, 0) := by
  have h8 := digs_le8 hn
  have hk : (UInt8.ofNat (digs n).length).toNat = (digs n).length := by simp [UInt8.toNat_ofNat']; omega
  have htake : (digs n ++ t).take (digs n).length = digs n := by simp
  simp only [enc, List.cons_append, rd, hk]
  rw [if_neg (by omega), if_neg (by simp), if_neg, htake, val_digs, if_neg (by omega)]
  · simp; omega
  · rintro ⟨h0, h1⟩
    rw [List.getElem?_append_left (by omega), ← List.getLast?_eq_getElem?] at h1
    rcases hx : (digs n).getLast? with _ | x
    · rw [List.getLast?_eq_none_iff] at hx; rw [hx] at h0; simp at h0
    · rw [hx] at h1
      exact getLast_digs n x hx h1

theorem rnum_put (n most : Nat) (t : List UInt8) (hn : n < 18446744073709551616) (hm : n ≤ most) : rnum (enc n ++ t) 0 most = (n, t, 0) := by
  simp [rnum, rd_put n most t hn hm]

end Go.Proofs.Ythpdcoodfjficaa
