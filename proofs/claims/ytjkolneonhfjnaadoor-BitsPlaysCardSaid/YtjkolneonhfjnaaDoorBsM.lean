/- Plain mathematics of stage 11: a row of bools as numbers of 64 bits each; places that are put in; places that are missing. No conditions beyond those that each theorem names. -/
import Derived.Lib.TrailingZeros
namespace Go.Proofs.YtjkolneonhfjnaaDoor

/-! ### Places that are put in -/
/-- Is the place in it? -/
def inS (m : List Bool) (i : Int) : Bool := decide (0 ≤ i) && m.getD i.toNat false
/-- A place is put in. -/
def addS (m : List Bool) (i : Int) : List Bool := if 0 ≤ i then m.set i.toNat true else m
/-- Places are put in. -/
def putS (m : List Bool) (l : List Int) : List Bool := l.foldl addS m
/-- How many are in it. -/
def cntS (m : List Bool) : Nat := m.count true

theorem inS_nat (m : List Bool) (i : Nat) : inS m (i : Int) = m.getD i false := by simp [inS]
theorem inS_out {m : List Bool} {i : Int} (h : i < 0 ∨ (m.length : Int) ≤ i) : inS m i = false := by
  unfold inS
  rcases h with h | h
  · simp; omega
  · have : m.length ≤ i.toNat := by omega
    simp [List.getD, List.getElem?_eq_none this]
theorem addS_nat (m : List Bool) (i : Nat) : addS m (i : Int) = m.set i true := by simp [addS]
theorem addS_out {m : List Bool} {i : Int} (h : i < 0 ∨ (m.length : Int) ≤ i) : addS m i = m := by
  unfold addS
  split
  · have : m.length ≤ i.toNat := by omega
    exact List.set_eq_of_length_le this
  · rfl
theorem set_old {m : List Bool} {i : Nat} (h : m.getD i false = true) : m.set i true = m := by
  have hi : i < m.length := by
    apply Nat.lt_of_not_le
    intro hn
    simp [List.getD, List.getElem?_eq_none hn] at h
  have e : m[i] = true := by simpa [List.getD, hi] using h
  have := List.set_getElem_self hi
  rwa [e] at this
theorem addS_len (m : List Bool) (i : Int) : (addS m i).length = m.length := by unfold addS; split <;> simp
theorem putS_nil (m : List Bool) : putS m [] = m := rfl
theorem putS_snoc (m : List Bool) (l : List Int) (x : Int) : putS m (l ++ [x]) = addS (putS m l) x := by
  unfold putS
  rw [List.foldl_append]
  rfl
theorem putS_append (m : List Bool) (l l' : List Int) : putS m (l ++ l') = putS (putS m l) l' := by
  unfold putS
  rw [List.foldl_append]
theorem putS_one (m : List Bool) (x : Int) : putS m [x] = addS m x := rfl
theorem putS_next (m : List Bool) (l : List Int) (k : Nat) (h : k < l.length) : putS m (l.take (k + 1)) = addS (putS m (l.take k)) l[k] := by
  rw [List.take_succ_eq_append_getElem h, putS_snoc]
theorem putS_len (m : List Bool) (l : List Int) : (putS m l).length = m.length := by
  induction l generalizing m with
  | nil => rfl
  | cons x t ih => exact (ih (addS m x)).trans (addS_len m x)

theorem cnt_new {m : List Bool} {i : Nat} (hi : i < m.length) (h : m.getD i false = false) : cntS (m.set i true) = cntS m + 1 := by
  have e : m[i] = false := by simpa [List.getD, hi] using h
  unfold cntS
  rw [List.count_set (h := hi)]
  simp [e]
theorem cnt_le (m : List Bool) : cntS m ≤ m.length := List.count_le_length
theorem cnt_add (m : List Bool) (x : Int) : cntS m ≤ cntS (addS m x) ∧ cntS (addS m x) ≤ cntS m + 1 := by
  rcases Int.lt_or_le x 0 with h | h
  · rw [addS_out (.inl h)]; omega
  · obtain ⟨i, rfl⟩ := Int.eq_ofNat_of_zero_le h
    rcases Nat.lt_or_ge i m.length with h1 | h1
    · show cntS m ≤ cntS (addS m (i : Int)) ∧ cntS (addS m (i : Int)) ≤ _
      rw [addS_nat]
      cases hb : m.getD i false
      · rw [cnt_new h1 hb]; omega
      · rw [set_old hb]; omega
    · rw [addS_out (.inr (by omega))]; omega
theorem cnt_put (m : List Bool) (l : List Int) : cntS m ≤ cntS (putS m l) ∧ cntS (putS m l) ≤ cntS m + l.length := by
  induction l generalizing m with
  | nil => simp [putS]
  | cons x t ih =>
    have h1 := ih (addS m x)
    have h2 := cnt_add m x
    have e : putS m (x :: t) = putS (addS m x) t := rfl
    rw [e, List.length_cons]
    omega

theorem addS_at (m : List Bool) (x : Int) (j : Nat) (hj : j < m.length) : (addS m x).getD j false = (m.getD j false || decide (x = (j : Int))) := by
  rcases Int.lt_or_le x 0 with h | h
  · rw [addS_out (.inl h)]
    have : x ≠ (j : Int) := by omega
    simp [this]
  · obtain ⟨i, rfl⟩ := Int.eq_ofNat_of_zero_le h
    show (addS m (i : Int)).getD j false = (m.getD j false || decide ((i : Int) = (j : Int)))
    rw [addS_nat]
    by_cases hij : i = j
    · subst hij
      simp [List.getD, hj]
    · have : ¬ ((i : Int) = (j : Int)) := by omega
      simp [List.getD, hij, this]
theorem putS_at (m : List Bool) (l : List Int) (j : Nat) (hj : j < m.length) : (putS m l).getD j false = (m.getD j false || decide ((j : Int) ∈ l)) := by
  induction l generalizing m with
  | nil => simp [putS]
  | cons x t ih =>
    have e : putS m (x :: t) = putS (addS m x) t := rfl
    rw [e, ih (addS m x) (by rw [addS_len]; exact hj), addS_at m x j hj, Bool.or_assoc]
    congr 1
    rw [Bool.eq_iff_iff]
    simp only [Bool.or_eq_true, decide_eq_true_eq, List.mem_cons]
    constructor
    · rintro (h | h)
      · exact .inl h.symm
      · exact .inr h
    · rintro (h | h)
      · exact .inl h.symm
      · exact .inr h
theorem ext_getD {a b : List Bool} (hl : a.length = b.length) (h : ∀ j, j < a.length → a.getD j false = b.getD j false) : a = b := by
  apply List.ext_getElem hl
  intro i h1 h2
  have := h i h1
  simpa [List.getD, h1, h2] using this
/-- What was put in is all that counts. -/
theorem putS_same (m : List Bool) {l l' : List Int} (h : ∀ x, x ∈ l ↔ x ∈ l') : putS m l = putS m l' := by
  refine ext_getD (by rw [putS_len, putS_len]) fun j hj => ?_
  rw [putS_len] at hj
  rw [putS_at m l j hj, putS_at m l' j hj]
  congr 1
  rw [Bool.eq_iff_iff]
  simp only [decide_eq_true_eq]
  exact h _

/-! ### Words of 64 bits -/
structure BitsW (m : List Bool) (ws : List Nat) : Prop where
  len : ws.length = (m.length + 63) / 64
  lt : ∀ x ∈ ws, x < 18446744073709551616
  bit : ∀ i, i < m.length → (ws.getD (i / 64) 0).testBit (i % 64) = m.getD i false

theorem pow64 : (2 : Nat) ^ 64 = 18446744073709551616 := by decide

theorem BitsW.new (n : Nat) : BitsW (List.replicate n false) (List.replicate ((n + 63) / 64) 0) := by
  refine ⟨by simp, fun x hx => ?_, fun i hi => ?_⟩
  · rw [List.eq_of_mem_replicate hx]; decide
  · rw [List.length_replicate] at hi
    have h1 : i / 64 < (n + 63) / 64 := by omega
    simp [List.getD, h1, hi]

theorem BitsW.word_lt {m : List Bool} {ws : List Nat} (h : BitsW m ws) (k : Nat) : ws.getD k 0 < 18446744073709551616 := by
  rcases Nat.lt_or_ge k ws.length with hk | hk
  · have : ws.getD k 0 = ws[k] := by simp [List.getD, hk]
    rw [this]
    exact h.lt _ (List.getElem_mem hk)
  · simp [List.getD, List.getElem?_eq_none hk]
theorem BitsW.idx {m : List Bool} {ws : List Nat} (h : BitsW m ws) {i : Nat} (hi : i < m.length) : i / 64 < ws.length := by rw [h.len]; omega

theorem BitsW.set {m : List Bool} {ws : List Nat} (h : BitsW m ws) {i : Nat} (hi : i < m.length) : BitsW (m.set i true) (ws.set (i / 64) (ws.getD (i / 64) 0 ||| 2 ^ (i % 64))) := by
  have hk := h.idx hi
  have h64 : (2 : Nat) ^ (i % 64) < 2 ^ 64 := Nat.pow_lt_pow_right (by decide) (Nat.mod_lt _ (by decide))
  refine ⟨by simpa using h.len, fun x hx => ?_, fun j hj => ?_⟩
  · rcases List.mem_or_eq_of_mem_set hx with h1 | rfl
    · exact h.lt x h1
    · have := h.word_lt (i / 64)
      rw [← pow64] at this ⊢
      exact Nat.or_lt_two_pow this h64
  · rw [List.length_set] at hj
    have hb := h.bit j hj
    by_cases hw : i / 64 = j / 64
    · have e : (ws.set (i / 64) (ws.getD (i / 64) 0 ||| 2 ^ (i % 64))).getD (j / 64) 0 = ws.getD (i / 64) 0 ||| 2 ^ (i % 64) := by
        rw [← hw]; simp [List.getD, hk]
      rw [e, Nat.testBit_or, Nat.testBit_two_pow, hw, hb]
      by_cases hij : i = j
      · subst hij
        simp [List.getD, hi]
      · have h1 : ¬ i % 64 = j % 64 := by omega
        simp [List.getD, hij, h1]
    · have e : (ws.set (i / 64) (ws.getD (i / 64) 0 ||| 2 ^ (i % 64))).getD (j / 64) 0 = ws.getD (j / 64) 0 := by
        simp [List.getD, hw]
      have hij : i ≠ j := by rintro rfl; exact hw rfl
      rw [e, hb]
      simp [List.getD, hij]

/-! ### The first gap of a word -/
theorem gap_none {x k : Nat} (hx : x < 18446744073709551616) (h : (18446744073709551615 - x) / 2 ^ k = 0) (j : Nat) (hk : k ≤ j) (hj : j < 64) : x.testBit j = true := by
  have h1 : ((18446744073709551615 - x) / 2 ^ k).testBit (j - k) = false := by rw [h]; simp
  rw [Nat.testBit_div_two_pow, show j - k + k = j by omega] at h1
  have e : 18446744073709551615 - x = 2 ^ 64 - (x + 1) := by rw [pow64]; omega
  rw [e, Nat.testBit_two_pow_sub_succ (by rw [pow64]; exact hx)] at h1
  simpa [hj] using h1
theorem ctz_bits {g : Nat} (h0 : g ≠ 0) (hg : g < 18446744073709551616) : g.testBit (Lib.ctz 64 g) = true ∧ ∀ j, j < Lib.ctz 64 g → g.testBit j = false := by
  obtain ⟨m, hm, _⟩ := Lib.ctzFrom_spec 64 g (by omega) (by rw [pow64]; exact hg)
  have e : Lib.ctz 64 g = Lib.ctzFrom 64 g := by simp [Lib.ctz, h0]
  rw [e]
  generalize Lib.ctzFrom 64 g = c at hm
  subst hm
  refine ⟨?_, fun j hj => ?_⟩
  · rw [Nat.mul_comm, Nat.testBit_mul_two_pow]; simp
  · rw [Nat.mul_comm, Nat.testBit_mul_two_pow]
    have : ¬ c ≤ j := by omega
    simp [this]
theorem gap_some {x k : Nat} (hx : x < 18446744073709551616) (h : (18446744073709551615 - x) / 2 ^ k ≠ 0) :
    k + Lib.ctz 64 ((18446744073709551615 - x) / 2 ^ k) < 64 ∧ x.testBit (k + Lib.ctz 64 ((18446744073709551615 - x) / 2 ^ k)) = false ∧ ∀ j, k ≤ j → j < k + Lib.ctz 64 ((18446744073709551615 - x) / 2 ^ k) → x.testBit j = true := by
  have hb := ctz_bits h (Nat.lt_of_le_of_lt (Nat.div_le_self _ _) (by omega))
  generalize Lib.ctz 64 ((18446744073709551615 - x) / 2 ^ k) = t at hb
  have e : 18446744073709551615 - x = 2 ^ 64 - (x + 1) := by rw [pow64]; omega
  have hbit : ∀ j, ((18446744073709551615 - x) / 2 ^ k).testBit j = (decide (k + j < 64) && !x.testBit (k + j)) := fun j => by
    rw [Nat.testBit_div_two_pow, e, Nat.testBit_two_pow_sub_succ (by rw [pow64]; exact hx), Nat.add_comm j k]
  have h1 := hb.1
  rw [hbit] at h1
  simp only [Bool.and_eq_true, decide_eq_true_eq, Bool.not_eq_true'] at h1
  refine ⟨h1.1, h1.2, fun j h2 h3 => ?_⟩
  have h4 := hb.2 (j - k) (by omega)
  rw [hbit, show k + (j - k) = j by omega] at h4
  have h5 : j < 64 := by omega
  simpa [h5] using h4

/-! ### What is missing -/
def msP (m : List Bool) (f j : Nat) : Bool := decide (f ≤ j) && !m.getD j true
def upTo (m : List Bool) (f r : Nat) : List Nat := (List.range r).filter (msP m f)
def missL (m : List Bool) (f : Nat) (most : Int) : List Nat := (upTo m f m.length).take most.toNat

theorem upTo_zero (m : List Bool) (f : Nat) : upTo m f 0 = [] := rfl
theorem upTo_yes {m : List Bool} {f r : Nat} (h : msP m f r = true) : upTo m f (r + 1) = upTo m f r ++ [r] := by
  unfold upTo
  rw [List.range_succ, List.filter_append]
  simp [h]
theorem upTo_no {m : List Bool} {f r : Nat} (h : msP m f r = false) : upTo m f (r + 1) = upTo m f r := by
  unfold upTo
  rw [List.range_succ, List.filter_append]
  simp [h]
theorem upTo_skip {m : List Bool} {f r r' : Nat} (hr : r ≤ r') (h : ∀ j, r ≤ j → j < r' → msP m f j = false) : upTo m f r' = upTo m f r := by
  obtain ⟨d, rfl⟩ := Nat.exists_eq_add_of_le hr
  induction d with
  | zero => rfl
  | succ d ih =>
    rw [← Nat.add_assoc, upTo_no (h (r + d) (by omega) (by omega))]
    exact ih (by omega) fun j h1 h2 => h j h1 (by omega)
theorem msP_out {m : List Bool} {f j : Nat} (h : m.length ≤ j) : msP m f j = false := by
  unfold msP
  simp [List.getD, List.getElem?_eq_none h]
theorem msP_in {m : List Bool} {f j : Nat} (h : j < m.length) : msP m f j = (decide (f ≤ j) && !m.getD j false) := by
  unfold msP
  simp [List.getD, h]
theorem upTo_out {m : List Bool} {f r : Nat} (h : m.length ≤ r) : upTo m f r = upTo m f m.length := upTo_skip h fun _ h1 _ => msP_out h1
theorem upTo_front {m : List Bool} {f r r' : Nat} (h : r ≤ r') : upTo m f r <+: upTo m f r' := by
  unfold upTo
  obtain ⟨d, rfl⟩ := Nat.exists_eq_add_of_le h
  rw [List.range_add, List.filter_append]
  exact List.prefix_append _ _
theorem upTo_len (m : List Bool) (f r : Nat) : (upTo m f r).length ≤ r := by
  unfold upTo
  refine Nat.le_trans (List.length_filter_le _ _) ?_
  simp
theorem upTo_lt {m : List Bool} {f r x : Nat} (h : x ∈ upTo m f r) : x < r := by
  unfold upTo at h
  simpa using (List.mem_filter.1 h).1
/-- All are found. -/
theorem miss_all {m : List Bool} {f r : Nat} {most : Int} (hr : m.length ≤ r) (hl : (upTo m f r).length ≤ most.toNat) : upTo m f r = missL m f most := by
  unfold missL
  rw [upTo_out hr] at hl ⊢
  exact (List.take_of_length_le hl).symm
/-- As many as are asked for are found. -/
theorem miss_most {m : List Bool} {f r : Nat} {most : Int} (hr : r ≤ m.length) (hl : (upTo m f r).length = most.toNat) : upTo m f r = missL m f most := by
  unfold missL
  rw [← hl]
  exact (List.prefix_iff_eq_take.1 (upTo_front hr))
/-- One step of the document's: a place is looked at. -/
theorem take_yes {m : List Bool} {f r : Nat} {t : Nat} (h : msP m f r = true) (hl : ((upTo m f r).take t).length < t) : (upTo m f (r + 1)).take t = (upTo m f r).take t ++ [r] := by
  rw [upTo_yes h]
  rw [List.length_take] at hl
  have : (upTo m f r).length < t := by omega
  rw [List.take_of_length_le (by simp; omega), List.take_of_length_le (by omega)]
theorem take_full {m : List Bool} {f r : Nat} {t : Nat} (hl : ¬ ((upTo m f r).take t).length < t) : (upTo m f (r + 1)).take t = (upTo m f r).take t := by
  rw [List.length_take] at hl
  cases h : msP m f r
  · rw [upTo_no h]
  · rw [upTo_yes h]
    exact List.take_append_of_le_length (by omega)
/-- What is there and what is missing are all. -/
theorem there_missing (m : List Bool) : cntS m + (upTo m 0 m.length).length = m.length := by
  suffices h : ∀ r, r ≤ m.length → cntS (m.take r) + (upTo m 0 r).length = r by
    have := h m.length (Nat.le_refl _)
    rwa [List.take_of_length_le (Nat.le_refl _)] at this
  intro r
  induction r with
  | zero => intro _; simp [cntS, upTo]
  | succ r ih =>
    intro hr
    have h := ih (by omega)
    have hlt : r < m.length := by omega
    have e : cntS (m.take (r + 1)) = cntS (m.take r) + (if m.getD r false then 1 else 0) := by
      unfold cntS
      rw [List.take_succ_eq_append_getElem hlt, List.count_append]
      have : m.getD r false = m[r] := by simp [List.getD, hlt]
      rw [this]
      cases m[r] <;> simp
    rw [e]
    cases hb : m.getD r false
    · have : msP m 0 r = true := by rw [msP_in hlt, hb]; simp
      rw [upTo_yes this]
      simp
      omega
    · have : msP m 0 r = false := by rw [msP_in hlt, hb]; simp
      rw [upTo_no this]
      simp
      omega

end Go.Proofs.YtjkolneonhfjnaaDoor
