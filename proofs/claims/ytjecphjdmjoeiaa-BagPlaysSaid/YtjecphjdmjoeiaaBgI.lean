/- Bits that are turned, in plain words. Picked out of elder texts. -/
import Derived.Test.YtjecphjdmjoeiaaBgH
import Derived.Laws.BitsAllLaws
namespace Go.Proofs.Ytjecphjdmjoeiaa
open Go.RowKit Go.Sort

/-- Bit i of bytes. -/
def tb (l : List UInt8) (i : Nat) : Bool := (l.getD (i / 8) 0).toNat.testBit (i % 8)

/-- Bytes in which bit k is turned. -/
def flip (l : List UInt8) (k : Nat) : List UInt8 := l.set (k / 8) (UInt8.ofNat ((l.getD (k / 8) 0).toNat ^^^ 2 ^ (k % 8)))

theorem flip_length (l : List UInt8) (k : Nat) : (flip l k).length = l.length := by simp [flip]

theorem flip_byte (x j : Nat) (hx : x < 256) (hj : j < 8) : x ^^^ 2 ^ j < 256 :=
  Nat.xor_lt_two_pow (n := 8) hx (Nat.pow_lt_pow_right (by decide) hj)

theorem tb_flip (l : List UInt8) (k i : Nat) (hk : k < 8 * l.length) : tb (flip l k) i = (tb l i ^^ decide (i = k)) := by
  unfold tb flip
  have hk8 : k / 8 < l.length := by omega
  by_cases hb : i / 8 = k / 8
  · have hg : (l.set (k / 8) (UInt8.ofNat ((l.getD (k / 8) 0).toNat ^^^ 2 ^ (k % 8)))).getD (i / 8) 0 = UInt8.ofNat ((l.getD (k / 8) 0).toNat ^^^ 2 ^ (k % 8)) := by
      rw [hb, List.getD_eq_getElem?_getD, List.getElem?_set_self hk8]; rfl
    rw [hg, hb]
    have hx := (l.getD (k / 8) 0).toNat_lt
    generalize (l.getD (k / 8) 0).toNat = x at hx ⊢
    have hm := Nat.mod_lt k (show 0 < 8 by decide)
    have hv : (UInt8.ofNat (x ^^^ 2 ^ (k % 8))).toNat = x ^^^ 2 ^ (k % 8) := by
      rw [UInt8.toNat_ofNat', Nat.mod_eq_of_lt (flip_byte x (k % 8) hx hm)]
    rw [hv, Nat.testBit_xor, Nat.testBit_two_pow]
    congr 1
    have : (k % 8 = i % 8) ↔ i = k := by omega
    simp [this]
  · have hg : (l.set (k / 8) (UInt8.ofNat ((l.getD (k / 8) 0).toNat ^^^ 2 ^ (k % 8)))).getD (i / 8) 0 = l.getD (i / 8) 0 := by
      rw [List.getD_eq_getElem?_getD, List.getElem?_set_ne (by omega), ← List.getD_eq_getElem?_getD]
    rw [hg]
    have : i ≠ k := by intro h; subst h; exact hb rfl
    simp [this]

/-- What has been turned when q of the bits have been looked at. -/
def Turned (l0 l : List UInt8) (p s q : Nat) : Prop := l.length = l0.length ∧ ∀ i, i < 8 * l0.length → tb l i = (tb l0 i ^^ (decide (p ≤ i ∧ i < p + q) && s.testBit (i - p)))

theorem Turned.start (l0 : List UInt8) (p s : Nat) : Turned l0 l0 p s 0 := ⟨rfl, fun i _ => by
  rw [decide_eq_false (by omega : ¬ (p ≤ i ∧ i < p + 0)), Bool.false_and, Bool.xor_false]⟩

theorem Turned.no {l0 l : List UInt8} {p s q : Nat} (h : Turned l0 l p s q) (hs : s.testBit q = false) : Turned l0 l p s (q + 1) := ⟨h.1, fun i hi => by
  rw [h.2 i hi]
  congr 1
  by_cases he : i = p + q
  · subst he; simp [hs]
  · have : (p ≤ i ∧ i < p + (q + 1)) ↔ (p ≤ i ∧ i < p + q) := by omega
    simp only [this]⟩

theorem Turned.yes {l0 l : List UInt8} {p s q : Nat} (h : Turned l0 l p s q) (hs : s.testBit q = true) (hk : p + q < 8 * l0.length) : Turned l0 (flip l (p + q)) p s (q + 1) := ⟨by rw [flip_length]; exact h.1, fun i hi => by
  rw [tb_flip l (p + q) i (by rw [h.1]; exact hk), h.2 i hi, Bool.xor_assoc]
  congr 1
  by_cases he : i = p + q
  · subst he; simp [hs]
  · have : (p ≤ i ∧ i < p + (q + 1)) ↔ (p ≤ i ∧ i < p + q) := by omega
    simp [he, this]⟩

theorem flip_val (y j : Nat) (hy : y < 256) (hj : j < 8) : Value.int .u8 (bits .xor .u8 (y : Int) (2 ^ j % 256)) = bv (UInt8.ofNat (y ^^^ 2 ^ j)) := by
  have h2 : (2 : Nat) ^ j < 256 := (Nat.pow_lt_pow_right (by decide) hj : 2 ^ j < 2 ^ 8)
  have e : ((2 : Int) ^ j % 256) = ((2 ^ j : Nat) : Int) := by
    rw [show ((2 : Int) ^ j) = ((2 ^ j : Nat) : Int) by rw [Int.natCast_pow]; rfl, Int.emod_eq_of_lt (Int.natCast_nonneg _) (by omega)]
  rw [e, u8_xor_nat _ _ hy h2]
  unfold bv
  rw [UInt8.toNat_ofNat', Nat.mod_eq_of_lt (flip_byte y j hy hj)]

theorem bit_tmod (s q : Nat) : ((s : Int) / 2 ^ q).tmod 2 = ((s / 2 ^ q % 2 : Nat) : Int) := by
  have e : ((s : Int) / 2 ^ q) = ((s / 2 ^ q : Nat) : Int) := by rw [Int.natCast_ediv, Int.natCast_pow]; rfl
  rw [e, Int.tmod_eq_emod_of_nonneg (Int.natCast_nonneg _)]
  rfl

/-- Bytes in which the first q of the bits s are turned, from place p on. -/
def turnN (l : List UInt8) (p s : Nat) : Nat → List UInt8
  | 0 => l
  | q + 1 => if s.testBit q then flip (turnN l p s q) (p + q) else turnN l p s q

theorem turnN_length (l : List UInt8) (p s : Nat) : ∀ q, (turnN l p s q).length = l.length
  | 0 => rfl
  | q + 1 => by
    unfold turnN
    split
    · rw [flip_length]; exact turnN_length l p s q
    · exact turnN_length l p s q

theorem turnN_turned (l : List UInt8) (p s : Nat) : ∀ q, p + q ≤ 8 * l.length → Turned l (turnN l p s q) p s q
  | 0, _ => Turned.start l p s
  | q + 1, h => by
    have ih := turnN_turned l p s q (by omega)
    unfold turnN
    split
    · next hs => exact ih.yes hs (by omega)
    · next hs => exact ih.no (by simpa using hs)

theorem turnN_no {l : List UInt8} {p s q : Nat} (h : s.testBit q = false) : turnN l p s (q + 1) = turnN l p s q := by
  rw [turnN, if_neg (by rw [h]; decide)]
theorem turnN_yes {l : List UInt8} {p s q : Nat} (h : s.testBit q = true) : turnN l p s (q + 1) = (turnN l p s q).set ((p + q) / 8) (UInt8.ofNat (((turnN l p s q).getD ((p + q) / 8) 0).toNat ^^^ 2 ^ ((p + q) % 8))) := by
  rw [turnN, if_pos h]; rfl

theorem bit_and (s q : Nat) (hs : s < 4294967296) : bits .and .u32 ((s : Int) / 2 ^ q) 1 = ((s / 2 ^ q % 2 : Nat) : Int) := by
  have e : ((s : Int) / 2 ^ q) = ((s / 2 ^ q : Nat) : Int) := by rw [Int.natCast_ediv, Int.natCast_pow]; rfl
  rw [e, show (1 : Int) = ((1 : Nat) : Int) from rfl, u32_and_nat _ _ (Nat.lt_of_le_of_lt (Nat.div_le_self _ _) hs) (by decide), Nat.and_one_is_mod]

/-! ### A thing in a bag is turned -/
theorem bodies_map (l : List Th) : bodies l = (l.map Th.v).filterMap Value.ownBlock := by
  unfold bodies
  rw [List.filterMap_map]
  rfl

theorem bodies_inj {l : List Th} (hd : (bodies l).Nodup) {i k b : Nat} {x y : Th} (hi : l[i]? = some x) (hk : l[k]? = some y) (hx : x.v.ownBlock = some b) (hy : y.v.ownBlock = some b) : i = k := by
  unfold bodies List.Nodup at hd
  rw [List.pairwise_filterMap, List.pairwise_iff_getElem] at hd
  obtain ⟨hil, hie⟩ := List.getElem?_eq_some_iff.1 hi
  obtain ⟨hkl, hke⟩ := List.getElem?_eq_some_iff.1 hk
  subst hie hke
  rcases Nat.lt_trichotomy i k with h | h | h
  · exact absurd rfl (hd i k hil hkl h b hx b hy)
  · exact h
  · exact absurd rfl (hd k i hkl hil h b hy b hx)

section
variable {w : World} {base p : Nat} {T : Value} {room lost : Nat} {l : List Th} {D : Nat → Prop}

theorem set_cases {i : Nat} {x y : Th} (h : y ∈ l.set i x) : y = x ∨ ∃ k, k ≠ i ∧ l[k]? = some y := by
  obtain ⟨k, hk⟩ := List.mem_iff_getElem?.1 h
  rw [List.getElem?_set] at hk
  split at hk
  · split at hk
    · injection hk with hk; exact .inl hk.symm
    · cases hk
  · next hne => exact .inr ⟨k, fun e => hne e.symm, hk⟩

theorem BagAt.setByte (h : BagAt w base p T room lost l D) {i bk n c j : Nat} {b : List UInt8} {t : Bool} (hx : l[i]? = some ⟨.slice (some ⟨bk, 0, none⟩) n c, b, t⟩) (y : UInt8) :
    BagAt (w.setCell ⟨bk, j, none⟩ (bv y)) base p T room lost (l.set i ⟨.slice (some ⟨bk, 0, none⟩) n c, b.set j y, t⟩) D ∧ OnlyE w (w.setCell ⟨bk, j, none⟩ (bv y)) D := by
  obtain ⟨hil, hie⟩ := List.getElem?_eq_some_iff.1 hx
  have hmem : (⟨.slice (some ⟨bk, 0, none⟩) n c, b, t⟩ : Th) ∈ l := hie ▸ List.getElem_mem hil
  have hbk : bk ∈ bodies l := mem_bodies hmem rfl
  have ho : OnlyE w (w.setCell ⟨bk, j, none⟩ (bv y)) (fun k => k = bk) := onlyE_set (D := fun k => k = bk) rfl j _
  obtain ⟨hp, hT⟩ := h.ne_body hbk
  have hown := h.bod _ hmem
  simp only [] at hown
  have hn : b.length = n := by
    rcases hown.2 with ⟨h1, _⟩ | ⟨_, _, _, h1, _⟩
    · simp at h1
    · injection h1 with _ h1; exact h1.symm
  have hflat : flat encTh (l.set i ⟨.slice (some ⟨bk, 0, none⟩) n c, b.set j y, t⟩) = flat encTh l := by
    unfold flat
    rw [List.flatMap_def, List.flatMap_def, List.map_set]
    congr 1
    rw [show encTh ⟨.slice (some ⟨bk, 0, none⟩) n c, b.set j y, t⟩ = encTh l[i] by rw [hie]; rfl, ← List.getElem_map encTh (h := by simpa using hil), List.set_getElem_self]
  have hbod : bodies (l.set i ⟨.slice (some ⟨bk, 0, none⟩) n c, b.set j y, t⟩) = bodies l := by
    rw [bodies_map, bodies_map, List.map_set]
    congr 1
    rw [show Th.v ⟨.slice (some ⟨bk, 0, none⟩) n c, b.set j y, t⟩ = Th.v l[i] by rw [hie], ← List.getElem_map Th.v (h := by simpa using hil), List.set_getElem_self]
  refine ⟨?_, ho.mono fun k hk => hk ▸ h.db _ hbk⟩
  exact
  { box := (ho.same p h.plt (fun e => hp e.symm)).trans h.box
    ths := by
      rw [List.length_set, hflat]
      exact own_only h.ths ho fun k hk e => hT (e ▸ hk)
    bod := fun x hx' => by
      rcases set_cases hx' with rfl | ⟨k, hk, hxk⟩
      · subst hn
        simp only [List.length_set]
        have := (hown.stored j (bv y)).1
        unfold bvs at this ⊢
        rw [List.map_set]
        exact this
      · have hxm : x ∈ l := List.mem_of_getElem? hxk
        exact own_only (h.bod x hxm) ho fun k' hk' e => by
          subst e
          exact hk (bodies_inj h.dis hxk hx hk' rfl)
    dis := by rw [hbod]; exact h.dis
    dp := h.dp, dt := h.dt, db := by rw [hbod]; exact h.db
    din := fun b' hb' => ⟨(h.din b' hb').1, by simpa using (h.din b' hb').2⟩
    bm := fun x hx' => by
      rcases set_cases hx' with rfl | ⟨k, _, hxk⟩
      · simp only [List.length_set]; exact h.bm _ hmem
      · exact h.bm x (List.mem_of_getElem? hxk)
    fit := by rw [List.length_set]; exact h.fit
    room1 := h.room1, room2 := h.room2, low := h.low }

theorem BagAt.setFlag (h : BagAt w base p T room lost l D) {i g n c : Nat} {v : Value} {b : List UInt8} {t : Bool} (hT : T = .slice (some ⟨g, 0, none⟩) n c) (hx : l[i]? = some ⟨v, b, t⟩) (t' : Bool) :
    BagAt (w.setCell ⟨g, i * 2 + 1, none⟩ (.bool t')) base p T room lost (l.set i ⟨v, b, t'⟩) D ∧ OnlyE w (w.setCell ⟨g, i * 2 + 1, none⟩ (.bool t')) D := by
  obtain ⟨hil, hie⟩ := List.getElem?_eq_some_iff.1 hx
  have hmem : (⟨v, b, t⟩ : Th) ∈ l := hie ▸ List.getElem_mem hil
  subst hT
  have ho : OnlyE w (w.setCell ⟨g, i * 2 + 1, none⟩ (.bool t')) (fun k => k = g) := onlyE_set (D := fun k => k = g) rfl _ _
  have hgp := h.ne_row (g := g) rfl
  have hbod : bodies (l.set i ⟨v, b, t'⟩) = bodies l := by
    rw [bodies_map, bodies_map, List.map_set]
    congr 1
    rw [show Th.v ⟨v, b, t'⟩ = Th.v l[i] by rw [hie], ← List.getElem_map Th.v (h := by simpa using hil), List.set_getElem_self]
  have hset : (flat encTh l).set (i * 2 + 1) (.bool t') = flat encTh (l.set i ⟨v, b, t'⟩) := by
    clear ho hgp hbod hmem h
    induction l generalizing i with
    | nil => simp at hil
    | cons y l ih =>
      rcases i with _ | i
      · simp at hie
        subst hie
        simp [flat_cons, encTh]
      · have := ih (i := i) (by simpa using hx) (by simpa using hil) (by simpa using hie)
        rw [List.set_cons_succ, flat_cons, flat_cons, ← this]
        simp [encTh, Nat.succ_mul]
  have hn : l.length = n := by
    rcases h.ths.2 with ⟨h1, _⟩ | ⟨_, _, _, h1, _⟩
    · simp at h1
    · injection h1 with _ h1; exact h1.symm
  refine ⟨?_, ho.mono fun k hk => hk ▸ h.dt g rfl⟩
  exact
  { box := (ho.same p h.plt (fun e => hgp e.symm)).trans h.box
    ths := by
      rw [List.length_set, ← hset]
      subst hn
      exact (h.ths.stored (i * 2 + 1) (.bool t')).1
    bod := fun x hx' => by
      have hxm : ∃ y ∈ l, y.v = x.v ∧ y.b = x.b := by
        rcases set_cases hx' with rfl | ⟨k, _, hxk⟩
        · exact ⟨_, hmem, rfl, rfl⟩
        · exact ⟨x, List.mem_of_getElem? hxk, rfl, rfl⟩
      obtain ⟨y, hy, e1, e2⟩ := hxm
      rw [← e1, ← e2]
      exact own_only (h.bod y hy) ho fun k hk e => by
        subst e
        exact (h.ne_body (mem_bodies hy hk)).2 rfl
    dis := by rw [hbod]; exact h.dis
    dp := h.dp, dt := h.dt, db := by rw [hbod]; exact h.db
    din := fun b' hb' => ⟨(h.din b' hb').1, by simpa using (h.din b' hb').2⟩
    bm := fun x hx' => by
      rcases set_cases hx' with rfl | ⟨k, _, hxk⟩
      · exact (h.bm _ hmem : b.length ≤ 1000)
      · exact h.bm x (List.mem_of_getElem? hxk)
    fit := by rw [List.length_set]; exact h.fit
    room1 := h.room1, room2 := h.room2, low := h.low }
end

end Go.Proofs.Ytjecphjdmjoeiaa
