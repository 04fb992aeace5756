/- Stage 13, plain: what stands while a chunk is put to its part; what a payload's bytes are. -/
import Derived.Test.YthkongnjokmmfaaDoorGtF
set_option maxRecDepth 20000
namespace Go.Proofs.YthkongnjokmmfaaDoor

/-- What stands of a gatherer, a whole part let in. -/
structure Gm.Sok (g : Gm) : Prop where
  chunk1 : 1 ≤ g.chunk
  chunk2 : g.chunk ≤ 65536
  most : g.most ≤ 1048576
  room : g.most ≤ g.room
  used : usedL g.l ≤ g.room
  parts : ∀ p ∈ g.l, p.size ≤ 1048576 ∧ p.has.length = cntN p.size g.chunk ∧ p.cuts.length = p.has.length ∧ ∀ i : Nat, p.has[i]? = some true → ∃ d, p.cuts[i]? = some d ∧ d.length = lenZ (p.size : Int) (g.chunk : Int) (i : Int)
  small : ∀ p ∈ g.l, p.size ≤ g.most
  ids : g.l.Pairwise fun p q => p.id ≠ q.id
  six : g.counts.length = 6
section
variable {g : Gm}
theorem Gm.Ok.sok (h : g.Ok) : g.Sok := ⟨h.chunk1, h.chunk2, h.most, h.room, h.used, fun p hp => ⟨(h.parts p hp).size, (h.parts p hp).has, (h.parts p hp).cuts, (h.parts p hp).lens⟩, h.small, h.ids, h.six⟩
theorem Gm.Near.sok {i : Nat} (h : g.Near i) : g.Sok := ⟨h.chunk1, h.chunk2, h.most, h.room, h.used, h.parts, h.small, h.ids, h.six⟩
theorem Gm.Sok.of_l {l : List Part} (h : g.Sok) (h1 : usedL l ≤ g.room) (h2 : ∀ p ∈ l, p ∈ g.l) (h4 : l.Pairwise fun p q => p.id ≠ q.id) : Gm.Sok { g with l := l } :=
  ⟨h.chunk1, h.chunk2, h.most, h.room, h1, fun p hp => h.parts p (h2 p hp), fun p hp => h.small p (h2 p hp), h4, h.six⟩
theorem Gm.Sok.counts (h : g.Sok) {c : List Nat} (hc : c.length = 6) : Gm.Sok { g with counts := c } := ⟨h.chunk1, h.chunk2, h.most, h.room, h.used, h.parts, h.small, h.ids, hc⟩
theorem Gm.Sok.want (h : g.Sok) (x : Id) : Gm.Sok { g with wanted := x } := ⟨h.chunk1, h.chunk2, h.most, h.room, h.used, h.parts, h.small, h.ids, h.six⟩
theorem Gm.Sok.drop (h : g.Sok) (x : Id) : (g.drop x).1.Sok := by
  unfold Gm.drop
  split
  · exact h.of_l (Nat.le_trans (usedL_erase _ _) h.used) (fun p hp => List.mem_of_mem_eraseIdx hp) (h.ids.sublist (List.eraseIdx_sublist _ _))
  · exact h
/-- A chunk is put to a part. -/
theorem Gm.Sok.set (h : g.Sok) {i : Nat} (hi : i < g.l.length) {a : Nat} {d : List UInt8} (ha : a < g.l[i].has.length) (hd : d.length = lenZ (g.l[i].size : Int) (g.chunk : Int) (a : Int)) : Gm.Sok { g with l := g.l.set i (g.l[i].putCut a d) } := by
  have hm := h.parts _ (List.getElem_mem hi)
  refine ⟨h.chunk1, h.chunk2, h.most, h.room, ?_, fun p hp => ?_, fun p hp => ?_, pairwise_set_id h.ids hi rfl, h.six⟩
  · show usedL (g.l.set i _) ≤ _
    rw [usedL_set g.l i (g.l[i].putCut a d) hi rfl]
    exact h.used
  · rcases List.mem_or_eq_of_mem_set hp with hp | rfl
    · exact h.parts p hp
    · exact ⟨hm.1, by show (List.set _ _ _).length = _; rw [List.length_set]; exact hm.2.1, by show (List.set _ _ _).length = (List.set _ _ _).length; rw [List.length_set, List.length_set]; exact hm.2.2.1, putCut_lens hm.2.2.1 hm.2.2.2 ha hd⟩
  · rcases List.mem_or_eq_of_mem_set hp with hp | rfl
    · exact h.small p hp
    · show g.l[i].size ≤ g.most
      exact h.small _ (List.getElem_mem hi)

/-- .. and what is made of it, without the count. -/
def Gm.comeAt (g : Gm) (i : Nat) (F : Fr) : Gm × List UInt8 × Nat :=
  if h : i < g.l.length then
    if (g.l[i].putCut F.at_ F.data).full then ({ g with l := g.l.eraseIdx i }, (g.l[i].putCut F.at_ F.data).cuts.flatten, 5)
    else ({ g with l := g.l.set i (g.l[i].putCut F.at_ F.data) }, [], 4)
  else (g, [], 4)
def Gm.come (g : Gm) (may : Bool) (F : Fr) : Gm × List UInt8 × Nat :=
  if may && rightZ F g.chunk g.most then
    if h : idxP g.l F.id < g.l.length then
      if g.l[idxP g.l F.id].size ≠ F.size then (g, [], 1)
      else if g.l[idxP g.l F.id].has.getD F.at_ false then (g, [], 2)
      else g.comeAt (idxP g.l F.id) F
    else if g.room < usedL g.l + F.size ∧ F.id ≠ g.wanted then (g, [], 3)
    else
      Gm.comeAt { g with l := (evict g.room F.size g.l).1 ++ [newPart F.id F.size F.of_], counts := bump g.counts 3 (evict g.room F.size g.l).2 } (evict g.room F.size g.l).1.length F
  else (g, [], 1)
def Gm.counted (r : Gm × List UInt8 × Nat) : Gm × List UInt8 × Nat := ({ r.1 with counts := bump r.1.counts r.2.2 1 }, r.2)
theorem comeAt_counted (i : Nat) (F : Fr) (h : i < g.l.length) : g.putAt i F = Gm.counted (g.comeAt i F) := by
  unfold Gm.putAt Gm.comeAt Gm.counted
  rw [dif_pos h, dif_pos h]
  split <;> rfl
theorem put_counted (may : Bool) (F : Fr) : g.put may F = Gm.counted (g.come may F) := by
  unfold Gm.put Gm.come
  split
  · split
    · rename_i h
      split
      · rfl
      · split
        · rfl
        · exact comeAt_counted _ _ h
    · split
      · rfl
      · exact comeAt_counted (g := { g with l := (evict g.room F.size g.l).1 ++ [newPart F.id F.size F.of_], counts := bump g.counts 3 (evict g.room F.size g.l).2 }) _ F (by simp)
  · rfl
theorem come_made (may : Bool) (F : Fr) : 1 ≤ (g.come may F).2.2 ∧ (g.come may F).2.2 ≤ 5 := by
  have key : ∀ (g : Gm) (i : Nat), 1 ≤ (g.comeAt i F).2.2 ∧ (g.comeAt i F).2.2 ≤ 5 := fun g i => by
    unfold Gm.comeAt
    split
    · split <;> exact ⟨Nat.le_of_ble_eq_true rfl, Nat.le_of_ble_eq_true rfl⟩
    · exact ⟨Nat.le_of_ble_eq_true rfl, Nat.le_of_ble_eq_true rfl⟩
  unfold Gm.come
  split
  · split
    · split
      · exact ⟨Nat.le_of_ble_eq_true rfl, Nat.le_of_ble_eq_true rfl⟩
      · split
        · exact ⟨Nat.le_of_ble_eq_true rfl, Nat.le_of_ble_eq_true rfl⟩
        · exact key _ _
    · split
      · exact ⟨Nat.le_of_ble_eq_true rfl, Nat.le_of_ble_eq_true rfl⟩
      · exact key _ _
  · exact ⟨Nat.le_of_ble_eq_true rfl, Nat.le_of_ble_eq_true rfl⟩
end

/-! ### The bytes of a payload -/
/-- The payload's bytes hold the chunks that came. -/
def HasCuts (k : Nat) (x : Part) (pl : List UInt8) : Prop := ∀ i d, x.has[i]? = some true → x.cuts[i]? = some d → (pl.drop (i * k)).take d.length = d
def laidAt (pl : List UInt8) (o : Nat) (d : List UInt8) : List UInt8 := pl.take o ++ (d ++ pl.drop (o + d.length))
theorem laidAt_len (pl : List UInt8) (o : Nat) (d : List UInt8) (h : o + d.length ≤ pl.length) : (laidAt pl o d).length = pl.length := by simp [laidAt]; omega
theorem laidAt_self (pl : List UInt8) (o : Nat) (d : List UInt8) (h : o + d.length ≤ pl.length) : ((laidAt pl o d).drop o).take d.length = d := by
  unfold laidAt
  rw [List.drop_append, List.length_take, Nat.min_eq_left (by omega), Nat.sub_self, List.drop_zero, List.drop_eq_nil_of_le (by rw [List.length_take]; omega), List.nil_append, List.take_left']
  rfl
theorem laidAt_before (pl : List UInt8) (o : Nat) (d : List UInt8) (a n : Nat) (h : o + d.length ≤ pl.length) (ha : a + n ≤ o) : ((laidAt pl o d).drop a).take n = (pl.drop a).take n := by
  refine List.ext_getElem? fun j => ?_
  rw [List.getElem?_take, List.getElem?_take]
  split
  · rw [List.getElem?_drop, List.getElem?_drop]
    unfold laidAt
    rw [List.getElem?_append_left (by rw [List.length_take]; omega), List.getElem?_take, if_pos (by omega)]
  · rfl
theorem laidAt_behind (pl : List UInt8) (o : Nat) (d : List UInt8) (a n : Nat) (h : o + d.length ≤ pl.length) (ha : o + d.length ≤ a) : ((laidAt pl o d).drop a).take n = (pl.drop a).take n := by
  refine List.ext_getElem? fun j => ?_
  rw [List.getElem?_take, List.getElem?_take]
  split
  · rw [List.getElem?_drop, List.getElem?_drop]
    unfold laidAt
    rw [List.getElem?_append_right (by rw [List.length_take]; omega), List.getElem?_append_right (by rw [List.length_take]; omega), List.getElem?_drop, List.length_take]
    congr 1
    omega
  · rfl

theorem lenZ_min {n k i : Nat} (hn : n ≤ 1048576) (hk : 1 ≤ k) (hk2 : k ≤ 65536) (hi : i < cntN n k) : lenZ (n : Int) (k : Int) (i : Int) = min k (n - i * k) ∧ i * k ≤ n := by
  have := cntN_mul hk hi
  refine ⟨?_, this⟩
  unfold lenZ
  rw [uptoZ_yes hn hk hk2 hi, fromZ_yes hn hk hk2 hi]
  omega

/-- One more chunk. -/
theorem HasCuts.put {k : Nat} {x : Part} {pl d : List UInt8} {a : Nat} (h : HasCuts k x pl) (hk : 1 ≤ k) (hk2 : k ≤ 65536) (hs : x.size ≤ 1048576) (hpl : pl.length = x.size) (hh : x.has.length = cntN x.size k)
    (hl : ∀ i : Nat, x.has[i]? = some true → ∃ d, x.cuts[i]? = some d ∧ d.length = lenZ (x.size : Int) (k : Int) (i : Int)) (ha : a < x.has.length) (hd : d.length = lenZ (x.size : Int) (k : Int) (a : Int)) : HasCuts k (x.putCut a d) (laidAt pl (a * k) d) := by
  obtain ⟨e1, e2⟩ := lenZ_min hs hk hk2 (by omega : a < cntN x.size k)
  have hfit : a * k + d.length ≤ pl.length := by omega
  intro i d' hi hc
  have hi' : (x.has.set a true)[i]? = some true := hi
  have hc' : (x.cuts.set a d)[i]? = some d' := hc
  by_cases e : a = i
  · subst e
    have hlen : a < x.cuts.length := by
      have := (List.getElem?_eq_some_iff.1 hc').1
      rwa [List.length_set] at this
    rw [List.getElem?_set_self hlen] at hc'
    injection hc' with hc'
    subst hc'
    exact laidAt_self pl (a * k) d hfit
  · rw [List.getElem?_set_ne e] at hi' hc'
    have h0 := h i d' hi' hc'
    obtain ⟨d2, h2, h3⟩ := hl i hi'
    rw [hc'] at h2
    injection h2 with h2
    subst h2
    have hii : i < cntN x.size k := by rw [← hh]; exact (List.getElem?_eq_some_iff.1 hi').1
    obtain ⟨e3, e4⟩ := lenZ_min hs hk hk2 hii
    rcases Nat.lt_or_gt_of_ne e with hlt | hlt
    · have hm : (a + 1) * k ≤ i * k := Nat.mul_le_mul_right k hlt
      rw [Nat.add_mul, Nat.one_mul] at hm
      rw [laidAt_behind pl (a * k) d (i * k) d'.length hfit (by omega)]
      exact h0
    · have hm : (i + 1) * k ≤ a * k := Nat.mul_le_mul_right k hlt
      rw [Nat.add_mul, Nat.one_mul] at hm
      rw [laidAt_before pl (a * k) d (i * k) d'.length hfit (by omega)]
      exact h0

/-- All are there: they are the payload. -/
theorem HasCuts.all {k : Nat} {x : Part} {pl : List UInt8} (h : HasCuts k x pl) (hk : 1 ≤ k) (hk2 : k ≤ 65536) (hs : x.size ≤ 1048576) (hpl : pl.length = x.size) (hh : x.has.length = cntN x.size k) (hc : x.cuts.length = x.has.length)
    (hl : ∀ i : Nat, x.has[i]? = some true → ∃ d, x.cuts[i]? = some d ∧ d.length = lenZ (x.size : Int) (k : Int) (i : Int)) (hf : x.full = true) : pl = x.cuts.flatten := by
  have e : x.cuts = chs pl k x.has.length := by
    refine List.ext_getElem (by rw [chs_len, hc]) fun i h1 h2 => ?_
    have ea : (chs pl k x.has.length)[i] = chL pl k i := by simp [chs]
    rw [ea]
    have hi : i < x.has.length := by omega
    have ht : x.has[i]? = some true := by
      rw [List.getElem?_eq_getElem hi]
      have := List.all_eq_true.1 hf x.has[i] (List.getElem_mem hi)
      rw [this]
    obtain ⟨d, h3, h4⟩ := hl i ht
    have h5 := h i d ht h3
    rw [List.getElem?_eq_getElem h1] at h3
    injection h3 with h3
    rw [h3]
    obtain ⟨e3, e4⟩ := lenZ_min hs hk hk2 (by omega : i < cntN x.size k)
    unfold chL
    rw [← h5]
    rw [h4, e3]
    refine List.ext_getElem? fun j => ?_
    rw [List.getElem?_take, List.getElem?_take]
    by_cases hj : j < min k (x.size - i * k)
    · rw [if_pos hj, if_pos (by omega)]
    · rw [if_neg hj]
      by_cases hj2 : j < k
      · rw [if_pos hj2, List.getElem?_drop, List.getElem?_eq_none (by omega)]
      · rw [if_neg hj2]
  rw [e, chs_flatten, List.take_of_length_le]
  have : x.size ≤ x.has.length * k := by
    rw [hh]
    rcases Nat.lt_or_ge (cntN x.size k * k) x.size with hlt | hge
    · obtain ⟨m, hm⟩ : ∃ m, cntN x.size k = m + 1 := ⟨cntN x.size k - 1, by have := cntN_pos x.size k; omega⟩
      rw [hm] at hlt
      have := (cntN_lt (n := x.size) (k := k) (a := m) hk).2 hlt
      omega
    · exact hge
  omega

end Go.Proofs.YthkongnjokmmfaaDoor
