/- Stage 13, plain: a gatherer as data: its parts, what a chunk makes of it. -/
import Derived.Test.YthkongnjokmmfaaDoorGaB
set_option maxRecDepth 20000
namespace Go.Proofs.YthkongnjokmmfaaDoor

/-- A part: its id, how many bytes, which chunks came, and these. -/
structure Part where
  id : Id
  size : Nat
  has : List Bool
  cuts : List (List UInt8)
/-- A gatherer. -/
structure Gm where
  chunk : Nat
  most : Nat
  room : Nat
  l : List Part
  wanted : Id
  counts : List Nat

def usedL : List Part → Nat
  | [] => 0
  | p :: r => p.size + usedL r
theorem usedL_append : ∀ a b : List Part, usedL (a ++ b) = usedL a + usedL b
  | [], b => by show usedL b = 0 + usedL b; omega
  | p :: r, b => by
    show p.size + usedL (r ++ b) = p.size + usedL r + usedL b
    rw [usedL_append r b]; omega
theorem usedL_erase : ∀ (l : List Part) (i : Nat), usedL (l.eraseIdx i) ≤ usedL l
  | [], _ => Nat.le_refl _
  | p :: r, 0 => by show usedL r ≤ p.size + usedL r; omega
  | p :: r, i + 1 => by
    show p.size + usedL (r.eraseIdx i) ≤ p.size + usedL r
    have := usedL_erase r i
    omega
theorem usedL_set : ∀ (l : List Part) (i : Nat) (q : Part), (h : i < l.length) → q.size = l[i].size → usedL (l.set i q) = usedL l
  | p :: r, 0, q, _, e => by show q.size + usedL r = p.size + usedL r; rw [e]; rfl
  | p :: r, i + 1, q, h, e => by
    show p.size + usedL (r.set i q) = p.size + usedL r
    rw [usedL_set r i q (by simpa using h) (by simpa using e)]

/-- Which part is an id's: its place, or how many there are. -/
def idxP : List Part → Id → Nat
  | [], _ => 0
  | p :: r, x => if p.id = x then 0 else idxP r x + 1
theorem idxP_le : ∀ (l : List Part) (x : Id), idxP l x ≤ l.length
  | [], _ => Nat.le_refl _
  | p :: r, x => by
    unfold idxP
    split
    · omega
    · have := idxP_le r x
      simp only [List.length_cons]; omega
theorem idxP_at : ∀ (l : List Part) (x : Id) (h : idxP l x < l.length), l[idxP l x].id = x
  | [], x, h => absurd h (Nat.not_lt_zero _)
  | p :: r, x, h => by
    by_cases e : p.id = x
    · have e0 : idxP (p :: r) x = 0 := by unfold idxP; rw [if_pos e]
      simp only [e0, List.getElem_cons_zero]
      exact e
    · have e0 : idxP (p :: r) x = idxP r x + 1 := by rw [idxP, if_neg e]
      simp only [e0, List.getElem_cons_succ]
      exact idxP_at r x (by rw [e0] at h; simpa using h)
theorem idxP_none : ∀ (l : List Part) (x : Id), ¬ idxP l x < l.length → ∀ p ∈ l, p.id ≠ x
  | [], _, _ => fun _ hp => by cases hp
  | p :: r, x, h => by
    intro q hq
    by_cases e : p.id = x
    · exact absurd (show idxP (p :: r) x < (p :: r).length by rw [idxP, if_pos e]; simp) h
    · rw [idxP, if_neg e] at h
      rcases List.mem_cons.1 hq with rfl | hq
      · exact e
      · exact idxP_none r x (by simpa using h) q hq

/-- The first chunk that lacks. -/
def firstF (has : List Bool) : Nat := if has.findIdx (fun b => !b) < has.length then has.findIdx (fun b => !b) else 0
def Gm.first (g : Gm) (x : Id) : Nat := if h : idxP g.l x < g.l.length then firstF (g.l[idxP g.l x].has) else 0
def Part.full (p : Part) : Bool := p.has.all fun b => b

def bump (c : List Nat) (k n : Nat) : List Nat := c.set k (c.getD k 0 + n)
theorem bump_len (c : List Nat) (k n : Nat) : (bump c k n).length = c.length := by simp [bump]

/-- Parts go, the first ones first, till there is room; how many. -/
def evict (room size : Nat) : List Part → List Part × Nat
  | [] => ([], 0)
  | p :: r => if room < usedL (p :: r) + size then ((evict room size r).1, (evict room size r).2 + 1) else (p :: r, 0)
theorem evict_room {room size : Nat} (h : size ≤ room) : ∀ l : List Part, usedL (evict room size l).1 + size ≤ room
  | [] => by show 0 + size ≤ room; omega
  | p :: r => by
    unfold evict
    split
    · exact evict_room h r
    · show usedL (p :: r) + size ≤ room
      omega
theorem evict_sub (room size : Nat) : ∀ l : List Part, ∃ a, l = a ++ (evict room size l).1 ∧ a.length = (evict room size l).2
  | [] => ⟨[], rfl, rfl⟩
  | p :: r => by
    unfold evict
    split
    · obtain ⟨a, e1, e2⟩ := evict_sub room size r
      exact ⟨p :: a, by show p :: r = p :: (a ++ _); rw [← e1], by show a.length + 1 = _; rw [e2]⟩
    · exact ⟨[], rfl, rfl⟩
theorem evict_mem {room size : Nat} {l : List Part} {p : Part} (h : p ∈ (evict room size l).1) : p ∈ l := by
  obtain ⟨a, e, _⟩ := evict_sub room size l
  rw [e]
  exact List.mem_append_right _ h
theorem evict_none {room size : Nat} {l : List Part} (h : usedL l + size ≤ room) : evict room size l = (l, 0) := by
  cases l with
  | nil => rfl
  | cons p r => unfold evict; rw [if_neg (by omega)]

/-- The part of an id that begins: nothing is there. -/
def newPart (x : Id) (size n : Nat) : Part := ⟨x, size, List.replicate n false, List.replicate n []⟩
def Part.putCut (p : Part) (i : Nat) (d : List UInt8) : Part := { p with has := p.has.set i true, cuts := p.cuts.set i d }

/-- The chunk is put to the part at a place. -/
def Gm.putAt (g : Gm) (i : Nat) (F : Fr) : Gm × List UInt8 × Nat :=
  if h : i < g.l.length then
    if (g.l[i].putCut F.at_ F.data).full then ({ g with l := g.l.eraseIdx i, counts := bump g.counts 5 1 }, (g.l[i].putCut F.at_ F.data).cuts.flatten, 5)
    else ({ g with l := g.l.set i (g.l[i].putCut F.at_ F.data), counts := bump g.counts 4 1 }, [], 4)
  else (g, [], 4)
/-- A chunk comes; 'may' tells whether its id may be. -/
def Gm.put (g : Gm) (may : Bool) (F : Fr) : Gm × List UInt8 × Nat :=
  if may && rightZ F g.chunk g.most then
    if h : idxP g.l F.id < g.l.length then
      if g.l[idxP g.l F.id].size ≠ F.size then ({ g with counts := bump g.counts 1 1 }, [], 1)
      else if g.l[idxP g.l F.id].has.getD F.at_ false then ({ g with counts := bump g.counts 2 1 }, [], 2)
      else g.putAt (idxP g.l F.id) F
    else if g.room < usedL g.l + F.size ∧ F.id ≠ g.wanted then ({ g with counts := bump g.counts 3 1 }, [], 3)
    else
      Gm.putAt { g with l := (evict g.room F.size g.l).1 ++ [newPart F.id F.size F.of_], counts := bump g.counts 3 (evict g.room F.size g.l).2 } (evict g.room F.size g.l).1.length F
  else ({ g with counts := bump g.counts 1 1 }, [], 1)
/-- The part of an id goes; how many. -/
def Gm.drop (g : Gm) (x : Id) : Gm × Nat := if idxP g.l x < g.l.length then ({ g with l := g.l.eraseIdx (idxP g.l x) }, 1) else (g, 0)

/-! ### What always stands -/
/-- A part of chunks of k bytes: it lacks one; what is there has its length. -/
structure Part.Ok (k : Nat) (p : Part) : Prop where
  size : p.size ≤ 1048576
  has : p.has.length = cntN p.size k
  cuts : p.cuts.length = p.has.length
  lens : ∀ i : Nat, p.has[i]? = some true → ∃ d, p.cuts[i]? = some d ∧ d.length = lenZ (p.size : Int) (k : Int) (i : Int)
  lack : p.full = false
structure Gm.Ok (g : Gm) : Prop where
  chunk1 : 1 ≤ g.chunk
  chunk2 : g.chunk ≤ 65536
  most : g.most ≤ 1048576
  room : g.most ≤ g.room
  used : usedL g.l ≤ g.room
  parts : ∀ p ∈ g.l, p.Ok g.chunk
  small : ∀ p ∈ g.l, p.size ≤ g.most
  ids : g.l.Pairwise fun p q => p.id ≠ q.id
  six : g.counts.length = 6

theorem right_facts {F : Fr} {k most : Nat} (hk : 1 ≤ k) (hk2 : k ≤ 65536) (hm : most ≤ 1048576) (h : rightZ F (k : Int) (most : Int) = true) :
    F.size ≤ most ∧ F.of_ = cntN F.size k ∧ F.at_ < cntN F.size k ∧ F.data.length = lenZ (F.size : Int) (k : Int) (F.at_ : Int) := by
  unfold rightZ at h
  simp only [Bool.and_eq_true, decide_eq_true_eq] at h
  obtain ⟨⟨⟨h1, h2⟩, h3⟩, h4⟩ := h
  have h1' : F.size ≤ most := by omega
  rw [cntZ_yes (by omega) hk hk2] at h2
  exact ⟨h1', by omega, by omega, by omega⟩

theorem putCut_lens {k : Nat} {p : Part} {i : Nat} {d : List UInt8} (hc : p.cuts.length = p.has.length) (hl : ∀ j : Nat, p.has[j]? = some true → ∃ d, p.cuts[j]? = some d ∧ d.length = lenZ (p.size : Int) (k : Int) (j : Int))
    (hi : i < p.has.length) (hd : d.length = lenZ (p.size : Int) (k : Int) (i : Int)) : ∀ j : Nat, (p.putCut i d).has[j]? = some true → ∃ d', (p.putCut i d).cuts[j]? = some d' ∧ d'.length = lenZ ((p.putCut i d).size : Int) (k : Int) (j : Int) := by
  intro j hj
  show ∃ d', (p.cuts.set i d)[j]? = some d' ∧ _
  have hj' : (p.has.set i true)[j]? = some true := hj
  by_cases e : i = j
  · subst e
    exact ⟨d, by rw [List.getElem?_set_self (by omega)], hd⟩
  · rw [List.getElem?_set_ne e] at hj' ⊢
    exact hl j hj'

section
variable {g : Gm}
theorem Gm.Ok.of_l {l : List Part} (h : g.Ok) (h1 : usedL l ≤ g.room) (h2 : ∀ p ∈ l, p.Ok g.chunk) (h3 : ∀ p ∈ l, p.size ≤ g.most) (h4 : l.Pairwise fun p q => p.id ≠ q.id) {c : List Nat} (hc : c.length = 6) : Gm.Ok { g with l := l, counts := c } :=
  ⟨h.chunk1, h.chunk2, h.most, h.room, h1, h2, h3, h4, hc⟩
theorem Gm.Ok.counts (h : g.Ok) {c : List Nat} (hc : c.length = 6) : Gm.Ok { g with counts := c } := ⟨h.chunk1, h.chunk2, h.most, h.room, h.used, h.parts, h.small, h.ids, hc⟩
theorem Gm.Ok.want (h : g.Ok) (x : Id) : Gm.Ok { g with wanted := x } := ⟨h.chunk1, h.chunk2, h.most, h.room, h.used, h.parts, h.small, h.ids, h.six⟩
theorem Gm.Ok.drop (h : g.Ok) (x : Id) : (g.drop x).1.Ok := by
  unfold Gm.drop
  split
  · exact h.of_l (Nat.le_trans (usedL_erase _ _) h.used) (fun p hp => h.parts p (List.mem_of_mem_eraseIdx hp)) (fun p hp => h.small p (List.mem_of_mem_eraseIdx hp)) (h.ids.sublist (List.eraseIdx_sublist _ _)) h.six
  · exact h

/-- .. but for the part at a place, which may be new: what stands ahead of putAt. -/
structure Gm.Near (g : Gm) (i : Nat) : Prop where
  chunk1 : 1 ≤ g.chunk
  chunk2 : g.chunk ≤ 65536
  most : g.most ≤ 1048576
  room : g.most ≤ g.room
  used : usedL g.l ≤ g.room
  lt : i < g.l.length
  parts : ∀ p ∈ g.l, p.size ≤ 1048576 ∧ p.has.length = cntN p.size g.chunk ∧ p.cuts.length = p.has.length ∧ ∀ i : Nat, p.has[i]? = some true → ∃ d, p.cuts[i]? = some d ∧ d.length = lenZ (p.size : Int) (g.chunk : Int) (i : Int)
  lack : ∀ j, (h : j < g.l.length) → j ≠ i → g.l[j].full = false
  small : ∀ p ∈ g.l, p.size ≤ g.most
  ids : g.l.Pairwise fun p q => p.id ≠ q.id
  six : g.counts.length = 6
theorem Gm.Ok.near (h : g.Ok) {i : Nat} (hi : i < g.l.length) : g.Near i :=
  ⟨h.chunk1, h.chunk2, h.most, h.room, h.used, hi, fun p hp => ⟨(h.parts p hp).size, (h.parts p hp).has, (h.parts p hp).cuts, (h.parts p hp).lens⟩, fun _ hj _ => (h.parts _ (List.getElem_mem hj)).lack, h.small, h.ids, h.six⟩

theorem pairwise_set_id {l : List Part} (h : l.Pairwise fun p q => p.id ≠ q.id) {i : Nat} (hi : i < l.length) {q : Part} (e : q.id = l[i].id) : (l.set i q).Pairwise fun p q => p.id ≠ q.id := by
  have key : (l.set i q).map Part.id = l.map Part.id := by
    refine List.ext_getElem (by simp) fun j h1 h2 => ?_
    rw [List.getElem_map, List.getElem_map, List.getElem_set]
    split
    · rename_i e'; subst e'; exact e
    · rfl
  have h1 : (l.map Part.id).Pairwise (· ≠ ·) := List.pairwise_map.2 h
  rw [← key] at h1
  exact List.pairwise_map.1 h1

theorem Gm.Near.put {i : Nat} (h : g.Near i) {F : Fr} (hi : F.at_ < (g.l[i]'h.lt).has.length) (hd : F.data.length = lenZ ((g.l[i]'h.lt).size : Int) (g.chunk : Int) (F.at_ : Int)) : (g.putAt i F).1.Ok := by
  unfold Gm.putAt
  rw [dif_pos h.lt]
  have hm := h.parts _ (List.getElem_mem h.lt)
  split
  · refine ⟨h.chunk1, h.chunk2, h.most, h.room, Nat.le_trans (usedL_erase _ _) h.used, fun p hp => ?_, fun p hp => h.small p (List.mem_of_mem_eraseIdx hp), h.ids.sublist (List.eraseIdx_sublist _ _), by rw [bump_len]; exact h.six⟩
    obtain ⟨k, hk, hki, e⟩ := List.mem_eraseIdx_iff_getElem.1 hp
    have hp1 := h.parts p (List.mem_of_mem_eraseIdx hp)
    exact ⟨hp1.1, hp1.2.1, hp1.2.2.1, hp1.2.2.2, by rw [← e]; exact h.lack k hk hki⟩
  · rename_i hnf
    refine ⟨h.chunk1, h.chunk2, h.most, h.room, ?_, fun p hp => ?_, fun p hp => ?_, ?_, by rw [bump_len]; exact h.six⟩
    · show usedL (g.l.set i _) ≤ _
      rw [usedL_set g.l i ((g.l[i]'h.lt).putCut F.at_ F.data) h.lt rfl]
      exact h.used
    · obtain ⟨k, hk, e⟩ := List.getElem_of_mem hp
      have hk' : k < g.l.length := by simpa using hk
      rw [List.getElem_set] at e
      by_cases ek : i = k
      · rw [if_pos ek] at e
        subst e
        exact ⟨hm.1, by show (List.set _ _ _).length = _; rw [List.length_set]; exact hm.2.1, by show (List.set _ _ _).length = (List.set _ _ _).length; rw [List.length_set, List.length_set]; exact hm.2.2.1, putCut_lens hm.2.2.1 hm.2.2.2 hi hd, by simpa using hnf⟩
      · rw [if_neg ek] at e
        subst e
        have hp1 := h.parts _ (List.getElem_mem hk')
        exact ⟨hp1.1, hp1.2.1, hp1.2.2.1, hp1.2.2.2, h.lack k hk' (fun e => ek e.symm)⟩
    · rcases List.mem_or_eq_of_mem_set hp with hp | hp
      · exact h.small p hp
      · rw [hp]; exact h.small (g.l[i]'h.lt) (List.getElem_mem h.lt)
    · exact pairwise_set_id h.ids h.lt rfl

theorem Gm.Ok.begun (h : g.Ok) {F : Fr} (hr : rightZ F (g.chunk : Int) (g.most : Int) = true) (hi : ¬ idxP g.l F.id < g.l.length) (c : Nat) : Gm.Near { g with l := (evict g.room F.size g.l).1 ++ [newPart F.id F.size F.of_], counts := bump g.counts 3 c } (evict g.room F.size g.l).1.length := by
  obtain ⟨r1, r2, r3, r4⟩ := right_facts h.chunk1 h.chunk2 h.most hr
  have hmost := h.most
  have hroom := h.room
  have hmem : ∀ p, p ∈ (evict g.room F.size g.l).1 ++ [newPart F.id F.size F.of_] → p ∈ g.l ∨ p = newPart F.id F.size F.of_ := fun p hp => by
    rcases List.mem_append.1 hp with hp | hp
    · exact .inl (evict_mem hp)
    · exact .inr (by simpa using hp)
  refine ⟨h.chunk1, h.chunk2, h.most, h.room, ?_, by simp, fun p hp => ?_, fun j hj hne => ?_, fun p hp => ?_, ?_, by rw [bump_len]; exact h.six⟩
  · show usedL (_ ++ [newPart F.id F.size F.of_]) ≤ _
    rw [usedL_append]
    have := evict_room (room := g.room) (size := F.size) (by omega) g.l
    show _ + (F.size + 0) ≤ _
    omega
  · rcases hmem p hp with hp | rfl
    · exact ⟨(h.parts p hp).size, (h.parts p hp).has, (h.parts p hp).cuts, (h.parts p hp).lens⟩
    · exact ⟨by show F.size ≤ _; omega, by show (List.replicate _ _).length = _; rw [List.length_replicate, r2]; rfl, by show (List.replicate _ _).length = (List.replicate _ _).length; rw [List.length_replicate, List.length_replicate], fun i hi => by
        have hi' : (List.replicate F.of_ false)[i]? = some true := hi
        rw [List.getElem?_replicate] at hi'
        split at hi' <;> simp at hi'⟩
  · have hj' : j < (evict g.room F.size g.l).1.length := by
      have : j < ((evict g.room F.size g.l).1 ++ [newPart F.id F.size F.of_]).length := hj
      rw [List.length_append, List.length_singleton] at this
      omega
    show ((evict g.room F.size g.l).1 ++ [newPart F.id F.size F.of_])[j].full = false
    rw [List.getElem_append_left hj']
    exact (h.parts _ (evict_mem (List.getElem_mem hj'))).lack
  · rcases hmem p hp with hp | rfl
    · exact h.small p hp
    · exact r1
  · refine List.pairwise_append.2 ⟨?_, List.pairwise_singleton _ _, fun p hp q hq => ?_⟩
    · obtain ⟨a, e, _⟩ := evict_sub g.room F.size g.l
      have := h.ids
      rw [e] at this
      exact (List.pairwise_append.1 this).2.1
    · have : q = newPart F.id F.size F.of_ := by simpa using hq
      subst this
      exact idxP_none g.l F.id hi p (evict_mem hp)

/-- A chunk leaves a gatherer that is one: its room is kept, too. -/
theorem Gm.Ok.put (h : g.Ok) (may : Bool) (F : Fr) : (g.put may F).1.Ok := by
  unfold Gm.put
  split
  · rename_i hr
    have hr' : rightZ F (g.chunk : Int) (g.most : Int) = true := (Bool.and_eq_true_iff.1 hr).2
    obtain ⟨r1, r2, r3, r4⟩ := right_facts h.chunk1 h.chunk2 h.most hr'
    split
    · rename_i hi
      split
      · exact h.counts (by rw [bump_len]; exact h.six)
      · rename_i hs
        split
        · exact h.counts (by rw [bump_len]; exact h.six)
        · have hs' : (g.l[idxP g.l F.id]).size = F.size := by simpa using hs
          have hp := h.parts _ (List.getElem_mem hi)
          exact (h.near hi).put (by rw [hp.has, hs']; exact r3) (by rw [hs']; exact r4)
    · rename_i hi
      split
      · exact h.counts (by rw [bump_len]; exact h.six)
      · have hn := h.begun hr' hi (evict g.room F.size g.l).2
        have e : ((evict g.room F.size g.l).1 ++ [newPart F.id F.size F.of_])[(evict g.room F.size g.l).1.length]'(by simp) = newPart F.id F.size F.of_ := by simp
        refine hn.put ?_ ?_
        · show F.at_ < (((evict g.room F.size g.l).1 ++ [newPart F.id F.size F.of_])[(evict g.room F.size g.l).1.length]'_).has.length
          rw [e]
          show _ < (List.replicate _ _).length
          rw [List.length_replicate, r2]
          exact r3
        · show _ = lenZ ((((evict g.room F.size g.l).1 ++ [newPart F.id F.size F.of_])[(evict g.room F.size g.l).1.length]'_).size : Int) _ _
          rw [e]
          exact r4
  · exact h.counts (by rw [bump_len]; exact h.six)

theorem putAt_made (g : Gm) (i : Nat) (F : Fr) : (g.putAt i F).2.2 = 4 ∨ (g.putAt i F).2.2 = 5 := by
  unfold Gm.putAt
  split
  · split
    · exact .inr rfl
    · exact .inl rfl
  · exact .inl rfl
/-- A chunk of the id that is wanted is never lost. -/
theorem Gm.put_wanted (g : Gm) (may : Bool) (F : Fr) (hw : g.wanted = F.id) : (g.put may F).2.2 ≠ 3 := by
  unfold Gm.put
  split
  · split
    · split
      · show (1 : Nat) ≠ 3; decide
      · split
        · show (2 : Nat) ≠ 3; decide
        · rcases putAt_made g (idxP g.l F.id) F with e | e <;> rw [e] <;> decide
    · split
      · rename_i h; exact absurd hw.symm h.2
      · rcases putAt_made { g with l := (evict g.room F.size g.l).1 ++ [newPart F.id F.size F.of_], counts := bump g.counts 3 (evict g.room F.size g.l).2 } (evict g.room F.size g.l).1.length F with e | e <;> (show Prod.snd (Prod.snd _) ≠ 3) <;> rw [e] <;> decide
  · show (1 : Nat) ≠ 3; decide
end

end Go.Proofs.YthkongnjokmmfaaDoor
