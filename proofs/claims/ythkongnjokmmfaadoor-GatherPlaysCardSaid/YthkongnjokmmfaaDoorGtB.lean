/- Stage 13, plain: of the chunks of one payload it is told when the last one comes, and it is the payload. -/
import Derived.Test.YthkongnjokmmfaaDoorGtA

set_option maxRecDepth 20000
namespace Go.Proofs.YthkongnjokmmfaaDoor

/-- The chunks that came, in their places. -/
def cutsOf (p : List UInt8) (k : Nat) (has : List Bool) : List (List UInt8) := (List.range has.length).map fun i => if has.getD i false then chL p k i else []
theorem cutsOf_len (p : List UInt8) (k : Nat) (has : List Bool) : (cutsOf p k has).length = has.length := by simp [cutsOf]
theorem cutsOf_at (p : List UInt8) (k : Nat) (has : List Bool) (i : Nat) (h : i < (cutsOf p k has).length) : (cutsOf p k has)[i] = if has.getD i false then chL p k i else [] := by simp [cutsOf]
theorem cutsOf_none (p : List UInt8) (k n : Nat) : cutsOf p k (List.replicate n false) = List.replicate n [] := by
  refine List.ext_getElem (by rw [cutsOf_len, List.length_replicate, List.length_replicate]) fun i h1 h2 => ?_
  rw [cutsOf_at, List.getElem_replicate, if_neg]
  rw [List.getD_eq_getElem?_getD, List.getElem?_replicate]
  split <;> simp
theorem cutsOf_set (p : List UInt8) (k : Nat) (has : List Bool) (a : Nat) : (cutsOf p k has).set a (chL p k a) = cutsOf p k (has.set a true) := by
  refine List.ext_getElem (by rw [List.length_set, cutsOf_len, cutsOf_len, List.length_set]) fun i h1 h2 => ?_
  have hi : i < has.length := by rw [cutsOf_len, List.length_set] at h2; exact h2
  rw [List.getElem_set, cutsOf_at, cutsOf_at]
  by_cases e : a = i
  · subst e
    rw [if_pos rfl, if_pos]
    rw [List.getD_eq_getElem?_getD, List.getElem?_set_self hi]
    rfl
  · rw [if_neg e]
    congr 1
    rw [List.getD_eq_getElem?_getD, List.getD_eq_getElem?_getD, List.getElem?_set_ne e]
theorem chs_flatten (p : List UInt8) (k : Nat) : ∀ j, (chs p k j).flatten = p.take (j * k)
  | 0 => by rw [Nat.zero_mul, List.take_zero]; rfl
  | j + 1 => by
    rw [chs_succ, List.flatten_append, chs_flatten p k j, List.flatten_cons, List.flatten_nil, List.append_nil, take_chunk]
theorem cutsOf_full {p : List UInt8} {k : Nat} {has : List Bool} (hk : 1 ≤ k) (hl : has.length = cntN p.length k) (h : has.all (fun b => b) = true) : (cutsOf p k has).flatten = p := by
  have e : cutsOf p k has = chs p k (cntN p.length k) := by
    unfold cutsOf chs
    rw [hl]
    refine List.map_congr_left fun i hi => ?_
    have hi' : i < has.length := by rw [hl]; exact List.mem_range.1 hi
    rw [if_pos]
    rw [List.getD_eq_getElem?_getD, List.getElem?_eq_getElem hi']
    exact List.all_eq_true.1 h _ (List.getElem_mem hi')
  rw [e, chs_flatten, take_all hk]

theorem one_at {l : List Part} {q : Part} (e : l = [q]) {i : Nat} (h : i < l.length) (hi : i = 0) : l[i] = q := by
  subst e
  subst hi
  rfl

/-- Chunks of one payload came; not all. -/
structure Whl (g : Gm) (x : Id) (p : List UInt8) (k : Nat) (has : List Bool) : Prop where
  ok : g.Ok
  chunk : g.chunk = k
  most : p.length ≤ g.most
  len : has.length = cntN p.length k
  lack : has.all (fun b => b) = false
  row : (has = List.replicate has.length false ∧ g.l = []) ∨ (g.l = [⟨x, p.length, has, cutsOf p k has⟩])

section
variable {g : Gm} {x : Id} {p : List UInt8} {k : Nat} {has : List Bool}
theorem Whl.right (h : Whl g x p k has) {a : Nat} (ha : a < cntN p.length k) (hp : p.length ≤ 2000) : rightZ (frAt x p k (cntN p.length k) a) (g.chunk : Int) (g.most : Int) = true := by
  have h1 := h.ok.chunk1
  have h2 := h.ok.chunk2
  rw [h.chunk] at h1 h2 ⊢
  have hr := frAt_right (id := x) hp h1 h2 rfl ha
  unfold rightZ at hr ⊢
  simp only [Bool.and_eq_true, decide_eq_true_eq] at hr ⊢
  obtain ⟨⟨⟨r1, r2⟩, r3⟩, r4⟩ := hr
  exact ⟨⟨⟨by have := h.most; show (p.length : Int) ≤ _; omega, r2⟩, r3⟩, r4⟩
theorem Whl.old (h : Whl g x p k has) {a : Nat} (ha : a < cntN p.length k) (hp : p.length ≤ 2000) (hh : has.getD a false = true) :
    g.put true (frAt x p k (cntN p.length k) a) = ({ g with counts := bump g.counts 2 1 }, [], 2) := by
  have hr := h.right ha hp
  rcases h.row with ⟨e, -⟩ | e
  · rw [e, List.getD_eq_getElem?_getD, List.getElem?_replicate] at hh
    split at hh <;> simp at hh
  · have hi : idxP g.l (frAt x p k (cntN p.length k) a).id = 0 := by rw [e, idxP]; exact if_pos rfl
    unfold Gm.put
    rw [if_pos (by rw [hr]; rfl), dif_pos (by rw [hi, e]; exact Nat.one_pos)]
    have e1 : g.l[idxP g.l (frAt x p k (cntN p.length k) a).id]'(by rw [hi, e]; exact Nat.one_pos) = ⟨x, p.length, has, cutsOf p k has⟩ := one_at e _ hi
    rw [e1, if_neg (by simp [frAt])]
    exact if_pos hh

/-- What it is behind a chunk that wasn't there. -/
theorem Whl.fresh (h : Whl g x p k has) {a : Nat} (ha : a < cntN p.length k) (hp : p.length ≤ 2000) (hh : has.getD a false = false) :
    ((has.set a true).all (fun b => b) = true → (g.put true (frAt x p k (cntN p.length k) a)).2 = (p, 5) ∧ (g.put true (frAt x p k (cntN p.length k) a)).1.l = []) ∧
    ((has.set a true).all (fun b => b) = false → (g.put true (frAt x p k (cntN p.length k) a)).2 = ([], 4) ∧ Whl (g.put true (frAt x p k (cntN p.length k) a)).1 x p k (has.set a true)) := by
  have hr := h.right ha hp
  have hk1 : 1 ≤ k := by have := h.ok.chunk1; rwa [h.chunk] at this
  have hok := h.ok.put true (frAt x p k (cntN p.length k) a)
  have hset : (has.set a true).length = cntN p.length k := by rw [List.length_set]; exact h.len
  -- put is putAt at place 0 of a list of the one part
  have key : ∃ g1 : Gm, g1.chunk = g.chunk ∧ g1.most = g.most ∧ g1.l = [⟨x, p.length, has, cutsOf p k has⟩] ∧ g.put true (frAt x p k (cntN p.length k) a) = g1.putAt 0 (frAt x p k (cntN p.length k) a) := by
    rcases h.row with ⟨e, e0⟩ | e
    · refine ⟨{ g with l := (evict g.room p.length g.l).1 ++ [newPart x p.length (cntN p.length k)], counts := bump g.counts 3 (evict g.room p.length g.l).2 }, rfl, rfl, ?_, ?_⟩
      · show (evict g.room p.length g.l).1 ++ [newPart x p.length (cntN p.length k)] = _
        rw [e0]
        show [newPart x p.length (cntN p.length k)] = _
        have e2 := cutsOf_none p k has.length
        rw [← e] at e2
        unfold newPart
        rw [← h.len, ← e2, ← e]
      · have hi : ¬ idxP g.l (frAt x p k (cntN p.length k) a).id < g.l.length := by rw [e0]; exact Nat.not_lt_zero _
        have hroom := h.ok.room
        have hmost := h.most
        unfold Gm.put
        rw [if_pos (by rw [hr]; rfl), dif_neg hi, if_neg (by rw [e0]; show ¬ (g.room < 0 + p.length ∧ _); omega)]
        show Gm.putAt _ (evict g.room p.length g.l).1.length _ = _
        rw [show (evict g.room p.length g.l).1.length = 0 by rw [e0]; rfl]
        rfl
    · refine ⟨g, rfl, rfl, e, ?_⟩
      have hi : idxP g.l (frAt x p k (cntN p.length k) a).id = 0 := by rw [e, idxP]; exact if_pos rfl
      have e1 : g.l[idxP g.l (frAt x p k (cntN p.length k) a).id]'(by rw [hi, e]; exact Nat.one_pos) = ⟨x, p.length, has, cutsOf p k has⟩ := one_at e _ hi
      unfold Gm.put
      rw [if_pos (by rw [hr]; rfl), dif_pos (by rw [hi, e]; exact Nat.one_pos), e1, if_neg (by simp [frAt]), if_neg (by rw [show (frAt x p k (cntN p.length k) a).at_ = a from rfl]; simp only [hh]; decide), hi]
  obtain ⟨g1, c1, m1, l1, e⟩ := key
  have hlt : 0 < g1.l.length := by rw [l1]; exact Nat.one_pos
  have e0 : (g1.l[0]'hlt).putCut a (chL p k a) = ⟨x, p.length, has.set a true, cutsOf p k (has.set a true)⟩ := by
    simp only [l1, List.getElem_cons_zero]
    unfold Part.putCut
    rw [cutsOf_set]
  have eput : g1.putAt 0 (frAt x p k (cntN p.length k) a) = if (has.set a true).all (fun b => b) = true then ({ g1 with l := g1.l.eraseIdx 0, counts := bump g1.counts 5 1 }, (cutsOf p k (has.set a true)).flatten, 5)
      else ({ g1 with l := g1.l.set 0 ⟨x, p.length, has.set a true, cutsOf p k (has.set a true)⟩, counts := bump g1.counts 4 1 }, [], 4) := by
    unfold Gm.putAt
    rw [dif_pos hlt]
    show (if Part.full ((g1.l[0]'hlt).putCut a (chL p k a)) = true then ({ g1 with l := g1.l.eraseIdx 0, counts := bump g1.counts 5 1 }, ((g1.l[0]'hlt).putCut a (chL p k a)).cuts.flatten, 5) else ({ g1 with l := g1.l.set 0 ((g1.l[0]'hlt).putCut a (chL p k a)), counts := bump g1.counts 4 1 }, [], 4)) = _
    rw [e0]
    rfl
  rw [e] at hok ⊢
  rw [eput] at hok ⊢
  refine ⟨fun hf => ?_, fun hf => ?_⟩
  · rw [if_pos hf]
    exact ⟨by show ((cutsOf p k (has.set a true)).flatten, 5) = _; rw [cutsOf_full hk1 hset hf], by show g1.l.eraseIdx 0 = []; rw [l1]; rfl⟩
  · rw [if_neg (by rw [hf]; decide)] at hok ⊢
    exact ⟨rfl, hok, by show g1.chunk = k; rw [c1]; exact h.chunk, by show p.length ≤ g1.most; rw [m1]; exact h.most, hset, hf, .inr (by show g1.l.set 0 _ = _; rw [l1]; rfl)⟩
end

end Go.Proofs.YthkongnjokmmfaaDoor
