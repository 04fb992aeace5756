/- Stage 13: the document's Put (the door seat alone). -/
import Derived.Test.YthkongnjokmmfaaDoorGdL
import Derived.Test.YthkongnjokmmfaaDoorGdS
import Derived.Test.YthkongnjokmmfaaDoorGdV
import Derived.Test.YthkongnjokmmfaaDoorGdW
import Derived.Test.YthkongnjokmmfaaDoorGdX
import Derived.Test.YthkongnjokmmfaaDoorGdY
set_option maxRecDepth 20000
namespace Go.Proofs.YthkongnjokmmfaaDoor
open Go.RowKit Go.Sort

theorem flatten_len_le (B : Nat) : ∀ (l : List (List UInt8)), (∀ j, (h : j < l.length) → l[j].length ≤ B) → l.flatten.length ≤ l.length * B
  | [], _ => by simp
  | d :: r, h => by
    have h0 : d.length ≤ B := h 0 (by simp)
    have h1 := flatten_len_le B r fun j hj => h (j + 1) (by simpa using hj)
    rw [List.flatten_cons, List.length_append, List.length_cons, Nat.add_mul]
    omega
/-- What is whole is no longer than this. -/
theorem whole_len {k : Nat} {p : Part} {i : Nat} {d : List UInt8} (hs : p.has.length ≤ 2000000) (hc : p.cuts.length = p.has.length) (hl : ∀ j : Nat, p.has[j]? = some true → ∃ d, p.cuts[j]? = some d ∧ d.length = lenZ (p.size : Int) (k : Int) (j : Int))
    (hi : i < p.has.length) (hd : d.length = lenZ (p.size : Int) (k : Int) (i : Int)) (hf : (p.putCut i d).full = true) : (p.cuts.set i d).flatten.length ≤ 10000000000000 := by
  have h1 := putCut_lens hc hl hi hd
  have hlen : (p.cuts.set i d).length = p.has.length := by rw [List.length_set, hc]
  have h2 := flatten_len_le 1048576 (p.cuts.set i d) fun j hj => by
    have hj' : j < (p.has.set i true).length := by rw [List.length_set]; omega
    have hall : ∀ b ∈ (p.has.set i true), b = true := by
      have := hf
      unfold Part.full at this
      rw [List.all_eq_true] at this
      exact fun b hb => this b hb
    obtain ⟨d', e1, e2⟩ := h1 j (by
      show (p.has.set i true)[j]? = some true
      rw [List.getElem?_eq_getElem hj', hall _ (List.getElem_mem hj')])
    have e3 : (p.cuts.set i d)[j]? = some d' := e1
    rw [List.getElem?_eq_getElem hj] at e3
    injection e3 with e3
    rw [e3, e2]
    exact lenZ_le _ _ _
  rw [hlen] at h2
  have h3 : p.has.length * 1048576 ≤ 2000000 * 1048576 := Nat.mul_le_mul_right _ hs
  omega

section
variable {w : World} {D : Nat → Prop} {A : Option Addr} {n c : Nat} {R : List Rp} {m : Gm}
theorem putAt_new (l : List Part) (cn : List Nat) (m : Gm) (x : Part) (F : Fr) : Gm.putAt { m with l := l ++ [x], counts := cn } l.length F =
    if (x.putCut F.at_ F.data).full then ({ m with l := (l ++ [x]).eraseIdx l.length, counts := bump cn 5 1 }, (x.putCut F.at_ F.data).cuts.flatten, 5) else ({ m with l := (l ++ [x]).set l.length (x.putCut F.at_ F.data), counts := bump cn 4 1 }, [], 4) := by
  have hlt : l.length < (l ++ [x]).length := by simp
  have hx : (l ++ [x])[l.length] = x := by simp
  unfold Gm.putAt
  rw [dif_pos hlt, hx]
/-- The document's Put, whatever comes. -/
theorem refPut_any (h : RgAt w D A n c R m) (hg : m.Ok) (hwt : m.weight ≤ 50000) (hD : ∀ k, D k → k < w.heap.size) (hrm : m.room ≤ 9223372036854775807) (F : Fr) (fc : Array Value) (hF : FrL w F fc) (hw : F.Wf) :
    Calls Tryd.prog 9 #[.agg (rgCells (.slice A n c) m), .agg fc] w (PutQ w D (m.put (mayB F.id) F).1 (m.put (mayB F.id) F).2.1 (m.put (mayB F.id) F).2.2) := by
  have hml := h.mlen
  have hlen := h.len
  have hnw : n ≤ 50000 := by unfold Gm.weight at hwt; omega
  cases hmay : mayB F.id with
  | false =>
    have e : m.put false F = ({ m with counts := bump m.counts 1 1 }, [], 1) := by unfold Gm.put; simp
    rw [e]
    exact refPut_bad h (by omega) hg.six (by omega) F fc hF hw hmay
  | true =>
    cases hrig : rightZ F m.chunk m.most with
    | false =>
      have e : m.put true F = ({ m with counts := bump m.counts 1 1 }, [], 1) := by unfold Gm.put; simp [hrig]
      rw [e]
      exact refPut_nr h (by omega) hg.six (by omega) F fc hF hw hmay hrig
    | true =>
      obtain ⟨r1, r2, r3, r4⟩ := right_facts hg.chunk1 hg.chunk2 hg.most hrig
      have hmost := hg.most
      have hroom := hg.room
      have hcl := cntN_le F.size m.chunk
      by_cases hi : idxP m.l F.id < m.l.length
      · have hiR : idxP m.l F.id < R.length := by omega
        have hz : fndZ m.l F.id = ((idxP m.l F.id : Nat) : Int) := by unfold fndZ; rw [if_pos hi]
        have hx : m.l[idxP m.l F.id] = R[idxP m.l F.id].x := h.at_ hiR
        have hp := hg.parts _ (List.getElem_mem hi)
        rw [hx] at hp
        by_cases hs : R[idxP m.l F.id].x.size = F.size
        · have hhl : R[idxP m.l F.id].x.has.length = F.of_ := by rw [hp.has, hs, r2]
          have hat : F.at_ < R[idxP m.l F.id].x.has.length := by rw [hhl, r2]; exact r3
          cases hold : R[idxP m.l F.id].x.has.getD F.at_ false with
          | true =>
            have e : m.put true F = ({ m with counts := bump m.counts 2 1 }, [], 2) := by
              unfold Gm.put
              rw [if_pos (by simp [hrig]), dif_pos hi, hx, if_neg (by simpa using hs), if_pos hold]
            rw [e]
            exact refPut_old h (by omega) hg.six (by omega) F fc hF hw hmay hrig _ hiR hz hs hat hold
          | false =>
            have hl2 : R[idxP m.l F.id].x.has.length ≤ 2000000 := by rw [hhl, r2]; omega
            cases hfull : (R[idxP m.l F.id].x.putCut F.at_ F.data).full with
            | false =>
              have e : m.put true F = ({ m with l := m.l.set (idxP m.l F.id) (R[idxP m.l F.id].x.putCut F.at_ F.data), counts := bump m.counts 4 1 }, [], 4) := by
                unfold Gm.put
                rw [if_pos (by simp [hrig]), dif_pos hi, hx, if_neg (by simpa using hs), if_neg (by rw [hold]; decide)]
                unfold Gm.putAt
                rw [dif_pos hi, hx, if_neg (by rw [hfull]; decide)]
              rw [e]
              exact refPut_in h (by omega) hg.six (by omega) F fc hF hw hmay hrig _ hiR hz hs hat hold hl2 hp.cuts hD hfull
            | true =>
              have e : m.put true F = ({ m with l := m.l.eraseIdx (idxP m.l F.id), counts := bump m.counts 5 1 }, (R[idxP m.l F.id].x.putCut F.at_ F.data).cuts.flatten, 5) := by
                unfold Gm.put
                rw [if_pos (by simp [hrig]), dif_pos hi, hx, if_neg (by simpa using hs), if_neg (by rw [hold]; decide)]
                unfold Gm.putAt
                rw [dif_pos hi, hx, if_pos hfull]
              rw [e]
              exact refPut_whole h (by omega) hg.six (by omega) F fc hF hw hmay hrig _ hiR hz hs hat hold hl2 hp.cuts hD hfull (whole_len hl2 hp.cuts hp.lens hat (by rw [hs]; exact r4) hfull)
        · have e : m.put true F = ({ m with counts := bump m.counts 1 1 }, [], 1) := by
            unfold Gm.put
            rw [if_pos (by simp [hrig]), dif_pos hi, hx, if_pos hs]
          rw [e]
          exact refPut_size h (by omega) hg.six (by omega) F fc hF hw hmay hrig _ hiR hz hs
      · have hz : fndZ m.l F.id = -1 := by unfold fndZ; rw [if_neg hi]
        have hnr : F.size ≤ m.room := by omega
        by_cases hno : m.room < usedL m.l + F.size
        · by_cases hwn : F.id = m.wanted
          · have hof : F.of_ ≤ 2000000 := by rw [r2]; omega
            have hato : F.at_ < F.of_ := by rw [r2]; exact r3
            have e0 : m.put true F = Gm.putAt { m with l := (evict m.room F.size m.l).1 ++ [newPart F.id F.size F.of_], counts := bump m.counts 3 (evict m.room F.size m.l).2 } (evict m.room F.size m.l).1.length F := by
              unfold Gm.put
              rw [if_pos (by simp [hrig]), dif_neg hi, if_neg (fun hh => hh.2 hwn)]
            rw [e0, putAt_new]
            cases hfull : ((newPart F.id F.size F.of_).putCut F.at_ F.data).full with
            | false =>
              rw [if_neg (by decide)]
              exact refPut_wanted_in h (by omega) hg.six (by omega) F fc hF hw hmay hrig _ rfl hato hD hz hg.used hrm hnr hof hfull hno hwn
            | true =>
              rw [if_pos rfl]
              exact refPut_wanted_whole h (by omega) hg.six (by omega) F fc hF hw hmay hrig _ rfl hato hD hz hg.used hrm hnr hof hfull (whole_len (k := m.chunk) (by show (List.replicate _ _).length ≤ _; rw [List.length_replicate]; exact hof) (by show (List.replicate _ _).length = (List.replicate _ _).length; rw [List.length_replicate, List.length_replicate]) (fun j hj => by
                have hj' : (List.replicate F.of_ false)[j]? = some true := hj
                rw [List.getElem?_replicate] at hj'
                split at hj' <;> simp at hj') (by show _ < (List.replicate _ _).length; rw [List.length_replicate]; exact hato) r4 hfull) hno hwn
          · have e : m.put true F = ({ m with counts := bump m.counts 3 1 }, [], 3) := by
              unfold Gm.put
              rw [if_pos (by simp [hrig]), dif_neg hi, if_pos ⟨hno, hwn⟩]
            rw [e]
            exact refPut_lost h (by omega) hg.six (by omega) F fc hF hw hmay hrig hz hno hwn hg.used hrm
        · have hof : F.of_ ≤ 2000000 := by rw [r2]; omega
          have hato : F.at_ < F.of_ := by rw [r2]; exact r3
          have e0 : m.put true F = Gm.putAt { m with l := (evict m.room F.size m.l).1 ++ [newPart F.id F.size F.of_], counts := bump m.counts 3 (evict m.room F.size m.l).2 } (evict m.room F.size m.l).1.length F := by
            unfold Gm.put
            rw [if_pos (by simp [hrig]), dif_neg hi, if_neg (fun hh => hno hh.1)]
          rw [e0, putAt_new]
          cases hfull : ((newPart F.id F.size F.of_).putCut F.at_ F.data).full with
          | false =>
            rw [if_neg (by decide)]
            exact refPut_new_in h (by omega) hg.six (by omega) F fc hF hw hmay hrig _ rfl hato hD hz hg.used hrm hnr hof hfull hno
          | true =>
            rw [if_pos rfl]
            exact refPut_new_whole h (by omega) hg.six (by omega) F fc hF hw hmay hrig _ rfl hato hD hz hg.used hrm hnr hof hfull (whole_len (k := m.chunk) (by show (List.replicate _ _).length ≤ _; rw [List.length_replicate]; exact hof) (by show (List.replicate _ _).length = (List.replicate _ _).length; rw [List.length_replicate, List.length_replicate]) (fun j hj => by
              have hj' : (List.replicate F.of_ false)[j]? = some true := hj
              rw [List.getElem?_replicate] at hj'
              split at hj' <;> simp at hj') (by show _ < (List.replicate _ _).length; rw [List.length_replicate]; exact hato) r4 hfull) hno
end

end Go.Proofs.YthkongnjokmmfaaDoor
