/- What is read is put as it stood (plain). -/
import Derived.Test.YtbfjfidodpgohaaT20

namespace Go.Proofs.Ytbfjfidodpgohaa
open Go.RowKit Go.Sort

theorem rN_ok {m : Nat} {s : Rs} (h : (rN m s).2.2 = 0) : s.2 = 0 ∧ s.1 = encs [(rN m s).1] ++ (rN m s).2.1 := by
  unfold rN at h ⊢
  by_cases he : s.2 = 0
  · rw [he] at h ⊢
    rcases rnum_cases s.1 m with hb | ⟨v, h1, h2, -, -, -⟩
    · exact absurd h hb.1
    · refine ⟨rfl, ?_⟩
      rw [h1]
      simpa [encs] using h2
  · have : rnum s.1 s.2 m = (0, s.1, s.2) := by simp [rnum, he]
    rw [this] at h
    exact absurd h he

theorem encs_two (a b : Nat) : encs [a, b] = encs [a] ++ encs [b] := by simp [encs]
theorem encs_three (a b c : Nat) : encs [a, b, c] = encs [a] ++ (encs [b] ++ encs [c]) := by simp [encs]
theorem encs_cons (a : Nat) (l : List Nat) : encs (a :: l) = encs [a] ++ encs l := by simp [encs]

theorem rId_ok {s : Rs} (h : (rId s).2.2 = 0) : s.2 = 0 ∧ s.1 = encs [(rId s).1.f, (rId s).1.s] ++ (rId s).2.1 := by
  obtain ⟨h1, h2⟩ := rN_ok (s := (rN 255 s).2) h
  obtain ⟨h3, h4⟩ := rN_ok h1
  refine ⟨h3, ?_⟩
  rw [encs_two, List.append_assoc]
  exact h4.trans (by rw [h2]; rfl)

theorem rRun_ok {s : Rs} (h : (rRun s).2.2 = 0) : s.2 = 0 ∧ s.1 = encs [(rRun s).1.f, (rRun s).1.a, (rRun s).1.c] ++ (rRun s).2.1 := by
  obtain ⟨h1, h2⟩ := rN_ok (s := (rN top (rN 255 s).2).2) h
  obtain ⟨h3, h4⟩ := rN_ok h1
  obtain ⟨h5, h6⟩ := rN_ok h3
  refine ⟨h5, ?_⟩
  rw [encs_three, List.append_assoc, List.append_assoc]
  exact h6.trans (by rw [h4, h2]; rfl)

theorem rVec_ok (k : Nat) {s : Rs} (h : (rVec k s).2.2 = 0) : s.2 = 0 ∧ s.1 = encs (rVec k s).1 ++ (rVec k s).2.1 := by
  induction k with
  | zero => exact ⟨h, by simp [rVec, encs]⟩
  | succ k ih =>
    obtain ⟨h1, h2⟩ := rN_ok (s := (rVec k s).2) h
    obtain ⟨h3, h4⟩ := ih h1
    refine ⟨h3, ?_⟩
    show _ = encs ((rVec k s).1 ++ [(rN top (rVec k s).2).1]) ++ (rN top (rVec k s).2).2.1
    rw [encs_append, List.append_assoc, ← h2]
    exact h4

theorem rRuns_ok (k : Nat) {s : Rs} (h : (rRuns k s).2.2 = 0) : s.2 = 0 ∧ s.1 = encs (runNs (rRuns k s).1) ++ (rRuns k s).2.1 := by
  induction k with
  | zero => exact ⟨h, by simp [rRuns, runNs, encs]⟩
  | succ k ih =>
    obtain ⟨h1, h2⟩ := rRun_ok (s := (rRuns k s).2) h
    obtain ⟨h3, h4⟩ := ih h1
    refine ⟨h3, ?_⟩
    show _ = encs (runNs ((rRuns k s).1 ++ [(rRun (rRuns k s).2).1])) ++ (rRun (rRuns k s).2).2.1
    rw [show runNs ((rRuns k s).1 ++ [(rRun (rRuns k s).2).1]) = runNs (rRuns k s).1 ++ [(rRun (rRuns k s).2).1.f, (rRun (rRuns k s).2).1.a, (rRun (rRuns k s).2).1.c] by simp [runNs], encs_append, List.append_assoc, ← h2]
    exact h4

/-- Runs with their number ahead. -/
theorem gRuns_ok {s : Rs} (h : (rRuns (rN 64 s).1 (rN 64 s).2).2.2 = 0) : s.2 = 0 ∧ s.1 = encs ((rRuns (rN 64 s).1 (rN 64 s).2).1.length :: runNs (rRuns (rN 64 s).1 (rN 64 s).2).1) ++ (rRuns (rN 64 s).1 (rN 64 s).2).2.1 := by
  obtain ⟨h1, h2⟩ := rRuns_ok _ h
  obtain ⟨h3, h4⟩ := rN_ok h1
  refine ⟨h3, ?_⟩
  rw [rRuns_len, encs_cons, List.append_assoc, ← h2]
  exact h4
theorem gVec_ok {s : Rs} (h : (rVec (rN 64 s).1 (rN 64 s).2).2.2 = 0) : s.2 = 0 ∧ s.1 = encs ((rVec (rN 64 s).1 (rN 64 s).2).1.length :: (rVec (rN 64 s).1 (rN 64 s).2).1) ++ (rVec (rN 64 s).1 (rN 64 s).2).2.1 := by
  obtain ⟨h1, h2⟩ := rVec_ok _ h
  obtain ⟨h3, h4⟩ := rN_ok h1
  refine ⟨h3, ?_⟩
  rw [rVec_len, encs_cons, List.append_assoc, ← h2]
  exact h4

theorem rRow_ok {s : Rs} (h : (rRow s).2.2 = 0) : s.2 = 0 ∧ s.1 = row (rRow s).1 ++ (rRow s).2.1 := by
  unfold rRow at h ⊢
  by_cases he : s.2 = 0
  · rw [he] at h ⊢
    refine ⟨rfl, ?_⟩
    unfold rowOf at h ⊢
    rw [if_neg (by simp)] at h ⊢
    by_cases hr : (rrow s.1 65536).2.2 = 0
    · rw [if_neg (by simp [hr])]
      show s.1 = row (rrow s.1 65536).1 ++ s.1.drop (rrow s.1 65536).2.1
      unfold rrow at hr ⊢
      split
      · rename_i h0
        rw [if_pos h0] at hr
        exact absurd hr h0
      rename_i h0
      rw [if_neg h0] at hr
      split
      · rename_i h1
        rw [if_pos h1] at hr
        cases hr
      rename_i h1
      rw [if_neg h1] at hr
      split
      · rename_i h2
        rw [if_pos h2] at hr
        cases hr
      rename_i h2
      have h0' : (rd s.1 top).2.2 = 0 := by simpa using h0
      obtain ⟨e1, -, e2, -⟩ := rd_enc (l := s.1) (most := top) (m := (rd s.1 top).1) (s := (rd s.1 top).2.1) (by rw [← h0'])
      have hlen : ((s.1.drop (rd s.1 top).2.1).take (rd s.1 top).1).length = (rd s.1 top).1 := by
        rw [List.length_take, List.length_drop]
        omega
      dsimp only
      unfold row
      rw [hlen, List.append_assoc, ← List.drop_drop, List.take_append_drop]
      exact e1
    · rw [if_pos hr] at h
      exact absurd h hr
  · have : rowOf s.1 s.2 65536 = ([], s.1, s.2) := by simp [rowOf, he]
    rw [this] at h
    exact absurd h he

end Go.Proofs.Ytbfjfidodpgohaa

/- A frame that is read of bytes is put as these (plain). -/
namespace Go.Proofs.Ytbfjfidodpgohaa
open Go.RowKit Go.Sort

theorem qSeq (F : Fr) (s : Rs) : vSeq rdV (F, s) = ({ F with seq := (rN top s).1 }, (rN top s).2) := rfl
theorem qInst (F : Fr) (s : Rs) : vInst rdV (F, s) = ({ F with inst := (rN top s).1 }, (rN top s).2) := rfl
theorem qRnd (F : Fr) (s : Rs) : vRnd rdV (F, s) = ({ F with rnd := (rN top s).1 }, (rN top s).2) := rfl
theorem qAt (F : Fr) (s : Rs) : vAt rdV (F, s) = ({ F with at_ := (rN 4294967295 s).1 }, (rN 4294967295 s).2) := rfl
theorem qOf (F : Fr) (s : Rs) : vOf rdV (F, s) = ({ F with of_ := (rN 4294967295 s).1 }, (rN 4294967295 s).2) := rfl
theorem qSize (F : Fr) (s : Rs) : vSize rdV (F, s) = ({ F with size := (rN 4294967295 s).1 }, (rN 4294967295 s).2) := rfl
theorem qId (F : Fr) (s : Rs) : vId rdV (F, s) = ({ F with id := (rId s).1 }, (rId s).2) := rfl
def gRuns (s : Rs) : List Rn × Rs := rRuns (rN 64 s).1 (rN 64 s).2
def gVec (s : Rs) : List Nat × Rs := rVec (rN 64 s).1 (rN 64 s).2
theorem qEst (F : Fr) (s : Rs) : vEst rdV (F, s) = ({ F with est := (gRuns s).1 }, (gRuns s).2) := rfl
theorem qAux (F : Fr) (s : Rs) : vAux rdV (F, s) = ({ F with aux := (gRuns s).1 }, (gRuns s).2) := rfl
theorem qDone (F : Fr) (s : Rs) : vDone rdV (F, s) = ({ F with done := (gVec s).1 }, (gVec s).2) := rfl
theorem qHeld (F : Fr) (s : Rs) : vHeld rdV (F, s) = ({ F with held := (gVec s).1 }, (gVec s).2) := rfl
theorem qData (F : Fr) (s : Rs) : vData rdV (F, s) = ({ F with data := (rRow s).1 }, (rRow s).2) := rfl

theorem gRuns_back {s : Rs} (h : (gRuns s).2.2 = 0) : s.2 = 0 ∧ s.1 = encs ((gRuns s).1.length :: runNs (gRuns s).1) ++ (gRuns s).2.1 := gRuns_ok h
theorem gVec_back {s : Rs} (h : (gVec s).2.2 = 0) : s.2 = 0 ∧ s.1 = encs ((gVec s).1.length :: (gVec s).1) ++ (gVec s).2.1 := gVec_ok h

theorem outOf1 (F : Fr) (h : F.kind = 1) : outOf F = encs [F.seq] ++ (encs [F.id.f, F.id.s] ++ (encs [F.at_] ++ (encs [F.of_] ++ (encs [F.size] ++ row F.data)))) := by simp [outOf, h]
theorem vAll1 {σ : Type} (V : Vis σ) (p : Fr × σ) (h : p.1.kind = 1) : vAll V p = vChunk V (vSeq V p) := by simp [vAll, h]
theorem outOf2 (F : Fr) (h : F.kind = 2) : outOf F = encs [F.seq] := by simp [outOf, h]
theorem vAll2 {σ : Type} (V : Vis σ) (p : Fr × σ) (h : p.1.kind = 2) : vAll V p = vSeq V p := by simp [vAll, h]
theorem outOf3 (F : Fr) (h : F.kind = 3) : outOf F = encs [F.id.f, F.id.s] ++ encs [F.at_] := by simp [outOf, h]
theorem vAll3 {σ : Type} (V : Vis σ) (p : Fr × σ) (h : p.1.kind = 3) : vAll V p = vAt V (vId V p) := by simp [vAll, h]
theorem outOf4 (F : Fr) (h : F.kind = 4) : outOf F = encs [F.id.f, F.id.s] ++ (encs [F.at_] ++ (encs [F.of_] ++ (encs [F.size] ++ row F.data))) := by simp [outOf, h]
theorem vAll4 {σ : Type} (V : Vis σ) (p : Fr × σ) (h : p.1.kind = 4) : vAll V p = vChunk V p := by simp [vAll, h]
theorem outOf5 (F : Fr) (h : F.kind = 5) : outOf F = encs [F.seq] := by simp [outOf, h]
theorem vAll5 {σ : Type} (V : Vis σ) (p : Fr × σ) (h : p.1.kind = 5) : vAll V p = vSeq V p := by simp [vAll, h]
theorem outOf6 (F : Fr) (h : F.kind = 6) : outOf F = encs [F.inst] ++ (encs [F.rnd] ++ encs (F.est.length :: runNs F.est)) := by simp [outOf, h]
theorem vAll6 {σ : Type} (V : Vis σ) (p : Fr × σ) (h : p.1.kind = 6) : vAll V p = vEst V (vRnd V (vInst V p)) := by simp [vAll, h]
theorem outOf7 (F : Fr) (h : F.kind = 7) : outOf F = encs [F.inst] ++ (encs [F.rnd] ++ (encs (F.est.length :: runNs F.est) ++ encs (F.aux.length :: runNs F.aux))) := by simp [outOf, h]
theorem vAll7 {σ : Type} (V : Vis σ) (p : Fr × σ) (h : p.1.kind = 7) : vAll V p = vAux V (vEst V (vRnd V (vInst V p))) := by simp [vAll, h]
theorem outOf8 (F : Fr) (h : F.kind = 8) : outOf F = encs [F.inst] ++ encs (F.est.length :: runNs F.est) := by simp [outOf, h]
theorem vAll8 {σ : Type} (V : Vis σ) (p : Fr × σ) (h : p.1.kind = 8) : vAll V p = vEst V (vInst V p) := by simp [vAll, h]
theorem outOf9 (F : Fr) (h : F.kind = 9) : outOf F = encs [F.inst] ++ (encs (F.done.length :: F.done) ++ encs (F.held.length :: F.held)) := by simp [outOf, h]
theorem vAll9 {σ : Type} (V : Vis σ) (p : Fr × σ) (h : p.1.kind = 9) : vAll V p = vHeld V (vDone V (vInst V p)) := by simp [vAll, h]
theorem outOf10 (F : Fr) (h : F.kind = 10) : outOf F = encs [F.seq] := by simp [outOf, h]
theorem vAll10 {σ : Type} (V : Vis σ) (p : Fr × σ) (h : p.1.kind = 10) : vAll V p = vSeq V p := by simp [vAll, h]

/-- What is read of the fields, with what is left. -/
theorem vAll_back (F : Fr) (s : Rs) (hk : isKind F.kind = true) (h : (vAll rdV (F, s)).2.2 = 0) : s.1 = outOf (vAll rdV (F, s)).1 ++ (vAll rdV (F, s)).2.1 := by
  have hk' : 1 ≤ F.kind ∧ F.kind ≤ 10 := by simpa [isKind] using hk
  have hc : F.kind = 1 ∨ F.kind = 2 ∨ F.kind = 3 ∨ F.kind = 4 ∨ F.kind = 5 ∨ F.kind = 6 ∨ F.kind = 7 ∨ F.kind = 8 ∨ F.kind = 9 ∨ F.kind = 10 := by omega
  clear hk hk'
  rcases hc with hc | hc | hc | hc | hc | hc | hc | hc | hc | hc
  · rw [vAll1 rdV (F, s) hc] at h ⊢
    simp only [vChunk, qSeq, qId, qAt, qOf, qSize, qData] at h ⊢
    rw [show ∀ G : Fr, G.kind = F.kind → outOf G = _ from fun G hG => outOf1 G (hG.trans hc)]
    rotate_left
    · rfl
    obtain ⟨a0, b0⟩ := rRow_ok h
    obtain ⟨a1, b1⟩ := rN_ok a0
    obtain ⟨a2, b2⟩ := rN_ok a1
    obtain ⟨a3, b3⟩ := rN_ok a2
    obtain ⟨a4, b4⟩ := rId_ok a3
    obtain ⟨a5, b5⟩ := rN_ok a4
    simp only [List.append_assoc]
    rw [← b0, ← b1, ← b2, ← b3, ← b4, ← b5]
  · rw [vAll2 rdV (F, s) hc] at h ⊢
    simp only [qSeq] at h ⊢
    rw [show ∀ G : Fr, G.kind = F.kind → outOf G = _ from fun G hG => outOf2 G (hG.trans hc)]
    rotate_left
    · rfl
    obtain ⟨a0, b0⟩ := rN_ok h
    rw [← b0]
  · rw [vAll3 rdV (F, s) hc] at h ⊢
    simp only [qId, qAt] at h ⊢
    rw [show ∀ G : Fr, G.kind = F.kind → outOf G = _ from fun G hG => outOf3 G (hG.trans hc)]
    rotate_left
    · rfl
    obtain ⟨a0, b0⟩ := rN_ok h
    obtain ⟨a1, b1⟩ := rId_ok a0
    simp only [List.append_assoc]
    rw [← b0, ← b1]
  · rw [vAll4 rdV (F, s) hc] at h ⊢
    simp only [vChunk, qId, qAt, qOf, qSize, qData] at h ⊢
    rw [show ∀ G : Fr, G.kind = F.kind → outOf G = _ from fun G hG => outOf4 G (hG.trans hc)]
    rotate_left
    · rfl
    obtain ⟨a0, b0⟩ := rRow_ok h
    obtain ⟨a1, b1⟩ := rN_ok a0
    obtain ⟨a2, b2⟩ := rN_ok a1
    obtain ⟨a3, b3⟩ := rN_ok a2
    obtain ⟨a4, b4⟩ := rId_ok a3
    simp only [List.append_assoc]
    rw [← b0, ← b1, ← b2, ← b3, ← b4]
  · rw [vAll5 rdV (F, s) hc] at h ⊢
    simp only [qSeq] at h ⊢
    rw [show ∀ G : Fr, G.kind = F.kind → outOf G = _ from fun G hG => outOf5 G (hG.trans hc)]
    rotate_left
    · rfl
    obtain ⟨a0, b0⟩ := rN_ok h
    rw [← b0]
  · rw [vAll6 rdV (F, s) hc] at h ⊢
    simp only [qInst, qRnd, qEst] at h ⊢
    rw [show ∀ G : Fr, G.kind = F.kind → outOf G = _ from fun G hG => outOf6 G (hG.trans hc)]
    rotate_left
    · rfl
    obtain ⟨a0, b0⟩ := gRuns_back h
    obtain ⟨a1, b1⟩ := rN_ok a0
    obtain ⟨a2, b2⟩ := rN_ok a1
    simp only [List.append_assoc]
    rw [← b0, ← b1, ← b2]
  · rw [vAll7 rdV (F, s) hc] at h ⊢
    simp only [qInst, qRnd, qEst, qAux] at h ⊢
    rw [show ∀ G : Fr, G.kind = F.kind → outOf G = _ from fun G hG => outOf7 G (hG.trans hc)]
    rotate_left
    · rfl
    obtain ⟨a0, b0⟩ := gRuns_back h
    obtain ⟨a1, b1⟩ := gRuns_back a0
    obtain ⟨a2, b2⟩ := rN_ok a1
    obtain ⟨a3, b3⟩ := rN_ok a2
    simp only [List.append_assoc]
    rw [← b0, ← b1, ← b2, ← b3]
  · rw [vAll8 rdV (F, s) hc] at h ⊢
    simp only [qInst, qEst] at h ⊢
    rw [show ∀ G : Fr, G.kind = F.kind → outOf G = _ from fun G hG => outOf8 G (hG.trans hc)]
    rotate_left
    · rfl
    obtain ⟨a0, b0⟩ := gRuns_back h
    obtain ⟨a1, b1⟩ := rN_ok a0
    simp only [List.append_assoc]
    rw [← b0, ← b1]
  · rw [vAll9 rdV (F, s) hc] at h ⊢
    simp only [qInst, qDone, qHeld] at h ⊢
    rw [show ∀ G : Fr, G.kind = F.kind → outOf G = _ from fun G hG => outOf9 G (hG.trans hc)]
    rotate_left
    · rfl
    obtain ⟨a0, b0⟩ := gVec_back h
    obtain ⟨a1, b1⟩ := gVec_back a0
    obtain ⟨a2, b2⟩ := rN_ok a1
    simp only [List.append_assoc]
    rw [← b0, ← b1, ← b2]
  · rw [vAll10 rdV (F, s) hc] at h ⊢
    simp only [qSeq] at h ⊢
    rw [show ∀ G : Fr, G.kind = F.kind → outOf G = _ from fun G hG => outOf10 G (hG.trans hc)]
    rotate_left
    · rfl
    obtain ⟨a0, b0⟩ := rN_ok h
    rw [← b0]

theorem vAll_head (F : Fr) (s : Rs) : (vAll rdV (F, s)).1.kind = F.kind ∧ (vAll rdV (F, s)).1.src = F.src ∧ (vAll rdV (F, s)).1.dst = F.dst := by
  unfold vAll vChunk
  simp only [qSeq, qInst, qRnd, qAt, qOf, qSize, qId, qEst, qAux, qDone, qHeld, qData]
  repeat (split; · exact ⟨rfl, rfl, rfl⟩)
  exact ⟨rfl, rfl, rfl⟩

theorem headRd_back {l : List UInt8} (h : (headRd l).2.2 = 0) : ∃ k s d : UInt8, (headRd l).1 = (k.toNat, s.toNat, d.toNat) ∧ l = enc ((headRd l).2.1.length + 8) ++ ([1, k, s, d] ++ (headRd l).2.1) := by
  unfold headRd at h ⊢
  by_cases h0 : (rnum l 0 top).2.2 = 0
  · rw [if_neg (by simp [h0])] at h ⊢
    rcases rnum_cases l top with hb | ⟨m, h1, h2, -, -, -⟩
    · exact absurd h0 hb.1
    rw [h1] at h ⊢
    dsimp only at h ⊢
    generalize l.drop (rd l top).2.1 = p at h h2 ⊢
    unfold headRd2 at h ⊢
    split
    · rename_i q; rw [if_pos q] at h; cases h
    rename_i q1; rw [if_neg q1] at h
    split
    · rename_i q; rw [if_pos q] at h; cases h
    rename_i q2; rw [if_neg q2] at h
    split
    · rename_i q; rw [if_pos q] at h; cases h
    rename_i q3; rw [if_neg q3] at h
    split
    · rename_i q; rw [if_pos q] at h; cases h
    rename_i q4
    rcases p with _ | ⟨x0, _ | ⟨x1, _ | ⟨x2, _ | ⟨x3, t⟩⟩⟩⟩
    · simp at q3
    · simp at q3
    · simp at q3
    · simp at q3
    · have hx : x0 = 1 := by simpa using q4
      subst hx
      refine ⟨x1, x2, x3, rfl, ?_⟩
      have hm : m = t.length + 8 := by simp only [List.length_cons] at q1 q2; omega
      rw [h2, hm]
      rfl
  · rw [if_pos h0] at h
    exact absurd h h0

/-- What Get reads is put as it stood. -/
theorem get_back {l : List UInt8} (h : (getOf l).2 = 0) : mayF (getOf l).1 = true ∧ putOf (getOf l).1 = l := by
  unfold getOf at h ⊢
  by_cases h1 : (fitsOf l).2 = 0
  rotate_left
  · rw [if_pos h1] at h; exact absurd h h1
  rw [if_neg (by simp [h1])] at h ⊢
  by_cases h2 : (headRd (fitsOf l).1).2.2 = 0
  rotate_left
  · rw [if_pos h2] at h; exact absurd h h2
  rw [if_neg (by simp [h2])] at h ⊢
  obtain ⟨k, s, d, e1, e2⟩ := headRd_back h2
  generalize (headRd (fitsOf l).1).1 = hh at h e1 ⊢
  generalize (headRd (fitsOf l).1).2.1 = rest at h e2 ⊢
  have hl : l = markOf (fitsOf l).1 := by
    unfold fitsOf at h1 ⊢
    split
    · rename_i q; rw [if_pos q] at h1; cases h1
    rename_i q; rw [if_neg q] at h1
    split
    · rename_i q; exact q.symm
    · rename_i q; rw [if_neg q] at h1; cases h1
  unfold bodyOf at h ⊢
  by_cases h3 : isKind hh.1 = false
  · rw [if_pos h3] at h; cases h
  rw [if_neg h3] at h ⊢
  by_cases h4 : endOf (fieldsOf hh rest).2.2 (fieldsOf hh rest).2.1.length = 0
  rotate_left
  · rw [if_pos h4] at h; exact absurd h h4
  rw [if_neg (by simp [h4])] at h ⊢
  by_cases h5 : mayF (fieldsOf hh rest).1 = false
  · rw [if_pos h5] at h; cases h
  rw [if_neg h5]
  refine ⟨by simpa using h5, ?_⟩
  have h6 : (fieldsOf hh rest).2.2 = 0 ∧ (fieldsOf hh rest).2.1 = [] := by
    unfold endOf at h4
    split at h4
    · rename_i q; exact absurd h4 q
    rename_i q
    split at h4
    · cases h4
    rename_i q2
    exact ⟨by simpa using q, by simpa using q2⟩
  have h7 := vAll_back (bareFr hh) (rest, 0) (by have h3' : isKind hh.1 = true := by simpa using h3
                                                 exact h3') h6.1
  have h8 := vAll_head (bareFr hh) (rest, 0)
  unfold fieldsOf at h6 ⊢
  rw [h6.2, List.append_nil] at h7
  generalize (vAll rdV (bareFr hh, (rest, 0))).1 = F at h7 h8 ⊢
  dsimp only at h7
  subst h7
  subst e1
  have hk : headOf F = [1, k, s, d] := by
    unfold headOf
    rw [h8.1, h8.2.1, h8.2.2]
    simp [bareFr]
  unfold putOf aheadOf
  rw [hk, ← e2]
  exact hl.symm

theorem get_err {l : List UInt8} (h : (getOf l).2 ≠ 0) : (getOf l).1 = Fr.zero := by
  unfold getOf at h ⊢
  split
  · rfl
  rename_i q; rw [if_neg q] at h
  split
  · rfl
  rename_i q2; rw [if_neg q2] at h
  unfold bodyOf at h ⊢
  split
  · rfl
  rename_i q3; rw [if_neg q3] at h
  split
  · rfl
  rename_i q4; rw [if_neg q4] at h
  split
  · rfl
  rename_i q5; rw [if_neg q5] at h
  exact absurd rfl h

end Go.Proofs.Ytbfjfidodpgohaa

/- The document's nums: numbers as bytes, with how many they are ahead. -/
namespace Go.Proofs.Ytbfjfidodpgohaa
open Go.RowKit Go.Sort

set_option maxRecDepth 100000 in
set_option maxHeartbeats 800000 in
theorem refNums_any (A : Option Addr) (n c : Nat) (l : List Nat) (w : World) (hl : l.length = n) (hn : n ≤ 100) (h : Lies w w.heap.size A (uvs l)) (hns : ∀ x ∈ l, x < 18446744073709551616) :
    Calls Try.prog 28 #[.slice A n c] w (Owned w w.heap.size (bvs (encs (l.length :: l)))) := by
  obtain ⟨i0, hi, hz0, hz1, hz2⟩ := info_parts Try.info5
  have HL := Lib.hid hl
  have HNS := Lib.hid hns
  clear hl hns
  go_enter Try.func28, Try.ntmps28
  go_wp2_with fail
  refine (refNum_any n w (by omega)).mono ?_
  rintro e w1 ⟨A1, n1, c1, rfl, hn1, hq1, hq2, ho1, hb1⟩
  have hR0 : PutRel w (bvs (enc n ++ encs (l.take 0))) (.slice A1 n1 c1) w1 := by
    rw [List.take_zero, encs, List.append_nil]; exact ⟨_, ho1, hb1, hn1.out⟩
  have HR0 := Lib.hid hR0
  clear ho1 hb1 hR0 hn1
  go_wp2
  go_loopw [3, 11] (fun v i wr => ∃ (k : Nat), k ≤ n ∧ i = .int .i64 k ∧ PutRel w (bvs (enc n ++ encs (l.take k))) v wr) (fun _ i _ => n - (intOf i).toNat)
  case atStart => exact ⟨0, Nat.zero_le _, rfl, HR0.out⟩
  case round =>
    obtain ⟨k, hk, rfl, hR⟩ := hrel
    by_cases hlt : k < n
    · have hk2 : k < l.length := by rw [HL.out]; exact hlt
      have hel := encs_len (ns := l.take k) (fun x hx => HNS.out x (List.mem_of_mem_take hx))
      have henc := enc_len (n := n) (by omega)
      have hxl : (bvs (enc n ++ encs (l.take k))).length ≤ 1000 := by
        rw [bvs_length, List.length_append]
        have : (l.take k).length ≤ 100 := by have := List.length_take_le k l; omega
        omega
      obtain ⟨b, off, rfl, hb, hc⟩ := (h.below hR.below).at_ (uvs_at hk2)
      have hx := HNS.out l[k] (List.getElem_mem hk2)
      obtain ⟨L, hoL, hbL, hLL⟩ := id hR
      have hLx : L ≤ 1000 := by omega
      have HSN := Lib.hid (encs_snoc l k hk2)
      have HBL := Lib.hid hbL
      have HOL := Lib.hid hoL
      obtain ⟨A3, c3, rfl, -, -⟩ := own_slice hoL
      clear hR hel hxl hLL hoL hbL
      generalize hy : l[k] = y at hc hx HSN
      clear hy
      go_wp2_with fail
      refine (refNum_any y wr hx).mono ?_
      rintro e w2 ⟨A4, n4, c4, rfl, hn4, -, -, ho4, hb4⟩
      have hn4' : n4 ≤ 9 := by have h1 := hn4.out; rw [bvs_length] at h1; have := enc_len hx; omega
      have HO2 : Hid (w2.ownsRow w.heap.size 5 1 (.slice A3 L c3) L (bvs (enc n ++ encs (l.take k)))) := own_below HOL.out hb4
      have HL4 : Hid (Lies w2 w2.heap.size A4 (bvs (enc y))) := Lies.of_own ho4
      have HN4 : Hid ((bvs (enc y)).length = n4) := hn4
      have HB2 : Hid (RowKit.Below w.heap.size w w2) := HBL.out.trans (hb4.mono HBL.out.size)
      clear ho4 hb4 hn4
      go_wp2_with (at_builtin; refine wpList_append_lst rfl (.tmp 14) (.tmp 19) 22 rfl w.heap.size 5 i0 (.int .u8 0) 1 Try.underlying22 hi hz0 hz1 hz2 rfl _ _ _ rfl HO2.out _ _ _ _ (bvs (enc y)) rfl ?d0 HL4.out (bvs_one _) ?d2 ?d3 ?d4 ?_)
      case d0 => exact HN4.out
      case d2 => unfold maxLen; omega
      case d3 => omega
      case d4 => exact HB2.out.size
      intro v4 w4 hown4 hg4 hb5 _
      have HP : Hid (PutRel w (bvs (enc n ++ encs (l.take (k + 1)))) v4 w4) := by
        rw [HSN.out, ← List.append_assoc, bvs_append]
        exact PutRel.of hown4 (HB2.out.trans hb5)
      clear hown4 hg4 hb5
      go_wp2
      go_roundw
      case rel => exact ⟨k + 1, by omega, by go_num, HP.out⟩
      case measure => simp [intOf]; omega
    · have : k = n := by omega
      subst this
      have HR := Lib.hid hR
      clear hR hlt
      go_wp2
      go_ret
      have h1 := HR.out
      rw [← HL.out, List.take_length] at h1
      have e : encs (l.length :: l) = enc l.length ++ encs l := by simp [encs]
      rw [e]
      exact h1.owned

end Go.Proofs.Ytbfjfidodpgohaa
