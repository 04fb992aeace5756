/- The document's take, letter after letter: it is what the program reads. -/
import Derived.Test.YtbfjfidodpgohaaWge
import Derived.Test.YtbfjfidodpgohaaWgf
import Derived.Test.YtbfjfidodpgohaaWgg

namespace Go.Proofs.Ytbfjfidodpgohaa
open Go.RowKit Go.Sort

/-- A field by its letter. -/
def takeF (c : UInt8) (p : Fr × Rs) : Fr × Rs :=
  if c = 113 then vSeq rdV p else if c = 100 then vId rdV p else if c = 97 then vAt rdV p else if c = 111 then vOf rdV p else if c = 122 then vSize rdV p else if c = 105 then vInst rdV p else if c = 114 then vRnd rdV p
  else if c = 101 then vEst rdV p else if c = 120 then vAux rdV p else if c = 110 then vDone rdV p else if c = 104 then vHeld rdV p else vData rdV p
def letters : List UInt8 := [113, 100, 97, 111, 122, 105, 114, 101, 120, 110, 104, 98]

theorem take_any (c : UInt8) (hc : c ∈ letters) (F : Fr) (s : Rs) (cs rs : Array Value) (w : World) (B : Nat) (D : Nat → Prop)
    (hF : FrW w D F s.2 cs) (hr : RAt w B s (.agg rs)) (hB : B ≤ w.heap.size) (hD : ∀ k, D k → B ≤ k ∧ k < w.heap.size) (hl : s.1.length ≤ 4000) :
    Calls Try.prog 25 #[.agg cs, .int .u8 (c.toNat : Int), .agg rs] w (TakeGot w B D (takeF c (F, s))) := by
  simp only [letters, List.mem_cons, List.not_mem_nil, or_false] at hc
  rcases hc with rfl | rfl | rfl | rfl | rfl | rfl | rfl | rfl | rfl | rfl | rfl | rfl
  · exact take_q F s cs rs w B D hF hr hB hD hl
  · exact take_d F s cs rs w B D hF hr hB hD hl
  · exact take_a F s cs rs w B D hF hr hB hD hl
  · exact take_o F s cs rs w B D hF hr hB hD hl
  · exact take_z F s cs rs w B D hF hr hB hD hl
  · exact take_i F s cs rs w B D hF hr hB hD hl
  · exact take_r F s cs rs w B D hF hr hB hD hl
  · exact take_e F s cs rs w B D hF hr hB hD hl
  · exact take_x F s cs rs w B D hF hr hB hD hl
  · exact take_n F s cs rs w B D hF hr hB hD hl
  · exact take_h F s cs rs w B D hF hr hB hD hl
  · exact take_b F s cs rs w B D hF hr hB hD hl

theorem gRuns_left (s : Rs) : (gRuns s).2.1.length ≤ s.1.length := Nat.le_trans (rRuns_left _ _) (rN_le 64 s).2
theorem gVec_left (s : Rs) : (gVec s).2.1.length ≤ s.1.length := Nat.le_trans (rVec_left _ _) (rN_le 64 s).2
theorem gRuns_100 (s : Rs) : (gRuns s).1.length ≤ 100 := by
  have h1 : (gRuns s).1.length = (rN 64 s).1 := rRuns_len _ _
  have := (rN_le 64 s).1
  omega
theorem gVec_100 (s : Rs) : (gVec s).1.length ≤ 100 := by
  have h1 : (gVec s).1.length = (rN 64 s).1 := rVec_len _ _
  have := (rN_le 64 s).1
  omega
theorem rN_32 (s : Rs) : (rN 4294967295 s).1 < 4294967296 := Nat.lt_succ_of_le (rN_le 4294967295 s).1

/-- No more is left behind a field than ahead of it, and the frame stays one. -/
theorem takeF_ok (c : UInt8) (p : Fr × Rs) (h : p.1.Ok) (hl : p.2.1.length ≤ 4000) : (takeF c p).1.Ok ∧ (takeF c p).2.1.length ≤ p.2.1.length := by
  obtain ⟨F, s⟩ := p
  dsimp only at h hl ⊢
  unfold takeF
  split
  · exact ⟨⟨h.kind, h.src, h.dst, rN_top s, h.at_, h.of_, h.size, h.inst, h.rnd, h.est, h.aux, h.done, h.held, h.data, h.doneN, h.heldN⟩, (rN_le top s).2⟩
  split
  · exact ⟨⟨h.kind, h.src, h.dst, h.seq, h.at_, h.of_, h.size, h.inst, h.rnd, h.est, h.aux, h.done, h.held, h.data, h.doneN, h.heldN⟩, Nat.le_trans (rN_le top _).2 (rN_le 255 s).2⟩
  split
  · exact ⟨⟨h.kind, h.src, h.dst, h.seq, rN_32 s, h.of_, h.size, h.inst, h.rnd, h.est, h.aux, h.done, h.held, h.data, h.doneN, h.heldN⟩, (rN_le 4294967295 s).2⟩
  split
  · exact ⟨⟨h.kind, h.src, h.dst, h.seq, h.at_, rN_32 s, h.size, h.inst, h.rnd, h.est, h.aux, h.done, h.held, h.data, h.doneN, h.heldN⟩, (rN_le 4294967295 s).2⟩
  split
  · exact ⟨⟨h.kind, h.src, h.dst, h.seq, h.at_, h.of_, rN_32 s, h.inst, h.rnd, h.est, h.aux, h.done, h.held, h.data, h.doneN, h.heldN⟩, (rN_le 4294967295 s).2⟩
  split
  · exact ⟨⟨h.kind, h.src, h.dst, h.seq, h.at_, h.of_, h.size, rN_top s, h.rnd, h.est, h.aux, h.done, h.held, h.data, h.doneN, h.heldN⟩, (rN_le top s).2⟩
  split
  · exact ⟨⟨h.kind, h.src, h.dst, h.seq, h.at_, h.of_, h.size, h.inst, rN_top s, h.est, h.aux, h.done, h.held, h.data, h.doneN, h.heldN⟩, (rN_le top s).2⟩
  split
  · exact ⟨⟨h.kind, h.src, h.dst, h.seq, h.at_, h.of_, h.size, h.inst, h.rnd, gRuns_100 s, h.aux, h.done, h.held, h.data, h.doneN, h.heldN⟩, gRuns_left s⟩
  split
  · exact ⟨⟨h.kind, h.src, h.dst, h.seq, h.at_, h.of_, h.size, h.inst, h.rnd, h.est, gRuns_100 s, h.done, h.held, h.data, h.doneN, h.heldN⟩, gRuns_left s⟩
  split
  · exact ⟨⟨h.kind, h.src, h.dst, h.seq, h.at_, h.of_, h.size, h.inst, h.rnd, h.est, h.aux, gVec_100 s, h.held, h.data, rVec_lt _ _, h.heldN⟩, gVec_left s⟩
  split
  · exact ⟨⟨h.kind, h.src, h.dst, h.seq, h.at_, h.of_, h.size, h.inst, h.rnd, h.est, h.aux, h.done, gVec_100 s, h.data, h.doneN, rVec_lt _ _⟩, gVec_left s⟩
  · exact ⟨⟨h.kind, h.src, h.dst, h.seq, h.at_, h.of_, h.size, h.inst, h.rnd, h.est, h.aux, h.done, h.held, Nat.le_trans (rRow_le s).1 hl, h.doneN, h.heldN⟩, (rRow_le s).2⟩

/-- The first k letters of these are taken. -/
def foldT (l : List UInt8) (p : Fr × Rs) : Fr × Rs := l.foldl (fun p c => takeF c p) p
theorem foldT_snoc (l : List UInt8) (c : UInt8) (p : Fr × Rs) : foldT (l ++ [c]) p = takeF c (foldT l p) := by simp [foldT, List.foldl_append]
theorem foldT_ok (l : List UInt8) (p : Fr × Rs) (h : p.1.Ok) (hl : p.2.1.length ≤ 4000) : (foldT l p).1.Ok ∧ (foldT l p).2.1.length ≤ 4000 := by
  induction l generalizing p with
  | nil => exact ⟨h, hl⟩
  | cons c l ih =>
    have := takeF_ok c p h hl
    exact ih _ this.1 (Nat.le_trans this.2 hl)

theorem fldS_letters (k : Nat) : ∀ c ∈ (fldS k).data.toList, c ∈ letters := by
  unfold fldS
  repeat' split
  all_goals decide
theorem fldS_size (k : Nat) : (fldS k).size ≤ 6 := by
  unfold fldS
  repeat' split
  all_goals decide

/-- Letter after letter, all fields of a kind are read. -/
theorem vAll_fold (F : Fr) (s : Rs) (hk : isKind F.kind = true) : vAll rdV (F, s) = foldT (fldS F.kind).data.toList (F, s) := by
  have hk' : 1 ≤ F.kind ∧ F.kind ≤ 10 := by simpa [isKind] using hk
  have hc : F.kind = 1 ∨ F.kind = 2 ∨ F.kind = 3 ∨ F.kind = 4 ∨ F.kind = 5 ∨ F.kind = 6 ∨ F.kind = 7 ∨ F.kind = 8 ∨ F.kind = 9 ∨ F.kind = 10 := by omega
  clear hk hk'
  rcases hc with hc | hc | hc | hc | hc | hc | hc | hc | hc | hc
  · rw [vAll1 rdV (F, s) hc, hc]; rfl
  · rw [vAll2 rdV (F, s) hc, hc]; rfl
  · rw [vAll3 rdV (F, s) hc, hc]; rfl
  · rw [vAll4 rdV (F, s) hc, hc]; rfl
  · rw [vAll5 rdV (F, s) hc, hc]; rfl
  · rw [vAll6 rdV (F, s) hc, hc]; rfl
  · rw [vAll7 rdV (F, s) hc, hc]; rfl
  · rw [vAll8 rdV (F, s) hc, hc]; rfl
  · rw [vAll9 rdV (F, s) hc, hc]; rfl
  · rw [vAll10 rdV (F, s) hc, hc]; rfl

end Go.Proofs.Ytbfjfidodpgohaa
