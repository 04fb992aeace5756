/- First in, first out: what LinkFifo keeps, as plain data. -/
import Derived.Test.YtbkkpimhoeagdaaLkL
namespace Go.Proofs.Ytbkkpimhoeagdaa
open Go.RowKit Go.Sort
set_option maxRecDepth 20000

/-- No lists. -/
structure Bare (F : Fr) : Prop where
  est : F.est = []
  aux : F.aux = []
  done : F.done = []
  held : F.held = []
  data : F.data = []
theorem Bare.X {w : World} {D : Nat → Prop} {x : Pf} (h : Bare x.F) : x.X w D := by
  unfold Pf.X
  rw [h.est, h.aux, h.done, h.held, h.data]
  exact ⟨LiesX.nil, LiesX.nil, LiesX.nil, LiesX.nil, LiesX.nil⟩

/-- A chunk that was sent from 0 to 1: its number is one more than its At. -/
structure Chk (n : Nat) (F : Fr) : Prop where
  kind : F.kind = 1
  src : F.src = 0
  dst : F.dst = 1
  seq : F.seq = F.at_ + 1
  le : F.seq ≤ n
  bare : Bare F
  ok : F.Ok
theorem Chk.mono {n m : Nat} {F : Fr} (h : Chk n F) (hm : n ≤ m) : Chk m F := ⟨h.kind, h.src, h.dst, h.seq, Nat.le_trans h.le hm, h.bare, h.ok⟩
/-- Word, from 1 to 0. -/
structure Wrd (n : Nat) (F : Fr) : Prop where
  kind : F.kind = 2
  src : F.src = 1
  dst : F.dst = 0
  le : F.seq ≤ n
  bare : Bare F
  ok : F.Ok
theorem Wrd.mono {n m : Nat} {F : Fr} (h : Wrd n F) (hm : n ≤ m) : Wrd m F := ⟨h.kind, h.src, h.dst, Nat.le_trans h.le hm, h.bare, h.ok⟩

/-- The side that sends. -/
structure SideA (s : Ls) (sent : Nat) : Prop where
  me : s.me = 0
  peer : s.peer = 1
  g : s.g = ⟨0, 0, 0, false⟩
  last : s.last = sent
  fs : ∀ F ∈ s.fs, Chk sent F
/-- The side that lets in. -/
structure SideB (s : Ls) (lt N : Nat) : Prop where
  me : s.me = 1
  peer : s.peer = 0
  fs : s.fs = []
  last : s.last = 0
  sent : s.sent = 0
  u : s.g.u = lt
  sum : s.g.sum ≤ N

theorem sideA_new (r again : Int) : SideA (newLs 0 1 r again) 0 := ⟨rfl, rfl, rfl, rfl, by simp [newLs]⟩
theorem sideB_new (r again : Int) : SideB (newLs 1 0 r again) 0 0 := ⟨rfl, rfl, rfl, rfl, rfl, rfl, Nat.le_refl _⟩

section
variable {s : Ls} {sent lt N : Nat}
theorem SideA.send (h : SideA s sent) (hs : sent < 4294967295) (hm8 : s.me < 256) (hp8 : s.peer < 256) : SideA (s.send (atF sent)) (sent + s.sendN) := by
  have hl := h.last
  by_cases hr : s.fs.length < s.width
  · have e1 : s.sendN = 1 := by unfold Ls.sendN; rw [if_pos hr]
    have e2 : s.send (atF sent) = { s with fs := s.fs ++ num s.last [headed s 1 (atF sent)], last := s.last + 1 } := by unfold Ls.send; rw [if_pos hr]
    rw [e1, e2]
    refine ⟨h.me, h.peer, h.g, by show s.last + 1 = _; rw [hl], fun F hF => ?_⟩
    rcases List.mem_append.1 hF with hF | hF
    · exact (h.fs F hF).mono (Nat.le_succ _)
    · have e : F = seqd (headed s 1 (atF sent)) (s.last + 1) := by simpa [num] using hF
      subst e
      exact ⟨rfl, h.me, h.peer, by show s.last + 1 = sent + 1; rw [hl], by show s.last + 1 ≤ sent + 1; omega, ⟨rfl, rfl, rfl, rfl, rfl⟩, seqd_ok (headed_ok (atF_ok (by omega)) (by decide) hm8 hp8) (by omega)⟩
  · have e1 : s.sendN = 0 := by unfold Ls.sendN; rw [if_neg hr]
    have e2 : s.send (atF sent) = s := by unfold Ls.send; rw [if_neg hr]
    rw [e1, e2]
    exact h
theorem mem_chunkF {s : Ls} {F : Fr} (h : F ∈ s.chunkF) : F ∈ s.fs := by
  unfold Ls.chunkF at h
  split at h
  · exact List.mem_of_mem_drop h
  · exact h
theorem SideA.outF (h : SideA s sent) (now : Int) : ∀ F ∈ s.outF now, Chk sent F := fun F hF => by
  unfold Ls.outF Ls.wordF at hF
  rw [show (s.ask now).g.b = false by show s.g.b = false; rw [h.g]] at hF
  have h1 : F ∈ ((s.ask now).told).chunkF := by simpa using hF
  exact h.fs F (mem_chunkF (s := (s.ask now).told) h1)
theorem SideA.outS (h : SideA s sent) (now : Int) : SideA (s.outS now) sent := ⟨h.me, h.peer, by show (⟨s.g.u, s.g.o, s.g.a, false⟩ : Gt) = _; rw [h.g], h.last, h.fs⟩
theorem SideA.come (h : SideA s sent) {n : Nat} {F : Fr} (hF : Wrd n F) : SideA (s.come F) sent := by
  unfold Ls.come
  split
  · rw [if_pos hF.kind]
    exact ⟨h.me, h.peer, h.g, h.last, fun F hF => h.fs F (List.mem_of_mem_drop hF)⟩
  · exact h
theorem wordOk {s : Ls} (hm : s.me < 256) (hp : s.peer < 256) (hu : s.g.u < 18446744073709551616) : (ackF s).Ok := ⟨(by decide : 2 < 256), hm, hp, hu, (by decide : 0 < 4294967296), (by decide : 0 < 4294967296), (by decide : 0 < 4294967296), (by decide : 0 < 18446744073709551616), (by decide : 0 < 18446744073709551616), Nat.zero_le _, Nat.zero_le _, Nat.zero_le _, Nat.zero_le _, Nat.zero_le _, by simp [ackF], by simp [ackF]⟩
theorem SideB.outF (h : SideB s lt N) (hm8 : s.me < 256) (hp8 : s.peer < 256) (hN : N < 1000000) (now : Int) : ∀ F ∈ s.outF now, Wrd lt F := fun F hF => by
  unfold Ls.outF at hF
  rcases List.mem_append.1 hF with hF | hF
  · unfold Ls.wordF at hF
    split at hF
    · simp only [List.mem_cons, List.not_mem_nil, or_false] at hF
      subst hF
      exact ⟨rfl, h.me, h.peer, by show s.g.u ≤ lt; rw [h.u]; exact Nat.le_refl _, ⟨rfl, rfl, rfl, rfl, rfl⟩, wordOk (s := s.ask now) hm8 hp8 (by show s.g.u < _; have := h.sum; unfold Gt.sum at this; omega)⟩
    · simp at hF
  · have h1 : F ∈ s.fs := mem_chunkF (s := (s.ask now).told) hF
    rw [h.fs] at h1
    simp at h1
theorem SideB.outS (h : SideB s lt N) (now : Int) : SideB (s.outS now) lt N := ⟨h.me, h.peer, h.fs, h.last, h.last, h.u, h.sum⟩
/-- A chunk comes: it is the next one, and let in; or not. -/
theorem SideB.come (h : SideB s lt N) {F : Fr} (hF : Chk sent F) : (s.comes F = true → F.at_ = lt ∧ lt < sent) ∧ SideB (s.come F) (lt + if s.comes F then 1 else 0) (N + 1) := by
  have hu := h.u
  have hc : s.comes F = decide (F.seq = lt + 1) := by
    unfold Ls.comes
    rw [h.peer, h.me, hF.src, hF.dst, hF.kind, hu]
    simp
  have hs := hF.seq
  have hle := hF.le
  have e : s.come F = { s with g := s.g.step F.seq } := by
    unfold Ls.come
    rw [if_pos ⟨by rw [hF.src, h.peer], by rw [hF.dst, h.me]⟩, if_neg (by rw [hF.kind]; decide), if_pos hF.kind]
  refine ⟨fun h1 => ?_, ?_⟩
  · rw [hc] at h1
    have := of_decide_eq_true h1
    omega
  · rw [e, hc]
    refine ⟨h.me, h.peer, h.fs, h.last, h.sent, ?_, by show (s.g.step F.seq).sum ≤ N + 1; rw [step_sum]; have := h.sum; omega⟩
    show (if F.seq = s.g.u + 1 then s.g.u + 1 else s.g.u) = _
    rw [hu]
    by_cases h1 : F.seq = lt + 1
    · rw [if_pos h1, decide_eq_true h1]; rfl
    · rw [if_neg h1, decide_eq_false h1]; rfl
end

end Go.Proofs.Ytbkkpimhoeagdaa
