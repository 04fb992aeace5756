/- A link whose chunks wait: what LinkRoom keeps. -/
import Derived.Test.YtbkkpimhoeagdaaLkJ
namespace Go.Proofs.Ytbkkpimhoeagdaa
open Go.RowKit Go.Sort
set_option maxRecDepth 20000

section
variable {w w' : World} {base p pw pg : Nat} {T : Value} {l : List Pf} {s s' : Ls} {D : Nat → Prop}
theorem LinkB.fit (h : LinkB w base p pw pg T l s D) : s.fs.length ≤ s.width := by rw [← h.len]; exact h.win.fit
theorem LinkB.fit2 (h : LinkB w base p pw pg T l s D) : s.fs.length ≤ s.last := by rw [← h.len]; exact h.win.fit2
/-- The numbers of the chunks that wait. -/
theorem LinkB.seqAt (h : LinkB w base p pw pg T l s D) {j : Nat} (hj : j < s.fs.length) : s.fs[j].seq = firstN s.last s.fs.length + j := by
  have hl : j < l.length := by rw [h.len]; exact hj
  have h1 := h.win.seqAt hl
  rw [h.len] at h1
  rw [← h1]
  simp only [← h.fs, List.getElem_map]
end

theorem chunkF_drop (s : Ls) : ∃ d, s.chunkF = s.fs.drop d := by
  unfold Ls.chunkF
  split
  · exact ⟨_, rfl⟩
  · exact ⟨0, rfl⟩

/-- Between 0 and 1, nothing came; so many numbers at most. -/
structure Ls.Rm (s : Ls) (wd N : Nat) : Prop where
  me : s.me = 0
  peer : s.peer = 1
  g : s.g = ⟨0, 0, 0, false⟩
  width : s.width = wd
  last : s.last ≤ N
theorem rm_new (r again : Int) : (newLs 0 1 r again).Rm (widthN r) 0 := ⟨rfl, rfl, rfl, rfl, Nat.le_refl _⟩
theorem Ls.Rm.send {s : Ls} {wd N : Nat} (h : s.Rm wd N) (F : Fr) : (s.send F).Rm wd (N + 1) := by
  have hl := h.last
  unfold Ls.send
  split
  · exact ⟨h.me, h.peer, h.g, h.width, by show s.last + 1 ≤ N + 1; omega⟩
  · exact ⟨h.me, h.peer, h.g, h.width, by omega⟩
theorem Ls.Rm.outS {s : Ls} {wd N : Nat} (h : s.Rm wd N) (now : Int) : (s.outS now).Rm wd N :=
  ⟨h.me, h.peer, by show (⟨s.g.u, s.g.o, s.g.a, false⟩ : Gt) = _; rw [h.g], h.width, h.last⟩
theorem Ls.Rm.outF {s : Ls} {wd N : Nat} (h : s.Rm wd N) (now : Int) : ∃ d, s.outF now = s.fs.drop d := by
  obtain ⟨d, hd⟩ := chunkF_drop (s.ask now).told
  refine ⟨d, ?_⟩
  unfold Ls.outF Ls.wordF
  rw [hd]
  show (if s.g.b then _ else []) ++ s.fs.drop d = _
  rw [h.g]
  rfl
theorem Ls.Rm.mono {s : Ls} {wd N M : Nat} (h : s.Rm wd N) (hm : N ≤ M) : s.Rm wd M := ⟨h.me, h.peer, h.g, h.width, Nat.le_trans h.last hm⟩

/-- Word comes. -/
def akF (n : Nat) : Fr := ⟨2, 1, 0, zid, n, 0, 0, 0, 0, 0, [], [], [], [], []⟩
def akP (n : Nat) : Pf := ⟨akF n, fun _ => (none, 0)⟩
theorem akP_X (w : World) (D : Nat → Prop) (n : Nat) : (akP n).X w D := ⟨LiesX.nil, LiesX.nil, LiesX.nil, LiesX.nil, LiesX.nil⟩
theorem akF_ok {n : Nat} (h : n < 18446744073709551616) : (akF n).Ok := ⟨(by decide : 2 < 256), (by decide : 1 < 256), (by decide : 0 < 256), h, (by decide : 0 < 4294967296), (by decide : 0 < 4294967296), (by decide : 0 < 4294967296), (by decide : 0 < 18446744073709551616), (by decide : 0 < 18446744073709551616), Nat.zero_le _, Nat.zero_le _, Nat.zero_le _, Nat.zero_le _, Nat.zero_le _, by simp [akF], by simp [akF]⟩
theorem Ls.Rm.come {s : Ls} {wd N : Nat} (h : s.Rm wd N) (n : Nat) : (s.come (akF n)).Rm wd N := by
  have e : s.come (akF n) = s.acked n := by
    unfold Ls.come
    rw [if_pos ⟨h.peer.symm, h.me.symm⟩]
    rfl
  rw [e]
  exact ⟨h.me, h.peer, h.g, h.width, h.last⟩

/-- The link of LinkRoom. -/
def RmAt (w : World) (p pw pg wd N : Nat) (W : World) : Prop := ∃ T l s D, LinkB W w.heap.size p pw pg T l s D ∧ s.Rm wd N ∧ RowKit.Below w.heap.size w W

theorem RmAt.of {w W W' : World} {p pw pg wd N M : Nat} {T : Value} {l : List Pf} {s s' : Ls} {D : Nat → Prop} (h : LinkB W w.heap.size p pw pg T l s D) (hb : RowKit.Below w.heap.size w W) (ht : LkTo W w.heap.size p pw pg T D s' W') (hr : s'.Rm wd N) (hm : N ≤ M) : RmAt w p pw pg wd M W' := by
  have hb2 := h.below ht.only
  obtain ⟨T', l', D', hL, -⟩ := ht
  exact ⟨_, _, _, _, hL, hr.mono hm, hb.trans hb2⟩

/-- Word that is built for the call comes. -/
theorem lcome_ak {w : World} {base p pw pg wd N : Nat} {T : Value} {l : List Pf} {s : Ls} {D : Nat → Prop} (h : LinkB w base p pw pg T l s D) (hI : s.Rm wd N) (n : Nat) (hn : n < 18446744073709551616) :
    Calls Try.prog 16 #[.pointer (some ⟨p, 0, none⟩), .agg #[.int .u8 2, .int .u8 1, .int .u8 0, .int .u8 0, .int .u64 0, .int .u64 (n : Int), .int .u32 0, .int .u32 0, .int .u32 0, .int .u64 0, .int .u64 0, .slice none 0 0, .slice none 0 0, .slice none 0 0, .slice none 0 0, .slice none 0 0]] w fun e w' =>
      (∃ v, e = .returned v) ∧ LkTo w base p pw pg T D (s.come (akF n)) w' := by
  refine (lcome_any h (akP n) (akP_X _ _ _) (akF_ok hn) (by rw [hI.g]; decide)).mono ?_
  rintro e w' ⟨y, rfl, -, -, h2⟩
  exact ⟨⟨_, rfl⟩, h2.to⟩

end Go.Proofs.Ytbkkpimhoeagdaa
