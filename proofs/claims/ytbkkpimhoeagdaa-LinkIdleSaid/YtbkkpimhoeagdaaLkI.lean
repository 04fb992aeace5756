/- Ticks as arguments; a link on which nothing was sent, and nothing came. -/
import Derived.Test.YtbkkpimhoeagdaaLkH
namespace Go.Proofs.Ytbkkpimhoeagdaa
open Go.ChangeShapes Go.WideShapes Go.ChangeAt Go.RowKit Go.Sort
set_option maxRecDepth 20000

def i64vs (l : List Int) : List Value := l.map (Value.int .i64)
theorem i64vs_at {l : List Int} {k : Nat} (h : k < l.length) : (i64vs l)[k]? = some (.int .i64 l[k]) := by simp [i64vs, h]
section
variable {H : Type} {enc : TypeId × Value → H} {P : Program} {w : World} {base : Nat} {spare : Nat → Bool} {held : Bool}
theorem open_ticks {t e : TypeId} {fuel : Nat} {v : Value} {x : DataW H × List MemPlace} (ht : P.underlying t = some (.slice e)) (he : P.underlying e = some (.int .i64)) (hc : P.cellsOf e = 1)
    (h : DataW.trod enc P w base spare held fuel t [v] = some x) : ∃ l A n c, v = .slice A n c ∧ l.length = n ∧ n ≤ c ∧ c ≤ maxLen ∧ Lies w w.heap.size A (i64vs l) := by
  rcases open_ints ht he hc h with ⟨hcs, _⟩ | ⟨a, len, cap, zs, hcs, _, hl, hm, hz, _, hcell, hwz⟩
  · injection hcs with hcs
    subst hcs
    exact ⟨[], none, 0, 0, rfl, rfl, Nat.le_refl _, Nat.zero_le _, Lies.nil⟩
  · injection hcs with hcs
    subst hcs
    have hlz : len ≤ zs.length := by rw [hz]; split <;> omega
    exact ⟨zs.take len, some a, len, cap, rfl, by simp; omega, hl, hm, lies_ints hcell⟩
end

/-- Nothing was sent, and nothing came. -/
structure Ls.Idle (s : Ls) : Prop where
  me : s.me = 0
  peer : s.peer = 1
  last : s.last = 0
  fs : s.fs = []
  g : s.g = ⟨0, 0, 0, false⟩
  sent : s.sent = 0

theorem idle_new (width again : Int) : (newLs 0 1 width again).Idle := ⟨rfl, rfl, rfl, rfl, rfl, rfl⟩
theorem Ls.Idle.late {s : Ls} (h : s.Idle) : s.late = false := by unfold Ls.late firstN; rw [h.last, h.fs, h.sent]; rfl
theorem Ls.Idle.ask {s : Ls} (h : s.Idle) (now : Int) : ((s.ask now).told).Idle := ⟨h.me, h.peer, h.last, h.fs, by show (⟨s.g.u, s.g.o, s.g.a, false⟩ : Gt) = _; rw [h.g], h.sent⟩
theorem Ls.Idle.outF {s : Ls} (h : s.Idle) (now : Int) : s.outF now = [] := by
  unfold Ls.outF Ls.wordF Ls.chunkF
  rw [(h.ask now).late]
  show (if s.g.b then _ else []) ++ s.fs = []
  rw [h.g, h.fs]
  rfl
theorem Ls.Idle.outS {s : Ls} (h : s.Idle) (now : Int) : (s.outS now).Idle := by
  have h1 := h.ask now
  exact ⟨h1.me, h1.peer, h1.last, h1.fs, h1.g, h1.last⟩

/-- A chunk comes. -/
def chF (n : Nat) : Fr := ⟨1, 1, 0, zid, n, 0, 0, 0, 0, 0, [], [], [], [], []⟩
def chP (n : Nat) : Pf := ⟨chF n, fun _ => (none, 0)⟩
theorem chP_X (w : World) (D : Nat → Prop) (n : Nat) : (chP n).X w D := ⟨LiesX.nil, LiesX.nil, LiesX.nil, LiesX.nil, LiesX.nil⟩
theorem chF_ok {n : Nat} (h : n < 18446744073709551616) : (chF n).Ok := ⟨(by decide : 1 < 256), (by decide : 1 < 256), (by decide : 0 < 256), h, (by decide : 0 < 4294967296), (by decide : 0 < 4294967296), (by decide : 0 < 4294967296), (by decide : 0 < 18446744073709551616), (by decide : 0 < 18446744073709551616), Nat.zero_le _, Nat.zero_le _, Nat.zero_le _, Nat.zero_le _, Nat.zero_le _, by simp [chF], by simp [chF]⟩
theorem Ls.Idle.come {s : Ls} (h : s.Idle) (n : Nat) : s.come (chF n) = { s with g := s.g.step n } := by
  unfold Ls.come
  rw [if_pos ⟨h.peer.symm, h.me.symm⟩]
  rfl
theorem Ls.Idle.word {s : Ls} (h : s.Idle) (n : Nat) (now : Int) : ({ s with g := s.g.step n } : Ls).outF now = [ackF ({ s with g := s.g.step n } : Ls)] := by
  have h1 : (({ s with g := s.g.step n } : Ls).ask now).told.late = false := by
    unfold Ls.late firstN
    show (decide (s.last + 1 - s.fs.length ≤ s.sent) && _) = false
    rw [h.last, h.fs, h.sent]
    rfl
  unfold Ls.outF Ls.wordF Ls.chunkF
  rw [h1]
  show [_] ++ s.fs = _
  rw [h.fs]
  rfl
theorem Ls.Idle.after {s : Ls} (h : s.Idle) (n : Nat) (now now2 : Int) : (({ s with g := s.g.step n } : Ls).outS now).outF now2 = [] := by
  have h1 : ((({ s with g := s.g.step n } : Ls).outS now).ask now2).told.late = false := by
    unfold Ls.late firstN
    show (decide (s.last + 1 - s.fs.length ≤ s.last) && _) = false
    rw [h.last, h.fs]
    rfl
  unfold Ls.outF Ls.wordF Ls.chunkF
  rw [h1]
  show [] ++ s.fs = _
  rw [h.fs]
  rfl

/-- The link while it is asked. -/
def IdleAt (w : World) (p pw pg : Nat) (W : World) : Prop := ∃ T l s D, LinkB W w.heap.size p pw pg T l s D ∧ s.Idle ∧ RowKit.Below w.heap.size w W

end Go.Proofs.Ytbkkpimhoeagdaa
