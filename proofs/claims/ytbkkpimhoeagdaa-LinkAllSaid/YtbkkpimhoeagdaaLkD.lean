/- A link: word, chunks, Out. -/
import Derived.Test.YtbkkpimhoeagdaaLkC
import Derived.Deep.RegionWith
namespace Go.Proofs.Ytbkkpimhoeagdaa
open Go.RowKit Go.Sort
set_option maxRecDepth 20000

/-- Word of what came. -/
def ackF (s : Ls) : Fr := ⟨2, s.me, s.peer, zid, s.g.u, 0, 0, 0, 0, 0, [], [], [], [], []⟩
def ackP (s : Ls) : Pf := ⟨ackF s, fun _ => (none, 0)⟩
def Ls.wordF (s : Ls) : List Fr := if s.g.b then [ackF s] else []
def Ls.told (s : Ls) : Ls := { s with g := ⟨s.g.u, s.g.o, s.g.a, false⟩ }

/-- Chunks that wait were sent, and it isn't yet time to send them again? -/
def Ls.late (s : Ls) : Bool := decide (firstN s.last s.fs.length ≤ s.sent) && decide ((s.asked : Int) - (s.tick : Int) < (s.again : Int))
def Ls.chunkF (s : Ls) : List Fr := if s.late then s.fs.drop (s.sent + 1 - firstN s.last s.fs.length) else s.fs
def Ls.chunkS (s : Ls) : Ls := { s with tick := if s.late then s.tick else s.asked, sent := s.last }

def tickN (now : Int) : Nat := (max 0 (min now 1099511627776)).toNat
def Ls.ask (s : Ls) (now : Int) : Ls := { s with asked := tickN now }
/-- What goes out at a tick. -/
def Ls.outF (s : Ls) (now : Int) : List Fr := (s.ask now).wordF ++ ((s.ask now).told).chunkF
def Ls.outS (s : Ls) (now : Int) : Ls := ((s.ask now).told).chunkS

theorem ackP_own (w : World) (base : Nat) (s : Ls) : (ackP s).Own w base := ⟨World.ownsRow_nil _ _ _ _, World.ownsRow_nil _ _ _ _, World.ownsRow_nil _ _ _ _, World.ownsRow_nil _ _ _ _, World.ownsRow_nil _ _ _ _⟩

/-- A list of one frame that was just built. -/
theorem FrsOwn.one {w : World} {base : Nat} {y : Pf} (h : y.Own w base) (hb : base ≤ w.heap.size) : FrsOwn (w.alloc (.cells y.cs 44)) base [y.F] (.slice (some ⟨w.heap.size, 0, none⟩) 1 1) := by
  refine ⟨[y], rfl, ?_, fun z hz => ?_⟩
  · rw [flat_single]
    exact World.ownsRow_lit (size := 16) (e := 44) w y.cs 1 hb (by decide) (Pf.size y)
  · simp only [List.mem_cons, List.not_mem_nil, or_false] at hz
    subst hz
    exact h.on ((RowKit.Below.refl _ _).alloc (Nat.le_refl _) _)

/-- What word and chunks answer. -/
def LFrs (w : World) (base p pw pg : Nat) (T : Value) (l : List Pf) (D : Nat → Prop) (Fs : List Fr) (s' : Ls) (e : Ending) (w' : World) : Prop :=
  ∃ A n c, e = .returned (.slice A n c) ∧ Hid (Fs.length = n) ∧ FrsOwn w' w.heap.size Fs (.slice A n c) ∧ LkIn w base p pw pg T l D s' w'

section
variable {w : World} {base p pw pg : Nat} {T : Value} {l : List Pf} {s : Ls} {D : Nat → Prop}

theorem word_any (h : LinkB w base p pw pg T l s D) : Calls Try.prog 39 #[.pointer (some ⟨p, 0, none⟩)] w (LFrs w base p pw pg T l D s.wordF s.told) := by
  have hO := owes_any h.gate
  have c1 := h.c1
  have H := Lib.hid h
  have hd0 : ((some ⟨p, 0, none⟩ : Option Addr) == none) = false := rfl
  cases hb : s.g.b
  · have e1 : s.wordF = [] := by unfold Ls.wordF; rw [hb]; rfl
    have e2 : s.told = s := by unfold Ls.told; rw [← hb]
    rw [e1, e2]
    rw [hb] at hO
    clear h hb e1 e2
    go_enter Try.func39, Try.ntmps39
    go_wp2_with fail
    refine hO.mono ?_
    rintro e w1 ⟨rfl, rfl⟩
    clear hO
    go_wp2
    go_ret
    exact ⟨_, _, _, rfl, rfl, FrsOwn.nil _ _, LkIn.refl H.out (RowKit.Below.refl _ _)⟩
  · have e1 : s.wordF = [ackF s] := by unfold Ls.wordF; rw [hb]; rfl
    rw [e1]
    rw [hb] at hO
    have hT := told_any h.gate
    clear h hb e1
    go_enter Try.func39, Try.ntmps39
    go_wp2_with fail
    refine hO.mono ?_
    rintro e w1 ⟨rfl, rfl⟩
    clear hO
    go_wp2_with fail
    refine hT.mono ?_
    rintro e w2 ⟨rfl, hG2, ho2⟩
    have HL2 := Lib.hid (H.out.gated hG2 ho2)
    clear hT hG2 ho2 c1
    have hL2 := HL2.out.1
    have HK2 := Lib.hid hL2
    have hh := head_any hL2 2
    clear hL2
    go_wp2_with fail
    refine hh.mono ?_
    rintro e w3 ⟨rfl, hb3⟩
    have hu := lupto_any (HK2.out.on hb3)
    have HB3 := Lib.hid hb3
    clear hb3 hh
    go_wp2_with fail
    refine hu.mono ?_
    rintro e w4 ⟨rfl, rfl⟩
    clear hu
    go_wp2
    go_ret
    have hsz : w1.heap.size ≤ w4.heap.size := Nat.le_trans HL2.out.2.size HB3.out.size
    exact ⟨_, _, _, rfl, rfl, FrsOwn.one (ackP_own _ _ s) hsz, HL2.out.trans (LkIn.refl HK2.out (HB3.out.trans (((RowKit.Below.refl _ _).alloc (Nat.le_refl _) _).mono HB3.out.size)))⟩
end

end Go.Proofs.Ytbkkpimhoeagdaa
