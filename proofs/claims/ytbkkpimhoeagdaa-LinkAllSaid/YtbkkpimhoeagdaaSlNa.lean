/- Frames that are told, looked at; Waiting whatever it is asked; a frame with At alone. -/
import Derived.Test.YtbkkpimhoeagdaaSlM
namespace Go.Proofs.Ytbkkpimhoeagdaa
open Go.RowKit Go.Sort
set_option maxRecDepth 20000

theorem FrsOwn.at_ {w : World} {base n c : Nat} {Fs : List Fr} {A : Option Addr} (h : FrsOwn w base Fs (.slice A n c)) (i : Nat) (hi : i < Fs.length) :
    ∃ g, ∃ y : Pf, A = some ⟨g, 0, none⟩ ∧ y.F = Fs[i] ∧ y.Own w base ∧ base ≤ g ∧ g < w.heap.size ∧ w.rangeAt g (i * 16) (encPf y) := by
  obtain ⟨ys, h1, h2, h3⟩ := h
  have hl : ys.length = Fs.length := by rw [← h1, List.length_map]
  have hiy : i < ys.length := by omega
  obtain ⟨g, c', hv, hb, hlt⟩ := h2.form (by omega)
  injection hv with e1 e2 e3
  subst e1 e2
  obtain ⟨b, off, e, hbw, hc⟩ := row_at (Lies.of_ownK h2) hiy
  injection e with e
  injection e with e1 e2
  subst e1 e2
  rw [Nat.zero_add] at hc
  refine ⟨_, ys[i], rfl, ?_, h3 _ (List.getElem_mem hiy), hb, hlt, hc⟩
  simp only [← h1, List.getElem_map]

/-- The three cells that are asked for of a frame. -/
theorem range_seq {w : World} {g o : Nat} {y : Pf} (h : w.rangeAt g o (encPf y)) : w.cell? ⟨g, o + 5, none⟩ = some (.int .u64 (y.F.seq : Int)) := h 5 _ rfl
theorem range_at {w : World} {g o : Nat} {y : Pf} (h : w.rangeAt g o (encPf y)) : w.cell? ⟨g, o + 6, none⟩ = some (.int .u32 (y.F.at_ : Int)) := h 6 _ rfl

/-- Waiting, whatever it is asked. -/
theorem waiting_all {w : World} {base p : Nat} {T : Value} {width last : Nat} {l : List Pf} {D : Nat → Prop} (h : WinAt w base p T width last l D) (fr : Nat) (most : Int) (hm1 : -9223372036854775808 ≤ most) (hm2 : most ≤ 9223372036854775807) :
    Calls Try.prog 51 #[.pointer (some ⟨p, 0, none⟩), .int .u64 (fr : Int), .int .i64 most] w (Waited w (waitF (l.map Pf.F) (firstN last l.length) fr most)) := by
  by_cases hf : fr ≤ last
  · exact waiting_any h fr most hf hm1 hm2
  · exact waiting_past h fr most (by omega)

def zid : Id := ⟨0, 0, by decide, by decide⟩
/-- A frame that has At alone. -/
def atF (n : Nat) : Fr := ⟨0, 0, 0, zid, 0, n, 0, 0, 0, 0, [], [], [], [], []⟩
def atP (n : Nat) : Pf := ⟨atF n, fun _ => (none, 0)⟩
theorem atP_X (w : World) (D : Nat → Prop) (n : Nat) : (atP n).X w D := ⟨LiesX.nil, LiesX.nil, LiesX.nil, LiesX.nil, LiesX.nil⟩
theorem atF_ok {n : Nat} (h : n < 4294967296) : (atF n).Ok := ⟨(by decide : 0 < 256), (by decide : 0 < 256), (by decide : 0 < 256), (by decide : 0 < 18446744073709551616), h, (by decide : 0 < 4294967296), (by decide : 0 < 4294967296), (by decide : 0 < 18446744073709551616), (by decide : 0 < 18446744073709551616), Nat.zero_le _, Nat.zero_le _, Nat.zero_le _, Nat.zero_le _, Nat.zero_le _, by simp [atF], by simp [atF]⟩

/-- A list that was just built. -/
theorem LiesX.of_new {w : World} {D : Nat → Prop} (cs : Array Value) (t : TypeId) (hD : ¬ D w.heap.size) : LiesX (w.alloc (.cells cs t)) D (some ⟨w.heap.size, 0, none⟩) cs.toList := fun hn => by
  obtain ⟨b, off, e, hb, hc⟩ := lies_new w cs t hn
  injection e with e
  injection e with e1 e2
  subst e1 e2
  exact ⟨_, _, rfl, by simp, hD, hc⟩

end Go.Proofs.Ytbkkpimhoeagdaa
