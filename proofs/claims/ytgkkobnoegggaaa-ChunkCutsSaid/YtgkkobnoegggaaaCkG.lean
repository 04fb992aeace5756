/- Stage 12: a list of frames of the own (picked out of the texts of stage 8). -/
import Derived.Test.YtgkkobnoegggaaaCkD
import Derived.Test.YtgkkobnoegggaaaCkF
namespace Go.Proofs.Ytgkkobnoegggaaa
open Go.RowKit Go.Sort Go.ChangeShapes Go.WideShapes Go.ChangeAt

def zeroF : Array Value := #[.int .u8 0, .int .u8 0, .int .u8 0, .int .u8 0, .int .u64 0, .int .u64 0, .int .u32 0, .int .u32 0, .int .u32 0, .int .u64 0, .int .u64 0, .slice none 0 0, .slice none 0 0, .slice none 0 0, .slice none 0 0, .slice none 0 0]

theorem Try.infoFrame : (Try.prog.info? 42).map (fun i => (i.zero, i.size, i.bytes)) = some (some (.agg zeroF), 16, 184) := by kernel_rfl

/-- A list of frames of the call's own. -/
def FrsOwn (w : World) (base : Nat) (Fs : List Fr) (v : Value) : Prop :=
  ∃ ys : List Pf, ys.map Pf.F = Fs ∧ w.ownsRow base 42 16 v Fs.length (flat encPf ys) ∧ ∀ y ∈ ys, y.Own w base

theorem FrsOwn.on {w w' : World} {base : Nat} {Fs : List Fr} {v : Value} (h : FrsOwn w base Fs v) (hb : RowKit.Below w.heap.size w w') : FrsOwn w' base Fs v := by
  obtain ⟨ys, h1, h2, h3⟩ := h
  exact ⟨ys, h1, own_below h2 hb, fun y hy => (h3 y hy).on hb⟩

theorem FrsOwn.at_ {w : World} {base n c : Nat} {Fs : List Fr} {A : Option Addr} (h : FrsOwn w base Fs (.slice A n c)) (i : Nat) (hi : i < Fs.length) :
    ∃ g, ∃ y : Pf, A = some ⟨g, 0, none⟩ ∧ y.F = Fs[i] ∧ y.Own w base ∧ base ≤ g ∧ g < w.heap.size ∧ w.rangeAt g (i * 16) (encPf y) := by
  obtain ⟨ys, h1, h2, h3⟩ := h
  have hl : ys.length = Fs.length := by rw [← h1, List.length_map]
  have hiy : i < ys.length := by omega
  obtain ⟨g, c', hv, hb, hlt⟩ := h2.form (by omega)
  injection hv with e1 e2 e3
  subst e1 e2
  obtain ⟨b, off, e, hbw, hc⟩ := row_at (Lies.of_ownK h2) hiy
  injection e with e
  injection e with e1 e2
  subst e1 e2
  rw [Nat.zero_add] at hc
  refine ⟨_, ys[i], rfl, ?_, h3 _ (List.getElem_mem hiy), hb, hlt, hc⟩
  simp only [← h1, List.getElem_map]

end Go.Proofs.Ytgkkobnoegggaaa
