/- Stage 12: bytes of the own that are counted up (picked). -/
import Derived.Test.YtgkkobnoegggaaaCkJ
namespace Go.Proofs.Ytgkkobnoegggaaa
open Go.RowKit Go.Sort Go.ChangeShapes Go.WideShapes Go.ChangeAt

/-- Cells of bytes, whatever they are. -/
def Bytes (xs : List Value) : Prop := ∀ u ∈ xs, ∃ k : Nat, k < 256 ∧ u = .int .u8 (k : Int)

theorem Bytes.bvs (l : List UInt8) : Bytes (bvs l) := by
  intro u hu
  unfold Go.Proofs.Ytgkkobnoegggaaa.bvs at hu
  obtain ⟨c, _, rfl⟩ := List.mem_map.1 hu
  exact ⟨c.toNat, c.toNat_lt, rfl⟩

theorem Bytes.set {xs : List Value} (h : Bytes xs) (q k : Nat) (hk : k < 256) : Bytes (xs.set q (.int .u8 (k : Int))) := by
  intro u hu
  rcases List.mem_or_eq_of_mem_set hu with hu | rfl
  · exact h u hu
  · exact ⟨k, hk, rfl⟩

/-- What stands while bytes of the call's own are counted up. -/
def IncS (w6 : World) (B n q : Nat) (v : Value) (wr : World) : Prop := q ≤ n ∧ ∃ xs, Bytes xs ∧ wr.ownsRow B 5 1 v n xs ∧ OnlyE w6 wr (fun k => v.ownBlock = some k)

theorem IncS.start {w6 : World} {B n : Nat} {v : Value} {l : List UInt8} (h : w6.ownsRow B 5 1 v n (bvs l)) : IncS w6 B n 0 v w6 := ⟨Nat.zero_le _, _, Bytes.bvs l, h, OnlyE.refl _ _⟩

theorem IncS.cell {w6 wr : World} {B n q : Nat} {v : Value} (h : IncS w6 B n q v wr) (hq : q < n) : ∃ (g c k : Nat), v = .slice (some ⟨g, 0, none⟩) n c ∧ k < 256 ∧ wr.cell? ⟨g, q, none⟩ = some (.int .u8 (k : Int)) ∧ wr.frozen? ⟨g, q, none⟩ = false := by
  obtain ⟨_, xs, hb, ho, _⟩ := h
  obtain ⟨g, c, rfl, _, _⟩ := ho.form (by omega)
  have hl := ho.1
  have hq1 : q < xs.length := by omega
  obtain ⟨k, hk, e⟩ := hb xs[q] (List.getElem_mem hq1)
  refine ⟨g, c, k, rfl, hk, ?_, ho.frozenAt q⟩
  rw [ho.cellAt _ (by omega), List.getElem?_eq_getElem hq1, e]

theorem IncS.step {w6 wr : World} {B n q g c : Nat} (h : IncS w6 B n q (.slice (some ⟨g, 0, none⟩) n c) wr) (hq : q < n) (k : Nat) (hk : k < 256) : IncS w6 B n (q + 1) (.slice (some ⟨g, 0, none⟩) n c) (wr.setCell ⟨g, q, none⟩ (.int .u8 (k : Int))) := by
  obtain ⟨_, xs, hb, ho, hO⟩ := h
  exact ⟨hq, _, hb.set q k hk, (ho.stored q _).1, hO.trans (onlyE_set (D := fun k => (Value.slice (some ⟨g, 0, none⟩) n c).ownBlock = some k) rfl q _)⟩

end Go.Proofs.Ytgkkobnoegggaaa
