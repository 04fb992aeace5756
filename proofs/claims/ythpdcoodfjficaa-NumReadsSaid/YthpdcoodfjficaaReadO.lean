/- A slice of asks, opened. -/
import Derived.Test.YthpdcoodfjficaaRefC
import Derived.Deep.Strs
namespace Go.Proofs.Ythpdcoodfjficaa
open Go.ChangeShapes Go.WideShapes Go.ChangeAt Go.RowKit

/-- The cells of a slice of asks: each of three cells. -/
def AskLies (w : World) (A : Option Addr) (n : Nat) (R : Nat → Bool) (M : Nat → Int) (T : Nat → Nat) : Prop :=
  0 < n → ∃ b off, A = some ⟨b, off, none⟩ ∧ b < w.heap.size ∧ ∀ i, i < n → w.cell? ⟨b, off + i * 3, none⟩ = some (.bool (R i)) ∧ w.cell? ⟨b, off + i * 3 + 1, none⟩ = some (.int .i64 (M i)) ∧ w.cell? ⟨b, off + i * 3 + 1 + 1, none⟩ = some (.int .u64 (T i))

theorem AskLies.below {w w' : World} {A : Option Addr} {n : Nat} {R : Nat → Bool} {M : Nat → Int} {T : Nat → Nat} (h : AskLies w A n R M T) (hb : Below w.heap.size w w') (hn : 0 < n) : ∃ b off, A = some ⟨b, off, none⟩ ∧ b < w.heap.size ∧ ∀ i, i < n → w'.cell? ⟨b, off + i * 3, none⟩ = some (.bool (R i)) ∧ w'.cell? ⟨b, off + i * 3 + 1, none⟩ = some (.int .i64 (M i)) ∧ w'.cell? ⟨b, off + i * 3 + 1 + 1, none⟩ = some (.int .u64 (T i)) := by
  obtain ⟨b, off, rfl, hlt, hc⟩ := h hn
  refine ⟨b, off, rfl, hlt, fun i hi => ?_⟩
  obtain ⟨h0, h1, h2⟩ := hc i hi
  exact ⟨(hb.cell (p := ⟨b, _, none⟩) hlt).trans h0, (hb.cell (p := ⟨b, _, none⟩) hlt).trans h1, (hb.cell (p := ⟨b, _, none⟩) hlt).trans h2⟩

theorem open_asks {H : Type} {enc : TypeId × Value → H} {w : World} {base : Nat} {spare : Nat → Bool} {held : Bool} {fuel : Nat} {v : Value} {x : DataW H × List MemPlace}
    (h : DataW.trod enc Try.prog w base spare held fuel 34 [v] = some x) :
    ∃ A n c R M T, v = .slice A n c ∧ AskLies w A n R M T ∧ (∀ i, i < n → -9223372036854775808 ≤ M i ∧ M i ≤ 9223372036854775807) ∧ (∀ i, i < n → T i < 18446744073709551616) := by
  rcases Deep.open_slice Try.underlying34 h with ⟨hcs, _⟩ | ⟨a, len, cap, m, n, D, Pl, hcs, _, hl, hm, hmm, _, hx⟩
  · injection hcs with hcs
    subst hcs
    exact ⟨none, 0, 0, fun _ => false, fun _ => 0, fun _ => 0, rfl, fun h => absurd h (by omega), fun _ h => absurd h (by omega), fun _ h => absurd h (by omega)⟩
  · injection hcs with hcs
    subst hcs
    have hlm : len ≤ m := by rw [hmm]; split <;> omega
    have hc3 : Try.prog.cellsOf 40 = 3 := by kernel_rfl
    have hcb : Try.prog.cellsOf 4 = 1 := by kernel_rfl
    have hci : Try.prog.cellsOf 3 = 1 := by kernel_rfl
    have hcu : Try.prog.cellsOf 28 = 1 := by kernel_rfl
    have key : ∀ i, i < len → ∃ y : Bool × Int × Nat, w.cell? (a.add (i * 3)) = some (.bool y.1) ∧ w.cell? ((a.add (i * 3)).add 1) = some (.int .i64 y.2.1) ∧ w.cell? ((a.add (i * 3)).add 2) = some (.int .u64 (y.2.2 : Int)) ∧
        (-9223372036854775808 ≤ y.2.1 ∧ y.2.1 ≤ 9223372036854775807) ∧ y.2.2 < 18446744073709551616 := by
      intro i hi
      obtain ⟨cs', h1, h2⟩ := hx i (by omega)
      rw [hc3] at h1
      obtain ⟨_, hlen, hcell⟩ := World.cells?_some h1
      obtain ⟨y0, y1, y2, n', _, _, t0, t1, t2⟩ := Deep.trod_struct3 Try.underlying40 h2
      match cs', hlen with
      | [c0, c1, c2], _ =>
        simp only [hcb, hci, hcu] at t0 t1 t2
        obtain ⟨rb, e0, _⟩ := DataW.trod_bool Try.underlying4 t0
        obtain ⟨ri, e1, _, w1⟩ := DataW.trod_int Try.underlying3 t1
        obtain ⟨ru, e2, _, w2⟩ := DataW.trod_int Try.underlying28 t2
        simp at e0 e1 e2
        subst e0 e1 e2
        have b1 := bounds_i64 w1
        have b2 := bounds_u64 w2
        refine ⟨(rb, ri, ru.toNat), ?_, ?_, ?_, b1, by simp only; omega⟩
        · have := hcell 0 (by omega); simpa [Addr.add] using this
        · have := hcell 1 (by omega); simpa using this
        · have := hcell 2 (by omega)
          rw [this]
          show some (Value.int .u64 ru) = some (Value.int .u64 ((ru.toNat : Nat) : Int))
          rw [Int.toNat_of_nonneg b2.1]
    obtain ⟨Y, hY⟩ := Deep.choose_lt (α := Bool × Int × Nat) (n := len) key
    refine ⟨some a, len, cap, fun i => (Y i).1, fun i => (Y i).2.1, fun i => (Y i).2.2, rfl, fun hn => ?_, fun i hi => (hY i hi).2.2.2.1, fun i hi => (hY i hi).2.2.2.2⟩
    have h0 := (hY 0 hn).1
    obtain ⟨b, off, spot⟩ := a
    have hspot : spot = none := by simpa [Addr.add] using World.cell?_spot h0
    subst hspot
    refine ⟨b, off, rfl, ?_, fun i hi => ?_⟩
    · have := World.block_lt_of_cell? w _ h0
      rwa [Go.Proofs.Ythpdcoodfjficaa.add_plain] at this
    · obtain ⟨k0, k1, k2, _⟩ := hY i hi
      simp only [Go.Proofs.Ythpdcoodfjficaa.add_plain] at k0 k1 k2
      exact ⟨k0, k1, k2⟩

end Go.Proofs.Ythpdcoodfjficaa
