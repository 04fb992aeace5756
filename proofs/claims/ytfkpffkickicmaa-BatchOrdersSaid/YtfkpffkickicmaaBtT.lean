/- A slice of runs among the arguments, opened. -/
import Derived.Test.YtfkpffkickicmaaIdW
import Derived.Deep.Strs
import Derived.Lib.SmallJoins
namespace Go.Proofs.Ytfkpffkickicmaa
open Go.ChangeShapes Go.WideShapes Go.ChangeAt Go.RowKit

section
variable {H : Type} {enc : TypeId × Value → H} {w : World} {base : Nat} {spare : Nat → Bool} {held : Bool}

theorem open_id {r : Reach} {b0 : Nat} {v : Value} {d : DataW H} {p : List MemPlace} (hv : Value.okWide Try.prog w r b0 46 v) (h : DataW.Trod enc Try.prog w base spare held 46 v d p) : ∃ x : Id, v = valId x := by
  obtain ⟨v0, v1, y0, y1, n, rfl, _, _, h0, h1⟩ := Joins.open_agg2 Try.underlying46 (by kernel_rfl) (by kernel_rfl) hv h
  obtain ⟨r0, e0, _, w0⟩ := DataW.trod_int Try.underlying5 h0
  obtain ⟨r1, e1, _, w1⟩ := DataW.trod_int Try.underlying40 h1
  injection e0 with e0
  injection e1 with e1
  subst e0 e1
  have b0 := bounds_u8 w0
  have b1 := bounds_u64 w1
  refine ⟨⟨r0.toNat, r1.toNat, by omega, by omega⟩, ?_⟩
  simp only [valId]
  rw [Int.toNat_of_nonneg b0.1, Int.toNat_of_nonneg b1.1]

theorem open_rn {r : Reach} {b0 : Nat} {v : Value} {d : DataW H} {p : List MemPlace} (hv : Value.okWide Try.prog w r b0 43 v) (h : DataW.Trod enc Try.prog w base spare held 43 v d p) : ∃ x : Rn, v = valRn x := by
  obtain ⟨v0, v1, v2, y0, y1, y2, n, rfl, _, _, h0, h1, h2⟩ := Joins.open_agg3 Try.underlying43 (by kernel_rfl) (by kernel_rfl) hv h
  obtain ⟨r0, e0, _, w0⟩ := DataW.trod_int Try.underlying5 h0
  obtain ⟨r1, e1, _, w1⟩ := DataW.trod_int Try.underlying40 h1
  obtain ⟨r2, e2, _, w2⟩ := DataW.trod_int Try.underlying40 h2
  injection e0 with e0
  injection e1 with e1
  injection e2 with e2
  subst e0 e1 e2
  have b0 := bounds_u8 w0
  have b1 := bounds_u64 w1
  have b2 := bounds_u64 w2
  refine ⟨⟨r0.toNat, r1.toNat, r2.toNat, by omega, by omega, by omega⟩, ?_⟩
  simp only [valRn]
  rw [Int.toNat_of_nonneg b0.1, Int.toNat_of_nonneg b1.1, Int.toNat_of_nonneg b2.1]

theorem flat_range {α : Type} [Inhabited α] {en : α → List Value} {k : Nat} (hk : ∀ x, (en x).length = k) (hk0 : 0 < k) {Y : Nat → α} {n t : Nat} {u : Value} (h : (flat en ((List.range n).map Y))[t]? = some u) : t / k < n ∧ (en (Y (t / k)))[t % k]? = some u := by
  have hlt := (List.getElem?_eq_some_iff.1 h).1
  rw [flat_length hk] at hlt
  simp only [List.length_map, List.length_range] at hlt
  have hi : t / k < n := Nat.div_lt_of_lt_mul (by rwa [Nat.mul_comm] at hlt)
  refine ⟨hi, ?_⟩
  have := flat_at hk ((List.range n).map Y) (t / k) (t % k) (Nat.mod_lt _ hk0) (by simpa using hi)
  rw [show t / k * k + t % k = t by rw [Nat.mul_comm]; exact Nat.div_add_mod t k, h] at this
  simpa using this.symm

theorem open_ids {fuel : Nat} {v : Value} {x : DataW H × List MemPlace} (h : DataW.trod enc Try.prog w base spare held fuel 33 [v] = some x) :
    ∃ A n c, ∃ l : List Id, v = .slice A n c ∧ l.length = n ∧ n ≤ c ∧ c ≤ maxLen ∧ Lies w w.heap.size A (flat encId l) := by
  rcases Deep.open_slice Try.underlying33 h with ⟨hcs, _⟩ | ⟨a, len, cap, m, n, D, Pl, hcs, _, hl, hm, hmm, _, hx⟩
  · injection hcs with hcs
    subst hcs
    exact ⟨none, 0, 0, [], rfl, rfl, Nat.le_refl _, Nat.zero_le _, Lies.nil⟩
  · injection hcs with hcs
    subst hcs
    have hlm : len ≤ m := by rw [hmm]; split <;> omega
    have hc2 : Try.prog.cellsOf 46 = 2 := by kernel_rfl
    have hcb : Try.prog.cellsOf 5 = 1 := by kernel_rfl
    have hcu : Try.prog.cellsOf 40 = 1 := by kernel_rfl
    have key : ∀ i, i < len → ∃ y : Id, w.cell? (a.add (i * 2)) = some (.int .u8 (y.f : Int)) ∧ w.cell? ((a.add (i * 2)).add 1) = some (.int .u64 (y.s : Int)) := by
      intro i hi
      obtain ⟨cs', h1, h2⟩ := hx i (by omega)
      rw [hc2] at h1
      obtain ⟨_, hlen, hcell⟩ := World.cells?_some h1
      obtain ⟨y0, y1, n', _, _, t0, t1⟩ := trod_struct2 Try.underlying46 h2
      match cs', hlen with
      | [c0, c1], _ =>
        simp only [hcb, hcu] at t0 t1
        obtain ⟨r0, e0, _, w0⟩ := DataW.trod_int Try.underlying5 t0
        obtain ⟨r1, e1, _, w1⟩ := DataW.trod_int Try.underlying40 t1
        simp at e0 e1
        subst e0 e1
        have b0 := bounds_u8 w0
        have b1 := bounds_u64 w1
        refine ⟨⟨r0.toNat, r1.toNat, by omega, by omega⟩, ?_, ?_⟩
        · have := hcell 0 (by omega)
          rw [Int.toNat_of_nonneg b0.1]
          simpa [Addr.add] using this
        · have := hcell 1 (by omega)
          rw [Int.toNat_of_nonneg b1.1]
          simpa using this
    obtain ⟨Y, hY⟩ := Deep.choose_lt (α := Id) (n := len) key
    refine ⟨some a, len, cap, (List.range len).map Y, rfl, by simp, hl, hm, fun hn => ?_⟩
    have hp : 0 < len := by
      rcases Nat.eq_zero_or_pos len with h0 | h0
      · subst h0; simp [flat] at hn
      · exact h0
    have h0 := (hY 0 hp).1
    obtain ⟨b, off, spot⟩ := a
    have hspot : spot = none := by simpa [Addr.add] using World.cell?_spot h0
    subst hspot
    refine ⟨b, off, rfl, ?_, fun t u hu => ?_⟩
    · have := World.block_lt_of_cell? w _ h0
      rwa [Go.Proofs.Ytfkpffkickicmaa.add_plain] at this
    · obtain ⟨hi, hu'⟩ := flat_range encId_len (by decide) hu
      obtain ⟨k0, k1⟩ := hY _ hi
      simp only [Go.Proofs.Ytfkpffkickicmaa.add_plain] at k0 k1
      have ht : t / 2 * 2 + t % 2 = t := by omega
      have h2 : t % 2 < 2 := Nat.mod_lt _ (by decide)
      generalize t / 2 = i at *
      generalize t % 2 = j at *
      match j, h2 with
      | 0, _ => simp [encId] at hu'; rw [← ht, ← hu', Nat.add_zero]; exact k0
      | 1, _ => simp [encId] at hu'; rw [← ht, ← hu', ← Nat.add_assoc]; exact k1

theorem open_rns {fuel : Nat} {v : Value} {x : DataW H × List MemPlace} (h : DataW.trod enc Try.prog w base spare held fuel 23 [v] = some x) :
    ∃ A n c, ∃ l : List Rn, v = .slice A n c ∧ l.length = n ∧ n ≤ c ∧ c ≤ maxLen ∧ Lies w w.heap.size A (flat encRn l) := by
  rcases Deep.open_slice Try.underlying23 h with ⟨hcs, _⟩ | ⟨a, len, cap, m, n, D, Pl, hcs, _, hl, hm, hmm, _, hx⟩
  · injection hcs with hcs
    subst hcs
    exact ⟨none, 0, 0, [], rfl, rfl, Nat.le_refl _, Nat.zero_le _, Lies.nil⟩
  · injection hcs with hcs
    subst hcs
    have hlm : len ≤ m := by rw [hmm]; split <;> omega
    have hc2 : Try.prog.cellsOf 43 = 3 := by kernel_rfl
    have hcb : Try.prog.cellsOf 5 = 1 := by kernel_rfl
    have hcu : Try.prog.cellsOf 40 = 1 := by kernel_rfl
    have key : ∀ i, i < len → ∃ y : Rn, w.cell? (a.add (i * 3)) = some (.int .u8 (y.f : Int)) ∧ w.cell? ((a.add (i * 3)).add 1) = some (.int .u64 (y.a : Int)) ∧ w.cell? ((a.add (i * 3)).add 2) = some (.int .u64 (y.c : Int)) := by
      intro i hi
      obtain ⟨cs', h1, h2⟩ := hx i (by omega)
      rw [hc2] at h1
      obtain ⟨_, hlen, hcell⟩ := World.cells?_some h1
      obtain ⟨y0, y1, y2, n', _, _, t0, t1, t2⟩ := Deep.trod_struct3 Try.underlying43 h2
      match cs', hlen with
      | [c0, c1, c2], _ =>
        simp only [hcb, hcu] at t0 t1 t2
        obtain ⟨r0, e0, _, w0⟩ := DataW.trod_int Try.underlying5 t0
        obtain ⟨r1, e1, _, w1⟩ := DataW.trod_int Try.underlying40 t1
        obtain ⟨r2, e2, _, w2⟩ := DataW.trod_int Try.underlying40 t2
        simp at e0 e1 e2
        subst e0 e1 e2
        have b0 := bounds_u8 w0
        have b1 := bounds_u64 w1
        have b2 := bounds_u64 w2
        refine ⟨⟨r0.toNat, r1.toNat, r2.toNat, by omega, by omega, by omega⟩, ?_, ?_, ?_⟩
        · have := hcell 0 (by omega)
          rw [Int.toNat_of_nonneg b0.1]
          simpa [Addr.add] using this
        · have := hcell 1 (by omega)
          rw [Int.toNat_of_nonneg b1.1]
          simpa using this
        · have := hcell 2 (by omega)
          rw [Int.toNat_of_nonneg b2.1]
          simpa using this
    obtain ⟨Y, hY⟩ := Deep.choose_lt (α := Rn) (n := len) key
    refine ⟨some a, len, cap, (List.range len).map Y, rfl, by simp, hl, hm, fun hn => ?_⟩
    have hp : 0 < len := by
      rcases Nat.eq_zero_or_pos len with h0 | h0
      · subst h0; simp [flat] at hn
      · exact h0
    have h0 := (hY 0 hp).1
    obtain ⟨b, off, spot⟩ := a
    have hspot : spot = none := by simpa [Addr.add] using World.cell?_spot h0
    subst hspot
    refine ⟨b, off, rfl, ?_, fun t u hu => ?_⟩
    · have := World.block_lt_of_cell? w _ h0
      rwa [Go.Proofs.Ytfkpffkickicmaa.add_plain] at this
    · obtain ⟨hi, hu'⟩ := flat_range encRn_len (by decide) hu
      obtain ⟨k0, k1, k2⟩ := hY _ hi
      simp only [Go.Proofs.Ytfkpffkickicmaa.add_plain] at k0 k1 k2
      have ht : t / 3 * 3 + t % 3 = t := by omega
      have h2 : t % 3 < 3 := Nat.mod_lt _ (by decide)
      generalize t / 3 = i at *
      generalize t % 3 = j at *
      match j, h2 with
      | 0, _ => simp [encRn] at hu'; rw [← ht, ← hu', Nat.add_zero]; exact k0
      | 1, _ => simp [encRn] at hu'; rw [← ht, ← hu', ← Nat.add_assoc]; exact k1
      | 2, _ => simp [encRn] at hu'; rw [← ht, ← hu', ← Nat.add_assoc]; exact k2
end

end Go.Proofs.Ytfkpffkickicmaa
