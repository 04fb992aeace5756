/- Stage 17: the acts opened; what GrantRises keeps. -/
import Derived.Test.YtenaoinkjdaoeaaGrE
set_option maxRecDepth 20000
namespace Go.Proofs.Ytenaoinkjdaoeaa
open Go.ChangeShapes Go.WideShapes Go.ChangeAt Go.RowKit

/-- An act: one that goes, or one that tells. -/
structure Ac where
  g : Bool
  P : Int
  u : Nat

instance : Inhabited Ac := ⟨⟨false, 0, 0⟩⟩
def encAc (y : Ac) : List Value := [.bool y.g, .int .i64 y.P, .int .u64 (y.u : Int)]
theorem encAc_len (x : Ac) : (encAc x).length = 3 := rfl
structure AcOk (y : Ac) : Prop where
  P : -9223372036854775808 ≤ y.P ∧ y.P ≤ 9223372036854775807
  u : y.u < 18446744073709551616

section
variable {H : Type} {enc : TypeId × Value → H} {w : World} {base : Nat} {spare : Nat → Bool} {held : Bool}

theorem open_act {fuel : Nat} {cs : List Value} {x : DataW H × List MemPlace} (hlen : cs.length = 3) (h : DataW.trod enc Try.prog w base spare held fuel 32 cs = some x) :
    ∃ y : Ac, cs = encAc y ∧ AcOk y := by
  have hB : Try.prog.cellsOf 4 = 1 := by kernel_rfl
  have hI : Try.prog.cellsOf 3 = 1 := by kernel_rfl
  have hU : Try.prog.cellsOf 23 = 1 := by kernel_rfl
  match cs, hlen with
  | [c0, c1, c2], _ =>
    obtain ⟨y0, y1, y2, n', _, _, t0, t1, t2⟩ := Deep.trod_struct3 Try.underlying32 h
    simp only [hB, hI, hU] at t0 t1 t2
    obtain ⟨r0, e0, _⟩ := DataW.trod_bool Try.underlying4 t0
    obtain ⟨r1, e1, _, w1⟩ := DataW.trod_int Try.underlying3 t1
    obtain ⟨r2, e2, _, w2⟩ := DataW.trod_int Try.underlying23 t2
    simp at e0 e1 e2
    subst e0 e1 e2
    have b2 := bounds_u64 w2
    refine ⟨⟨r0, r1, r2.toNat⟩, ?_, bounds_i64 w1, by show r2.toNat < _; omega⟩
    unfold encAc
    rw [Int.toNat_of_nonneg b2.1]

theorem open_acts {fuel : Nat} {v : Value} {x : DataW H × List MemPlace} (h : DataW.trod enc Try.prog w base spare held fuel 22 [v] = some x) :
    ∃ l A n c, v = .slice A n c ∧ l.length = n ∧ n ≤ c ∧ c ≤ maxLen ∧ Lies w w.heap.size A (flat encAc l) ∧ ∀ y ∈ l, AcOk y := by
  rcases Deep.open_slice Try.underlying22 h with ⟨hcs, _⟩ | ⟨a, len, cap, m, n, D, Pl, hcs, _, hl, hm, hmm, _, hx⟩
  · injection hcs with hcs
    subst hcs
    exact ⟨[], none, 0, 0, rfl, rfl, Nat.le_refl _, Nat.zero_le _, Lies.nil, by simp⟩
  · injection hcs with hcs
    subst hcs
    have hlm : len ≤ m := by rw [hmm]; split <;> omega
    have hc3 : Try.prog.cellsOf 32 = 3 := by kernel_rfl
    have key : ∀ i, i < len → ∃ y : Ac, (∀ j u, (encAc y)[j]? = some u → w.cell? ((a.add (i * 3)).add j) = some u) ∧ AcOk y := by
      intro i hi
      obtain ⟨cs', h1, h2⟩ := hx i (by omega)
      rw [hc3] at h1
      obtain ⟨_, hlen, hcell⟩ := World.cells?_some h1
      obtain ⟨y, rfl, hy⟩ := open_act hlen h2
      refine ⟨y, fun j u hu => ?_, hy⟩
      have hj : j < 3 := by
        have := (List.getElem?_eq_some_iff.1 hu).1
        rw [encAc_len] at this
        exact this
      have := hcell j (by omega)
      rw [this]
      exact hu
    obtain ⟨Y, hY⟩ := Deep.choose_lt (α := Ac) (n := len) key
    refine ⟨(List.range len).map Y, some a, len, cap, rfl, by simp, hl, hm, ?_, ?_⟩
    · intro hn
      have hp : 0 < len := by
        rcases Nat.eq_zero_or_pos len with h0 | h0
        · subst h0; simp [flat] at hn
        · exact h0
      have h0 := (hY 0 hp).1 0 _ rfl
      obtain ⟨b, off, spot⟩ := a
      have hspot : spot = none := by simpa [Addr.add] using World.cell?_spot h0
      subst hspot
      refine ⟨b, off, rfl, ?_, fun i u hu => ?_⟩
      · have := World.block_lt_of_cell? w _ h0
        rwa [Go.Proofs.Ytenaoinkjdaoeaa.add_plain, Go.Proofs.Ytenaoinkjdaoeaa.add_plain] at this
      · have hil : i < ((List.range len).map Y).length * 3 := by
          have := (List.getElem?_eq_some_iff.1 hu).1
          rw [flat_length encAc_len] at this
          exact this
        have hi3 : i / 3 < ((List.range len).map Y).length := by omega
        have hfa := flat_at encAc_len ((List.range len).map Y) (i / 3) (i % 3) (Nat.mod_lt _ (by decide)) hi3
        rw [show i / 3 * 3 + i % 3 = i by omega, hu] at hfa
        have hlt : i / 3 < len := by simpa using hi3
        have e : ((List.range len).map Y)[i / 3] = Y (i / 3) := by simp
        rw [e] at hfa
        have := (hY (i / 3) hlt).1 (i % 3) u hfa.symm
        rw [Go.Proofs.Ytenaoinkjdaoeaa.add_plain, Go.Proofs.Ytenaoinkjdaoeaa.add_plain] at this
        rwa [show off + i / 3 * 3 + i % 3 = off + i by omega] at this
    · intro y hy
      obtain ⟨i, hi, rfl⟩ := List.mem_map.1 hy
      exact (hY i (by simpa using hi)).2
end

/-- The cells of the act at place i. -/
theorem acts_at {w : World} {B : Nat} {A : Option Addr} {l : List Ac} (h : Lies w B A (flat encAc l)) {i : Nat} (hi : i < l.length) :
    ∃ b off, A = some ⟨b, off, none⟩ ∧ b < B ∧ w.cell? ⟨b, off + i * 3, none⟩ = some (.bool l[i].g) ∧ w.cell? ⟨b, off + i * 3 + 1, none⟩ = some (.int .i64 l[i].P) ∧ w.cell? ⟨b, off + i * 3 + 2, none⟩ = some (.int .u64 (l[i].u : Int)) := by
  have hn : flat encAc l ≠ [] := by
    intro h0
    have := flat_length encAc_len l
    rw [h0] at this
    rw [List.length_nil] at this
    omega
  obtain ⟨b, off, e, hb, hc⟩ := h hn
  refine ⟨b, off, e, hb, ?_, ?_, ?_⟩
  · have := hc (i * 3 + 0) _ ((flat_at encAc_len l i 0 (by decide) hi).trans rfl)
    rwa [Nat.add_zero] at this
  · have := hc (i * 3 + 1) _ ((flat_at encAc_len l i 1 (by decide) hi).trans rfl)
    rwa [← Nat.add_assoc] at this
  · have := hc (i * 3 + 2) _ ((flat_at encAc_len l i 2 (by decide) hi).trans rfl)
    rwa [← Nat.add_assoc] at this

/-- The grants behind an act. -/
def actL (l : List Wd) (me : Nat) (y : Ac) : List Wd := if y.g then goneL l me y.P else tellL l y.P y.u
theorem actL_len (l : List Wd) (me : Nat) (y : Ac) : (actL l me y).length = l.length := by
  unfold actL
  split
  · exact goneL_len l me y.P
  · exact tellL_len l y.P y.u
theorem Gok.act {me : Nat} {l : List Wd} (h : Gok me l) {y : Ac} (hy : AcOk y) : Gok me (actL l me y) := by
  unfold actL
  split
  · exact h.gone y.P
  · exact h.tell y.P hy.u
theorem lim_act (l : List Wd) (me : Nat) (y : Ac) : lim l ≤ lim (actL l me y) := by
  unfold actL
  split
  · exact lim_gone l me y.P
  · exact lim_tell l y.P y.u

end Go.Proofs.Ytenaoinkjdaoeaa
