/- Picks: the arguments of LinkRoom, LinkFifo and LinkAll opened. -/
import Derived.Test.YtbkkpimhoeagdaaLkH
namespace Go.Proofs.Ytbkkpimhoeagdaa
open Go.ChangeShapes Go.WideShapes Go.ChangeAt Go.RowKit Go.Sort
set_option maxRecDepth 20000

/-- A pick: how many are sent, a place, whether it stays, whether it is one that goes back, whether it is asked what goes out. -/
structure Pk where
  n : Nat
  i : Int
  st : Bool
  bk : Bool
  ak : Bool
instance : Inhabited Pk := ⟨⟨0, 0, false, false, false⟩⟩
def encPk (x : Pk) : List Value := [.int .u8 (x.n : Int), .int .i64 x.i, .bool x.st, .bool x.bk, .bool x.ak]
theorem encPk_len (x : Pk) : (encPk x).length = 5 := rfl
/-- Its numbers are numbers of their kinds. -/
structure PkOk (x : Pk) : Prop where
  n : x.n < 256
  i1 : -9223372036854775808 ≤ x.i
  i2 : x.i ≤ 9223372036854775807

section
variable {H : Type} {enc : TypeId × Value → H} {w : World} {base : Nat} {spare : Nat → Bool} {held : Bool}

theorem open_pick {fuel : Nat} {cs : List Value} {x : DataW H × List MemPlace} (hlen : cs.length = 5) (h : DataW.trod enc Try.prog w base spare held fuel 65 cs = some x) :
    ∃ y : Pk, cs = encPk y ∧ PkOk y := by
  have hI : Try.prog.cellsOf 3 = 1 := by kernel_rfl
  have hB : Try.prog.cellsOf 4 = 1 := by kernel_rfl
  have h8 : Try.prog.cellsOf 5 = 1 := by kernel_rfl
  match cs, hlen with
  | [c0, c1, c2, c3, c4], _ =>
    obtain ⟨xs, n, -, -, -, hxl, hfs⟩ := DataW.trod_struct Try.underlying65 h
    have hx : ∀ i, i < 5 → ∃ y, xs[i]? = some y := fun i hi => ⟨_, List.getElem?_eq_getElem (by rw [hxl]; exact hi)⟩
    obtain ⟨y0, e0⟩ := hx 0 (by decide)
    obtain ⟨y1, e1⟩ := hx 1 (by decide)
    obtain ⟨y2, e2⟩ := hx 2 (by decide)
    obtain ⟨y3, e3⟩ := hx 3 (by decide)
    obtain ⟨y4, e4⟩ := hx 4 (by decide)
    have k0 : DataW.trod enc Try.prog w base spare held n 5 (List.take (Try.prog.cellsOf 5) (List.drop 0 [c0, c1, c2, c3, c4])) = some y0 := (hfs 0 _ rfl).trans e0
    have k1 : DataW.trod enc Try.prog w base spare held n 3 (List.take (Try.prog.cellsOf 3) (List.drop 1 [c0, c1, c2, c3, c4])) = some y1 := (hfs 1 _ rfl).trans e1
    have k2 : DataW.trod enc Try.prog w base spare held n 4 (List.take (Try.prog.cellsOf 4) (List.drop 2 [c0, c1, c2, c3, c4])) = some y2 := (hfs 2 _ rfl).trans e2
    have k3 : DataW.trod enc Try.prog w base spare held n 4 (List.take (Try.prog.cellsOf 4) (List.drop 3 [c0, c1, c2, c3, c4])) = some y3 := (hfs 3 _ rfl).trans e3
    have k4 : DataW.trod enc Try.prog w base spare held n 4 (List.take (Try.prog.cellsOf 4) (List.drop 4 [c0, c1, c2, c3, c4])) = some y4 := (hfs 4 _ rfl).trans e4
    simp only [hI, hB, h8, List.drop_succ_cons, List.drop_zero, List.take_succ_cons, List.take_zero] at k0 k1 k2 k3 k4
    obtain ⟨r0, q0, _, w0⟩ := DataW.trod_int Try.underlying5 k0
    obtain ⟨r1, q1, _, w1⟩ := DataW.trod_int Try.underlying3 k1
    obtain ⟨b2, q2, -⟩ := DataW.trod_bool Try.underlying4 k2
    obtain ⟨b3, q3, -⟩ := DataW.trod_bool Try.underlying4 k3
    obtain ⟨b4, q4, -⟩ := DataW.trod_bool Try.underlying4 k4
    simp at q0 q1 q2 q3 q4
    subst q0 q1 q2 q3 q4
    have b0 := bounds_u8 w0
    have b1 := bounds_i64 w1
    obtain ⟨kk, rfl⟩ : ∃ k : Nat, r0 = (k : Int) := ⟨r0.toNat, by omega⟩
    exact ⟨⟨kk, r1, b2, b3, b4⟩, rfl, by show kk < 256; omega, b1.1, b1.2⟩

theorem open_picks {fuel : Nat} {v : Value} {x : DataW H × List MemPlace} (h : DataW.trod enc Try.prog w base spare held fuel 63 [v] = some x) :
    ∃ l A n c, v = .slice A n c ∧ l.length = n ∧ n ≤ c ∧ c ≤ maxLen ∧ Lies w w.heap.size A (flat encPk l) ∧ ∀ y ∈ l, PkOk y := by
  rcases Deep.open_slice Try.underlying63 h with ⟨hcs, _⟩ | ⟨a, len, cap, m, n, D, Pl, hcs, _, hl, hm, hmm, _, hx⟩
  · injection hcs with hcs
    subst hcs
    exact ⟨[], none, 0, 0, rfl, rfl, Nat.le_refl _, Nat.zero_le _, Lies.nil, by simp⟩
  · injection hcs with hcs
    subst hcs
    have hlm : len ≤ m := by rw [hmm]; split <;> omega
    have hc5 : Try.prog.cellsOf 65 = 5 := by kernel_rfl
    have key : ∀ i, i < len → ∃ y : Pk, (∀ j u, (encPk y)[j]? = some u → w.cell? ((a.add (i * 5)).add j) = some u) ∧ PkOk y := by
      intro i hi
      obtain ⟨cs', h1, h2⟩ := hx i (by omega)
      rw [hc5] at h1
      obtain ⟨_, hlen, hcell⟩ := World.cells?_some h1
      obtain ⟨y, rfl, hy⟩ := open_pick hlen h2
      refine ⟨y, fun j u hu => ?_, hy⟩
      have hj : j < 5 := by
        have := (List.getElem?_eq_some_iff.1 hu).1
        rw [encPk_len] at this
        exact this
      have := hcell j (by omega)
      rw [this]
      exact hu
    obtain ⟨Y, hY⟩ := Deep.choose_lt (α := Pk) (n := len) key
    refine ⟨(List.range len).map Y, some a, len, cap, rfl, by simp, hl, hm, ?_, ?_⟩
    · intro hn
      have hp : 0 < len := by
        rcases Nat.eq_zero_or_pos len with h0 | h0
        · subst h0; simp [flat] at hn
        · exact h0
      have h0 := (hY 0 hp).1 0 _ rfl
      obtain ⟨b, off, spot⟩ := a
      have hspot : spot = none := by simpa [Addr.add] using World.cell?_spot h0
      subst hspot
      refine ⟨b, off, rfl, ?_, fun i u hu => ?_⟩
      · have := World.block_lt_of_cell? w _ h0
        rwa [Go.Proofs.Ytbkkpimhoeagdaa.add_plain, Go.Proofs.Ytbkkpimhoeagdaa.add_plain] at this
      · have hil : i < ((List.range len).map Y).length * 5 := by
          have := (List.getElem?_eq_some_iff.1 hu).1
          rw [flat_length encPk_len] at this
          exact this
        have hi5 : i / 5 < ((List.range len).map Y).length := by omega
        have hfa := flat_at encPk_len ((List.range len).map Y) (i / 5) (i % 5) (Nat.mod_lt _ (by decide)) hi5
        rw [show i / 5 * 5 + i % 5 = i by omega, hu] at hfa
        have hlt : i / 5 < len := by simpa using hi5
        have e : ((List.range len).map Y)[i / 5] = Y (i / 5) := by simp
        rw [e] at hfa
        have := (hY (i / 5) hlt).1 (i % 5) u hfa.symm
        rw [Go.Proofs.Ytbkkpimhoeagdaa.add_plain, Go.Proofs.Ytbkkpimhoeagdaa.add_plain] at this
        rwa [show off + i / 5 * 5 + i % 5 = off + i by omega] at this
    · intro y hy
      obtain ⟨i, hi, rfl⟩ := List.mem_map.1 hy
      exact (hY i (by simpa using hi)).2
end

/-- The cells of the act at place q. -/
theorem pick_at {w : World} {B : Nat} {A : Option Addr} {l : List Pk} (h : Lies w B A (flat encPk l)) {q : Nat} (hq : q < l.length) :
    ∃ b off, A = some ⟨b, off, none⟩ ∧ b < B ∧ w.rangeAt b (off + q * 5) (encPk l[q]) := by
  have hn : flat encPk l ≠ [] := by
    intro h0
    have := flat_length encPk_len l
    rw [h0] at this
    simp at this
    omega
  obtain ⟨b, off, rfl, hb, hc⟩ := h hn
  refine ⟨b, off, rfl, hb, fun j v hv => ?_⟩
  have hj : j < 5 := by
    have := (List.getElem?_eq_some_iff.1 hv).1
    rwa [encPk_len] at this
  have := flat_at encPk_len l q j hj hq
  rw [hv] at this
  have h2 := hc (q * 5 + j) v this
  rwa [← Nat.add_assoc] at h2

end Go.Proofs.Ytbkkpimhoeagdaa
