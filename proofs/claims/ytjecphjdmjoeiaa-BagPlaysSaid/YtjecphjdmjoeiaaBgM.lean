/- Acts: the arguments of BagKeeps and BagPlays opened, and what they are in memory. -/
import Derived.Test.YtjecphjdmjoeiaaBgL
namespace Go.Proofs.Ytjecphjdmjoeiaa
open Go.ChangeShapes Go.WideShapes Go.ChangeAt Go.RowKit

/-- An act: its kind, its bytes (the slice that has them, and what they are), a place, a bit, bits. -/
structure Ac where
  k : Int
  A : Option Addr
  c : Nat
  b : List UInt8
  i : Int
  p : Int
  s : Int

instance : Inhabited Ac := ⟨⟨0, none, 0, [], 0, 0, 0⟩⟩

def encAc (x : Ac) : List Value := [.int .i64 x.k, .slice x.A x.b.length x.c, .int .i64 x.i, .int .i64 x.p, .int .u32 x.s]
theorem encAc_len (x : Ac) : (encAc x).length = 5 := rfl

/-- Its numbers are numbers of their kinds; its bytes lie below block B. -/
structure AcOk (w : World) (B : Nat) (x : Ac) : Prop where
  k : -9223372036854775808 ≤ x.k ∧ x.k ≤ 9223372036854775807
  i : -9223372036854775808 ≤ x.i ∧ x.i ≤ 9223372036854775807
  p : -9223372036854775808 ≤ x.p ∧ x.p ≤ 9223372036854775807
  s : 0 ≤ x.s ∧ x.s < 4294967296
  n : x.b.length ≤ x.c
  c : x.c ≤ maxLen
  l : Lies w B x.A (bvs x.b)

theorem AcOk.on {w w' : World} {B : Nat} {x : Ac} (h : AcOk w B x) (hb : Below B w w') : AcOk w' B x := ⟨h.k, h.i, h.p, h.s, h.n, h.c, h.l.below hb⟩

section
variable {H : Type} {enc : TypeId × Value → H} {w : World} {base : Nat} {spare : Nat → Bool} {held : Bool}

theorem open_act {fuel : Nat} {cs : List Value} {x : DataW H × List MemPlace} (hlen : cs.length = 5) (h : DataW.trod enc Try.prog w base spare held fuel 33 cs = some x) :
    ∃ y : Ac, cs = encAc y ∧ AcOk w w.heap.size y := by
  have hI : Try.prog.cellsOf 3 = 1 := by kernel_rfl
  have hB : Try.prog.cellsOf 30 = 1 := by kernel_rfl
  have hU : Try.prog.cellsOf 31 = 1 := by kernel_rfl
  have h8 : Try.prog.cellsOf 5 = 1 := by kernel_rfl
  match cs, hlen with
  | [c0, c1, c2, c3, c4], _ =>
    obtain ⟨xs, n, -, -, -, hxl, hfs⟩ := DataW.trod_struct Try.underlying33 h
    have hx : ∀ i, i < 5 → ∃ y, xs[i]? = some y := fun i hi => ⟨_, List.getElem?_eq_getElem (by rw [hxl]; exact hi)⟩
    obtain ⟨y0, e0⟩ := hx 0 (by decide)
    obtain ⟨y1, e1⟩ := hx 1 (by decide)
    obtain ⟨y2, e2⟩ := hx 2 (by decide)
    obtain ⟨y3, e3⟩ := hx 3 (by decide)
    obtain ⟨y4, e4⟩ := hx 4 (by decide)
    have k0 : DataW.trod enc Try.prog w base spare held n 3 (List.take (Try.prog.cellsOf 3) (List.drop 0 [c0, c1, c2, c3, c4])) = some y0 := (hfs 0 _ rfl).trans e0
    have k1 : DataW.trod enc Try.prog w base spare held n 30 (List.take (Try.prog.cellsOf 30) (List.drop 1 [c0, c1, c2, c3, c4])) = some y1 := (hfs 1 _ rfl).trans e1
    have k2 : DataW.trod enc Try.prog w base spare held n 3 (List.take (Try.prog.cellsOf 3) (List.drop 2 [c0, c1, c2, c3, c4])) = some y2 := (hfs 2 _ rfl).trans e2
    have k3 : DataW.trod enc Try.prog w base spare held n 3 (List.take (Try.prog.cellsOf 3) (List.drop 3 [c0, c1, c2, c3, c4])) = some y3 := (hfs 3 _ rfl).trans e3
    have k4 : DataW.trod enc Try.prog w base spare held n 31 (List.take (Try.prog.cellsOf 31) (List.drop 4 [c0, c1, c2, c3, c4])) = some y4 := (hfs 4 _ rfl).trans e4
    simp only [hI, hB, hU, List.drop_succ_cons, List.drop_zero, List.take_succ_cons, List.take_zero] at k0 k1 k2 k3 k4
    obtain ⟨r0, q0, _, w0⟩ := DataW.trod_int Try.underlying3 k0
    obtain ⟨r2, q2, _, w2⟩ := DataW.trod_int Try.underlying3 k2
    obtain ⟨r3, q3, _, w3⟩ := DataW.trod_int Try.underlying3 k3
    obtain ⟨r4, q4, _, w4⟩ := DataW.trod_int Try.underlying31 k4
    simp at q0 q2 q3 q4
    subst q0 q2 q3 q4
    obtain ⟨l, A, n1, c1', rfl, hl, hc, hm, hL⟩ : ∃ l A n c, c1 = .slice A n c ∧ l.length = n ∧ n ≤ c ∧ c ≤ maxLen ∧ Lies w w.heap.size A (bvs l) := by
      obtain ⟨l, hl⟩ := open_bytes Try.underlying30 Try.underlying5 h8 k1
      exact ⟨l, hl⟩
    subst hl
    have b4 := bounds_u32 w4
    exact ⟨⟨r0, A, c1', l, r2, r3, r4⟩, rfl, bounds_i64 w0, bounds_i64 w2, bounds_i64 w3, ⟨by show 0 ≤ r4; omega, by show r4 < _; omega⟩, hc, hm, hL⟩

theorem open_acts {fuel : Nat} {v : Value} {x : DataW H × List MemPlace} (h : DataW.trod enc Try.prog w base spare held fuel 22 [v] = some x) :
    ∃ l A n c, v = .slice A n c ∧ l.length = n ∧ n ≤ c ∧ c ≤ maxLen ∧ Lies w w.heap.size A (flat encAc l) ∧ ∀ y ∈ l, AcOk w w.heap.size y := by
  rcases Deep.open_slice Try.underlying22 h with ⟨hcs, _⟩ | ⟨a, len, cap, m, n, D, Pl, hcs, _, hl, hm, hmm, _, hx⟩
  · injection hcs with hcs
    subst hcs
    exact ⟨[], none, 0, 0, rfl, rfl, Nat.le_refl _, Nat.zero_le _, Lies.nil, by simp⟩
  · injection hcs with hcs
    subst hcs
    have hlm : len ≤ m := by rw [hmm]; split <;> omega
    have hc5 : Try.prog.cellsOf 33 = 5 := by kernel_rfl
    have key : ∀ i, i < len → ∃ y : Ac, (∀ j u, (encAc y)[j]? = some u → w.cell? ((a.add (i * 5)).add j) = some u) ∧ AcOk w w.heap.size y := by
      intro i hi
      obtain ⟨cs', h1, h2⟩ := hx i (by omega)
      rw [hc5] at h1
      obtain ⟨_, hlen, hcell⟩ := World.cells?_some h1
      obtain ⟨y, rfl, hy⟩ := open_act hlen h2
      refine ⟨y, fun j u hu => ?_, hy⟩
      have hj : j < 5 := by
        have := (List.getElem?_eq_some_iff.1 hu).1
        rw [encAc_len] at this
        exact this
      have := hcell j (by omega)
      rw [this]
      exact hu
    obtain ⟨Y, hY⟩ := Deep.choose_lt (α := Ac) (n := len) key
    refine ⟨(List.range len).map Y, some a, len, cap, rfl, by simp, hl, hm, ?_, ?_⟩
    · intro hn
      have hp : 0 < len := by
        rcases Nat.eq_zero_or_pos len with h0 | h0
        · subst h0; simp [flat] at hn
        · exact h0
      have h0 := (hY 0 hp).1 0 _ rfl
      obtain ⟨b, off, spot⟩ := a
      have hspot : spot = none := by simpa [Addr.add] using World.cell?_spot h0
      subst hspot
      refine ⟨b, off, rfl, ?_, fun i u hu => ?_⟩
      · have := World.block_lt_of_cell? w _ h0
        rwa [Go.Proofs.Ytjecphjdmjoeiaa.add_plain, Go.Proofs.Ytjecphjdmjoeiaa.add_plain] at this
      · have hil : i < ((List.range len).map Y).length * 5 := by
          have := (List.getElem?_eq_some_iff.1 hu).1
          rw [flat_length encAc_len] at this
          exact this
        have hi5 : i / 5 < ((List.range len).map Y).length := by omega
        have hfa := flat_at encAc_len ((List.range len).map Y) (i / 5) (i % 5) (Nat.mod_lt _ (by decide)) hi5
        rw [show i / 5 * 5 + i % 5 = i by omega, hu] at hfa
        have hlt : i / 5 < len := by simpa using hi5
        have e : ((List.range len).map Y)[i / 5] = Y (i / 5) := by simp
        rw [e] at hfa
        have := (hY (i / 5) hlt).1 (i % 5) u hfa.symm
        rw [Go.Proofs.Ytjecphjdmjoeiaa.add_plain, Go.Proofs.Ytjecphjdmjoeiaa.add_plain] at this
        rwa [show off + i / 5 * 5 + i % 5 = off + i by omega] at this
    · intro y hy
      obtain ⟨i, hi, rfl⟩ := List.mem_map.1 hy
      exact (hY i (by simpa using hi)).2
end

/-- The cells of the act at place q. -/
theorem acts_at {w : World} {B : Nat} {A : Option Addr} {l : List Ac} (h : Lies w B A (flat encAc l)) {q : Nat} (hq : q < l.length) :
    ∃ b off, A = some ⟨b, off, none⟩ ∧ b < B ∧ w.cell? ⟨b, off + q * 5, none⟩ = some (.int .i64 l[q].k) ∧ w.cell? ⟨b, off + q * 5 + 1, none⟩ = some (.slice l[q].A l[q].b.length l[q].c) ∧
      w.cell? ⟨b, off + q * 5 + 2, none⟩ = some (.int .i64 l[q].i) ∧ w.cell? ⟨b, off + q * 5 + 3, none⟩ = some (.int .i64 l[q].p) ∧ w.cell? ⟨b, off + q * 5 + 4, none⟩ = some (.int .u32 l[q].s) := by
  have hn : flat encAc l ≠ [] := by
    intro h0
    have := flat_length encAc_len l
    rw [h0] at this
    simp at this
    omega
  obtain ⟨b, off, rfl, hb, hc⟩ := h hn
  have hf := fun j hj => flat_at encAc_len l q j hj hq
  refine ⟨b, off, rfl, hb, hc _ _ (hf 0 (by decide)), ?_, ?_, ?_, ?_⟩
  · have := hc (q * 5 + 1) _ (hf 1 (by decide)); rwa [← Nat.add_assoc] at this
  · have := hc (q * 5 + 2) _ (hf 2 (by decide)); rwa [← Nat.add_assoc] at this
  · have := hc (q * 5 + 3) _ (hf 3 (by decide)); rwa [← Nat.add_assoc] at this
  · have := hc (q * 5 + 4) _ (hf 4 (by decide)); rwa [← Nat.add_assoc] at this

end Go.Proofs.Ytjecphjdmjoeiaa
