/- Stage 14: the acts opened. -/
import Derived.Test.YtnpdjlcekmpmoaaSoR
set_option maxRecDepth 20000
namespace Go.Proofs.Ytnpdjlcekmpmoaa
open Go.ChangeShapes Go.WideShapes Go.ChangeAt Go.RowKit

/-- An act: its kind, its id, its bytes and its numbers (the slices that have them, and what they are). -/
structure Sa where
  k : Int
  x : Id
  A : Option Addr
  c : Nat
  b : List UInt8
  A2 : Option Addr
  c2 : Nat
  u : List Nat

instance : Inhabited Sa := ⟨⟨0, default, none, 0, [], none, 0, []⟩⟩

def encSa (y : Sa) : List Value := [.int .i64 y.k, .int .u8 (y.x.f : Int), .int .u64 (y.x.s : Int), .slice y.A y.b.length y.c, .slice y.A2 y.u.length y.c2]
theorem encSa_len (x : Sa) : (encSa x).length = 5 := rfl

/-- Its slices lie below block B. -/
structure SaOk (w : World) (B : Nat) (y : Sa) : Prop where
  k : -9223372036854775808 ≤ y.k ∧ y.k ≤ 9223372036854775807
  n : y.b.length ≤ y.c
  c : y.c ≤ maxLen
  l : Lies w B y.A (bvs y.b)
  n2 : y.u.length ≤ y.c2
  c2 : y.c2 ≤ maxLen
  l2 : Lies w B y.A2 (uvs y.u)

theorem SaOk.on {w w' : World} {B : Nat} {x : Sa} (h : SaOk w B x) (hb : Below B w w') : SaOk w' B x := ⟨h.k, h.n, h.c, h.l.below hb, h.n2, h.c2, h.l2.below hb⟩

section
variable {H : Type} {enc : TypeId × Value → H} {w : World} {base : Nat} {spare : Nat → Bool} {held : Bool}

theorem open_idc {fuel : Nat} {c0 c1 : Value} {x : DataW H × List MemPlace} (h : DataW.trod enc Try.prog w base spare held fuel 33 [c0, c1] = some x) : ∃ y : Id, c0 = .int .u8 (y.f : Int) ∧ c1 = .int .u64 (y.s : Int) := by
  have hcb : Try.prog.cellsOf 5 = 1 := by kernel_rfl
  have hcu : Try.prog.cellsOf 31 = 1 := by kernel_rfl
  obtain ⟨y0, y1, n', _, _, t0, t1⟩ := trod_struct2 Try.underlying33 h
  simp only [hcb, hcu] at t0 t1
  obtain ⟨r0, e0, _, w0⟩ := DataW.trod_int Try.underlying5 t0
  obtain ⟨r1, e1, _, w1⟩ := DataW.trod_int Try.underlying31 t1
  simp at e0 e1
  subst e0 e1
  have b0 := bounds_u8 w0
  have b1 := bounds_u64 w1
  refine ⟨⟨r0.toNat, r1.toNat, by omega, by omega⟩, ?_, ?_⟩
  · rw [Int.toNat_of_nonneg b0.1]
  · rw [Int.toNat_of_nonneg b1.1]

theorem open_act {fuel : Nat} {cs : List Value} {x : DataW H × List MemPlace} (hlen : cs.length = 5) (h : DataW.trod enc Try.prog w base spare held fuel 36 cs = some x) :
    ∃ y : Sa, cs = encSa y ∧ SaOk w w.heap.size y := by
  have hI : Try.prog.cellsOf 3 = 1 := by kernel_rfl
  have hD : Try.prog.cellsOf 33 = 2 := by kernel_rfl
  have hB : Try.prog.cellsOf 34 = 1 := by kernel_rfl
  have hU : Try.prog.cellsOf 27 = 1 := by kernel_rfl
  have h8 : Try.prog.cellsOf 5 = 1 := by kernel_rfl
  have h64 : Try.prog.cellsOf 31 = 1 := by kernel_rfl
  match cs, hlen with
  | [c0, c1, c2, c3, c4], _ =>
    obtain ⟨xs, n, -, -, -, hxl, hfs⟩ := DataW.trod_struct Try.underlying36 h
    have hx : ∀ i, i < 4 → ∃ y, xs[i]? = some y := fun i hi => ⟨_, List.getElem?_eq_getElem (by rw [hxl]; exact hi)⟩
    obtain ⟨y0, e0⟩ := hx 0 (by decide)
    obtain ⟨y1, e1⟩ := hx 1 (by decide)
    obtain ⟨y2, e2⟩ := hx 2 (by decide)
    obtain ⟨y3, e3⟩ := hx 3 (by decide)
    have k0 : DataW.trod enc Try.prog w base spare held n 3 (List.take (Try.prog.cellsOf 3) (List.drop 0 [c0, c1, c2, c3, c4])) = some y0 := (hfs 0 _ rfl).trans e0
    have k1 : DataW.trod enc Try.prog w base spare held n 33 (List.take (Try.prog.cellsOf 33) (List.drop 1 [c0, c1, c2, c3, c4])) = some y1 := (hfs 1 _ rfl).trans e1
    have k2 : DataW.trod enc Try.prog w base spare held n 34 (List.take (Try.prog.cellsOf 34) (List.drop 3 [c0, c1, c2, c3, c4])) = some y2 := (hfs 2 _ rfl).trans e2
    have k3 : DataW.trod enc Try.prog w base spare held n 27 (List.take (Try.prog.cellsOf 27) (List.drop 4 [c0, c1, c2, c3, c4])) = some y3 := (hfs 3 _ rfl).trans e3
    simp only [hI, hD, hB, hU, List.drop_succ_cons, List.drop_zero, List.take_succ_cons, List.take_zero] at k0 k1 k2 k3
    obtain ⟨r0, q0, _, w0⟩ := DataW.trod_int Try.underlying3 k0
    simp at q0
    subst q0
    obtain ⟨y, rfl, rfl⟩ := open_idc k1
    obtain ⟨l, A, n1, c1', rfl, hl, hc, hm, hL⟩ : ∃ l A n c, c3 = .slice A n c ∧ l.length = n ∧ n ≤ c ∧ c ≤ maxLen ∧ Lies w w.heap.size A (bvs l) := by
      obtain ⟨l, hl⟩ := open_bytes Try.underlying34 Try.underlying5 h8 k2
      exact ⟨l, hl⟩
    obtain ⟨l2, A2, n2, c2', rfl, hl2, hc2, hm2, hL2, -⟩ := open_nums Try.underlying27 Try.underlying31 h64 k3
    subst hl hl2
    exact ⟨⟨r0, y, A, c1', l, A2, c2', l2⟩, rfl, bounds_i64 w0, hc, hm, hL, hc2, hm2, hL2⟩

theorem open_acts {fuel : Nat} {v : Value} {x : DataW H × List MemPlace} (h : DataW.trod enc Try.prog w base spare held fuel 22 [v] = some x) :
    ∃ l A n c, v = .slice A n c ∧ l.length = n ∧ n ≤ c ∧ c ≤ maxLen ∧ Lies w w.heap.size A (flat encSa l) ∧ ∀ y ∈ l, SaOk w w.heap.size y := by
  rcases Deep.open_slice Try.underlying22 h with ⟨hcs, _⟩ | ⟨a, len, cap, m, n, D, Pl, hcs, _, hl, hm, hmm, _, hx⟩
  · injection hcs with hcs
    subst hcs
    exact ⟨[], none, 0, 0, rfl, rfl, Nat.le_refl _, Nat.zero_le _, Lies.nil, by simp⟩
  · injection hcs with hcs
    subst hcs
    have hlm : len ≤ m := by rw [hmm]; split <;> omega
    have hc5 : Try.prog.cellsOf 36 = 5 := by kernel_rfl
    have key : ∀ i, i < len → ∃ y : Sa, (∀ j u, (encSa y)[j]? = some u → w.cell? ((a.add (i * 5)).add j) = some u) ∧ SaOk w w.heap.size y := by
      intro i hi
      obtain ⟨cs', h1, h2⟩ := hx i (by omega)
      rw [hc5] at h1
      obtain ⟨_, hlen, hcell⟩ := World.cells?_some h1
      obtain ⟨y, rfl, hy⟩ := open_act hlen h2
      refine ⟨y, fun j u hu => ?_, hy⟩
      have hj : j < 5 := by
        have := (List.getElem?_eq_some_iff.1 hu).1
        rw [encSa_len] at this
        exact this
      have := hcell j (by omega)
      rw [this]
      exact hu
    obtain ⟨Y, hY⟩ := Deep.choose_lt (α := Sa) (n := len) key
    refine ⟨(List.range len).map Y, some a, len, cap, rfl, by simp, hl, hm, ?_, ?_⟩
    · intro hn
      have hp : 0 < len := by
        rcases Nat.eq_zero_or_pos len with h0 | h0
        · subst h0; simp [flat] at hn
        · exact h0
      have h0 := (hY 0 hp).1 0 _ rfl
      obtain ⟨b, off, spot⟩ := a
      have hspot : spot = none := by simpa [Addr.add] using World.cell?_spot h0
      subst hspot
      refine ⟨b, off, rfl, ?_, fun i u hu => ?_⟩
      · have := World.block_lt_of_cell? w _ h0
        rwa [Go.Proofs.Ytnpdjlcekmpmoaa.add_plain, Go.Proofs.Ytnpdjlcekmpmoaa.add_plain] at this
      · have hil : i < ((List.range len).map Y).length * 5 := by
          have := (List.getElem?_eq_some_iff.1 hu).1
          rw [flat_length encSa_len] at this
          exact this
        have hi5 : i / 5 < ((List.range len).map Y).length := by omega
        have hfa := flat_at encSa_len ((List.range len).map Y) (i / 5) (i % 5) (Nat.mod_lt _ (by decide)) hi5
        rw [show i / 5 * 5 + i % 5 = i by omega, hu] at hfa
        have hlt : i / 5 < len := by simpa using hi5
        have e : ((List.range len).map Y)[i / 5] = Y (i / 5) := by simp
        rw [e] at hfa
        have := (hY (i / 5) hlt).1 (i % 5) u hfa.symm
        rw [Go.Proofs.Ytnpdjlcekmpmoaa.add_plain, Go.Proofs.Ytnpdjlcekmpmoaa.add_plain] at this
        rwa [show off + i / 5 * 5 + i % 5 = off + i by omega] at this
    · intro y hy
      obtain ⟨i, hi, rfl⟩ := List.mem_map.1 hy
      exact (hY i (by simpa using hi)).2
end


/-- The cells of the act at place q. -/
theorem acts_at {w : World} {B : Nat} {A : Option Addr} {l : List Sa} (h : Lies w B A (flat encSa l)) {q : Nat} (hq : q < l.length) :
    ∃ b off, A = some ⟨b, off, none⟩ ∧ b < B ∧ w.cell? ⟨b, off + q * 5, none⟩ = some (.int .i64 l[q].k) ∧ w.cell? ⟨b, off + q * 5 + 1, none⟩ = some (.int .u8 (l[q].x.f : Int)) ∧
      w.cell? ⟨b, off + q * 5 + 2, none⟩ = some (.int .u64 (l[q].x.s : Int)) ∧ w.cell? ⟨b, off + q * 5 + 3, none⟩ = some (.slice l[q].A l[q].b.length l[q].c) ∧ w.cell? ⟨b, off + q * 5 + 4, none⟩ = some (.slice l[q].A2 l[q].u.length l[q].c2) := by
  have hn : flat encSa l ≠ [] := by
    intro h0
    have := flat_length encSa_len l
    rw [h0] at this
    simp at this
    omega
  obtain ⟨b, off, rfl, hb, hc⟩ := h hn
  have hf := fun j hj => flat_at encSa_len l q j hj hq
  refine ⟨b, off, rfl, hb, hc _ _ (hf 0 (by decide)), ?_, ?_, ?_, ?_⟩
  · have := hc (q * 5 + 1) _ (hf 1 (by decide)); rwa [← Nat.add_assoc] at this
  · have := hc (q * 5 + 2) _ (hf 2 (by decide)); rwa [← Nat.add_assoc] at this
  · have := hc (q * 5 + 3) _ (hf 3 (by decide)); rwa [← Nat.add_assoc] at this
  · have := hc (q * 5 + 4) _ (hf 4 (by decide)); rwa [← Nat.add_assoc] at this

end Go.Proofs.Ytnpdjlcekmpmoaa
