/- A frame that is handed in: opened (picked). -/
import Derived.Test.YtmnjedpnhilndaaSlB
import Derived.Deep.Strs
import Derived.Lib.SmallJoins
namespace Go.Proofs.Ytmnjedpnhilndaa
open Go.RowKit Go.Sort Go.ChangeShapes Go.WideShapes Go.ChangeAt

section
variable {H : Type} {enc : TypeId × Value → H} {w : World} {base : Nat} {spare : Nat → Bool} {held : Bool}

theorem flat_range {α : Type} [Inhabited α] {en : α → List Value} {k : Nat} (hk : ∀ x, (en x).length = k) (hk0 : 0 < k) {Y : Nat → α} {n t : Nat} {u : Value} (h : (flat en ((List.range n).map Y))[t]? = some u) : t / k < n ∧ (en (Y (t / k)))[t % k]? = some u := by
  have hlt := (List.getElem?_eq_some_iff.1 h).1
  rw [flat_length hk] at hlt
  simp only [List.length_map, List.length_range] at hlt
  have hi : t / k < n := Nat.div_lt_of_lt_mul (by rwa [Nat.mul_comm] at hlt)
  refine ⟨hi, ?_⟩
  have := flat_at hk ((List.range n).map Y) (t / k) (t % k) (Nat.mod_lt _ hk0) (by simpa using hi)
  rw [show t / k * k + t % k = t by rw [Nat.mul_comm]; exact Nat.div_add_mod t k, h] at this
  simpa using this.symm

set_option maxRecDepth 100000 in
theorem open_rns {fuel : Nat} {v : Value} {x : DataW H × List MemPlace} (h : DataW.trod enc Try.prog w base spare held fuel 36 [v] = some x) :
    ∃ A n c, ∃ l : List Rn, v = .slice A n c ∧ l.length = n ∧ n ≤ c ∧ c ≤ maxLen ∧ Lies w w.heap.size A (flat encRn l) := by
  rcases Deep.open_slice Try.underlying36 h with ⟨hcs, _⟩ | ⟨a, len, cap, m, n, D, Pl, hcs, _, hl, hm, hmm, _, hx⟩
  · injection hcs with hcs
    subst hcs
    exact ⟨none, 0, 0, [], rfl, rfl, Nat.le_refl _, Nat.zero_le _, Lies.nil⟩
  · injection hcs with hcs
    subst hcs
    have hlm : len ≤ m := by rw [hmm]; split <;> omega
    have hc2 : Try.prog.cellsOf 84 = 3 := by kernel_rfl
    have hcb : Try.prog.cellsOf 5 = 1 := by kernel_rfl
    have hcu : Try.prog.cellsOf 32 = 1 := by kernel_rfl
    have key : ∀ i, i < len → ∃ y : Rn, w.cell? (a.add (i * 3)) = some (.int .u8 (y.f : Int)) ∧ w.cell? ((a.add (i * 3)).add 1) = some (.int .u64 (y.a : Int)) ∧ w.cell? ((a.add (i * 3)).add 2) = some (.int .u64 (y.c : Int)) := by
      intro i hi
      obtain ⟨cs', h1, h2⟩ := hx i (by omega)
      rw [hc2] at h1
      obtain ⟨_, hlen, hcell⟩ := World.cells?_some h1
      obtain ⟨y0, y1, y2, n', _, _, t0, t1, t2⟩ := Deep.trod_struct3 Try.underlying84 h2
      match cs', hlen with
      | [c0, c1, c2], _ =>
        simp only [hcb, hcu] at t0 t1 t2
        obtain ⟨r0, e0, _, w0⟩ := DataW.trod_int Try.underlying5 t0
        obtain ⟨r1, e1, _, w1⟩ := DataW.trod_int Try.underlying32 t1
        obtain ⟨r2, e2, _, w2⟩ := DataW.trod_int Try.underlying32 t2
        simp at e0 e1 e2
        subst e0 e1 e2
        have b0 := bounds_u8 w0
        have b1 := bounds_u64 w1
        have b2 := bounds_u64 w2
        refine ⟨⟨r0.toNat, r1.toNat, r2.toNat, by omega, by omega, by omega⟩, ?_, ?_, ?_⟩
        · have := hcell 0 (by omega)
          rw [Int.toNat_of_nonneg b0.1]
          simpa [Addr.add] using this
        · have := hcell 1 (by omega)
          rw [Int.toNat_of_nonneg b1.1]
          simpa using this
        · have := hcell 2 (by omega)
          rw [Int.toNat_of_nonneg b2.1]
          simpa using this
    obtain ⟨Y, hY⟩ := Deep.choose_lt (α := Rn) (n := len) key
    refine ⟨some a, len, cap, (List.range len).map Y, rfl, by simp, hl, hm, fun hn => ?_⟩
    have hp : 0 < len := by
      rcases Nat.eq_zero_or_pos len with h0 | h0
      · subst h0; simp [flat] at hn
      · exact h0
    have h0 := (hY 0 hp).1
    obtain ⟨b, off, spot⟩ := a
    have hspot : spot = none := by simpa [Addr.add] using World.cell?_spot h0
    subst hspot
    refine ⟨b, off, rfl, ?_, fun t u hu => ?_⟩
    · have := World.block_lt_of_cell? w _ h0
      rwa [Go.Proofs.Ytmnjedpnhilndaa.add_plain] at this
    · obtain ⟨hi, hu'⟩ := flat_range encRn_len (by decide) hu
      obtain ⟨k0, k1, k2⟩ := hY _ hi
      simp only [Go.Proofs.Ytmnjedpnhilndaa.add_plain] at k0 k1 k2
      have ht : t / 3 * 3 + t % 3 = t := by omega
      have h2 : t % 3 < 3 := Nat.mod_lt _ (by decide)
      generalize t / 3 = i at *
      generalize t % 3 = j at *
      match j, h2 with
      | 0, _ => simp [encRn] at hu'; rw [← ht, ← hu', Nat.add_zero]; exact k0
      | 1, _ => simp [encRn] at hu'; rw [← ht, ← hu', ← Nat.add_assoc]; exact k1
      | 2, _ => simp [encRn] at hu'; rw [← ht, ← hu', ← Nat.add_assoc]; exact k2

theorem one_u8 {n : Nat} {v : Value} {x : DataW H × List MemPlace} (h : DataW.trod enc Try.prog w base spare held n 5 [v] = some x) : ∃ k : Nat, v = .int .u8 (k : Int) ∧ k < 256 := by
  obtain ⟨r0, e0, _, w0⟩ := DataW.trod_int Try.underlying5 h
  injection e0 with e0
  have b0 := bounds_u8 w0
  exact ⟨r0.toNat, by rw [e0, Int.toNat_of_nonneg b0.1], by omega⟩

theorem one_u32 {n : Nat} {v : Value} {x : DataW H × List MemPlace} (h : DataW.trod enc Try.prog w base spare held n 35 [v] = some x) : ∃ k : Nat, v = .int .u32 (k : Int) ∧ k < 4294967296 := by
  obtain ⟨r0, e0, _, w0⟩ := DataW.trod_int Try.underlying35 h
  injection e0 with e0
  have b0 := bounds_u32 w0
  exact ⟨r0.toNat, by rw [e0, Int.toNat_of_nonneg b0.1], by omega⟩

theorem one_u64 {n : Nat} {v : Value} {x : DataW H × List MemPlace} (h : DataW.trod enc Try.prog w base spare held n 32 [v] = some x) : ∃ k : Nat, v = .int .u64 (k : Int) ∧ k < 18446744073709551616 := by
  obtain ⟨r0, e0, _, w0⟩ := DataW.trod_int Try.underlying32 h
  injection e0 with e0
  have b0 := bounds_u64 w0
  exact ⟨r0.toNat, by rw [e0, Int.toNat_of_nonneg b0.1], by omega⟩

theorem sl_of {A : Option Addr} {n c : Nat} {xs : List Value} (h1 : n ≤ c) (h2 : c ≤ maxLen) (h : Lies w w.heap.size A xs) : Sl w (fun _ => False) (.slice A n c) n xs :=
  ⟨A, c, rfl, h1, h2, fun hn => by
    obtain ⟨b, off, e, hb, hc⟩ := h hn
    exact ⟨b, off, e, hb, fun h => h, hc⟩⟩

/-- What a frame that is handed in is: its numbers are numbers of their kinds. -/
structure Fr.Wf (F : Fr) : Prop where
  kind : F.kind < 256
  src : F.src < 256
  dst : F.dst < 256
  seq : F.seq < 18446744073709551616
  at_ : F.at_ < 4294967296
  of_ : F.of_ < 4294967296
  size : F.size < 4294967296
  inst : F.inst < 18446744073709551616
  rnd : F.rnd < 18446744073709551616
  doneN : ∀ x ∈ F.done, x < 18446744073709551616
  heldN : ∀ x ∈ F.held, x < 18446744073709551616

theorem len16 {cs : Array Value} (h : cs.size = 16) : ∃ c0 c1 c2 c3 c4 c5 c6 c7 c8 c9 c10 c11 c12 c13 c14 c15, cs = #[c0, c1, c2, c3, c4, c5, c6, c7, c8, c9, c10, c11, c12, c13, c14, c15] := by
  obtain ⟨l⟩ := cs
  match l, h with
  | [c0, c1, c2, c3, c4, c5, c6, c7, c8, c9, c10, c11, c12, c13, c14, c15], _ => exact ⟨c0, c1, c2, c3, c4, c5, c6, c7, c8, c9, c10, c11, c12, c13, c14, c15, rfl⟩

set_option maxRecDepth 10000 in
theorem open_frame {r : Reach} {b0 : Nat} {v : Value} {d : DataW H} {p : List MemPlace} (hv : Value.okWide Try.prog w r b0 40 v) (h : DataW.Trod enc Try.prog w base spare held 40 v d p) :
    ∃ F cs, v = .agg cs ∧ FrV w (fun _ => False) F cs ∧ F.Wf := by
  have hC : Try.prog.cellsOf 40 = 16 := by kernel_rfl
  have hH : Try.prog.cellsOf 31 = 3 := by kernel_rfl
  have hI : Try.prog.cellsOf 34 = 2 := by kernel_rfl
  have h8 : Try.prog.cellsOf 5 = 1 := by kernel_rfl
  have h64 : Try.prog.cellsOf 32 = 1 := by kernel_rfl
  have h32 : Try.prog.cellsOf 35 = 1 := by kernel_rfl
  have hE : Try.prog.cellsOf 36 = 1 := by kernel_rfl
  have hU : Try.prog.cellsOf 37 = 1 := by kernel_rfl
  have hD : Try.prog.cellsOf 38 = 1 := by kernel_rfl
  obtain ⟨cs, rfl, hsz⟩ := okWide_struct Try.underlying40 hv
  obtain ⟨c0, c1, c2, c3, c4, c5, c6, c7, c8, c9, c10, c11, c12, c13, c14, c15, rfl⟩ := len16 (hsz.trans hC)
  obtain ⟨fuel, hf⟩ := h
  have hf' : DataW.trod enc Try.prog w base spare held fuel 40 [c0, c1, c2, c3, c4, c5, c6, c7, c8, c9, c10, c11, c12, c13, c14, c15] = some (d, p) := by simpa [Value.cells] using hf
  obtain ⟨xs, n, -, -, -, hxl, hfs⟩ := DataW.trod_struct Try.underlying40 hf'
  have hx : ∀ i, i < 13 → ∃ y, xs[i]? = some y := fun i hi => ⟨_, List.getElem?_eq_getElem (by rw [hxl]; exact hi)⟩
  obtain ⟨y0, e0⟩ := hx 0 (by decide)
  obtain ⟨y1, e1⟩ := hx 1 (by decide)
  obtain ⟨y2, e2⟩ := hx 2 (by decide)
  obtain ⟨y3, e3⟩ := hx 3 (by decide)
  obtain ⟨y4, e4⟩ := hx 4 (by decide)
  obtain ⟨y5, e5⟩ := hx 5 (by decide)
  obtain ⟨y6, e6⟩ := hx 6 (by decide)
  obtain ⟨y7, e7⟩ := hx 7 (by decide)
  obtain ⟨y8, e8⟩ := hx 8 (by decide)
  obtain ⟨y9, e9⟩ := hx 9 (by decide)
  obtain ⟨y10, e10⟩ := hx 10 (by decide)
  obtain ⟨y11, e11⟩ := hx 11 (by decide)
  obtain ⟨y12, e12⟩ := hx 12 (by decide)
  have k0 : DataW.trod enc Try.prog w base spare held n 31 (List.take (Try.prog.cellsOf 31) (List.drop 0 [c0, c1, c2, c3, c4, c5, c6, c7, c8, c9, c10, c11, c12, c13, c14, c15])) = some y0 := (hfs 0 _ rfl).trans e0
  have k1 : DataW.trod enc Try.prog w base spare held n 34 (List.take (Try.prog.cellsOf 34) (List.drop 3 [c0, c1, c2, c3, c4, c5, c6, c7, c8, c9, c10, c11, c12, c13, c14, c15])) = some y1 := (hfs 1 _ rfl).trans e1
  have k2 : DataW.trod enc Try.prog w base spare held n 32 (List.take (Try.prog.cellsOf 32) (List.drop 5 [c0, c1, c2, c3, c4, c5, c6, c7, c8, c9, c10, c11, c12, c13, c14, c15])) = some y2 := (hfs 2 _ rfl).trans e2
  have k3 : DataW.trod enc Try.prog w base spare held n 35 (List.take (Try.prog.cellsOf 35) (List.drop 6 [c0, c1, c2, c3, c4, c5, c6, c7, c8, c9, c10, c11, c12, c13, c14, c15])) = some y3 := (hfs 3 _ rfl).trans e3
  have k4 : DataW.trod enc Try.prog w base spare held n 35 (List.take (Try.prog.cellsOf 35) (List.drop 7 [c0, c1, c2, c3, c4, c5, c6, c7, c8, c9, c10, c11, c12, c13, c14, c15])) = some y4 := (hfs 4 _ rfl).trans e4
  have k5 : DataW.trod enc Try.prog w base spare held n 35 (List.take (Try.prog.cellsOf 35) (List.drop 8 [c0, c1, c2, c3, c4, c5, c6, c7, c8, c9, c10, c11, c12, c13, c14, c15])) = some y5 := (hfs 5 _ rfl).trans e5
  have k6 : DataW.trod enc Try.prog w base spare held n 32 (List.take (Try.prog.cellsOf 32) (List.drop 9 [c0, c1, c2, c3, c4, c5, c6, c7, c8, c9, c10, c11, c12, c13, c14, c15])) = some y6 := (hfs 6 _ rfl).trans e6
  have k7 : DataW.trod enc Try.prog w base spare held n 32 (List.take (Try.prog.cellsOf 32) (List.drop 10 [c0, c1, c2, c3, c4, c5, c6, c7, c8, c9, c10, c11, c12, c13, c14, c15])) = some y7 := (hfs 7 _ rfl).trans e7
  have k8 : DataW.trod enc Try.prog w base spare held n 36 (List.take (Try.prog.cellsOf 36) (List.drop 11 [c0, c1, c2, c3, c4, c5, c6, c7, c8, c9, c10, c11, c12, c13, c14, c15])) = some y8 := (hfs 8 _ rfl).trans e8
  have k9 : DataW.trod enc Try.prog w base spare held n 36 (List.take (Try.prog.cellsOf 36) (List.drop 12 [c0, c1, c2, c3, c4, c5, c6, c7, c8, c9, c10, c11, c12, c13, c14, c15])) = some y9 := (hfs 9 _ rfl).trans e9
  have k10 : DataW.trod enc Try.prog w base spare held n 37 (List.take (Try.prog.cellsOf 37) (List.drop 13 [c0, c1, c2, c3, c4, c5, c6, c7, c8, c9, c10, c11, c12, c13, c14, c15])) = some y10 := (hfs 10 _ rfl).trans e10
  have k11 : DataW.trod enc Try.prog w base spare held n 37 (List.take (Try.prog.cellsOf 37) (List.drop 14 [c0, c1, c2, c3, c4, c5, c6, c7, c8, c9, c10, c11, c12, c13, c14, c15])) = some y11 := (hfs 11 _ rfl).trans e11
  have k12 : DataW.trod enc Try.prog w base spare held n 38 (List.take (Try.prog.cellsOf 38) (List.drop 15 [c0, c1, c2, c3, c4, c5, c6, c7, c8, c9, c10, c11, c12, c13, c14, c15])) = some y12 := (hfs 12 _ rfl).trans e12
  simp only [hH, hI, h64, h32, hE, hU, hD, List.drop_succ_cons, List.drop_zero, List.take_succ_cons, List.take_zero] at k0 k1 k2 k3 k4 k5 k6 k7 k8 k9 k10 k11 k12
  clear hfs hx e0 e1 e2 e3 e4 e5 e6 e7 e8 e9 e10 e11 e12
  obtain ⟨m0, m1, m2, n', _, _, t0, t1, t2⟩ := Deep.trod_struct3 Try.underlying31 k0
  simp only [h8, List.drop_succ_cons, List.drop_zero, List.take_succ_cons, List.take_zero] at t0 t1 t2
  obtain ⟨z0, rfl, b0⟩ := one_u8 t0
  obtain ⟨z1, rfl, b1⟩ := one_u8 t1
  obtain ⟨z2, rfl, b2⟩ := one_u8 t2
  obtain ⟨m3, m4, n'', _, _, t3, t4⟩ := trod_struct2 Try.underlying34 k1
  simp only [h8, h64, List.drop_succ_cons, List.drop_zero, List.take_succ_cons, List.take_zero] at t3 t4
  obtain ⟨z3, rfl, b3⟩ := one_u8 t3
  obtain ⟨z4, rfl, b4⟩ := one_u64 t4
  obtain ⟨z5, rfl, b5⟩ := one_u64 k2
  obtain ⟨z6, rfl, b6⟩ := one_u32 k3
  obtain ⟨z7, rfl, b7⟩ := one_u32 k4
  obtain ⟨z8, rfl, b8⟩ := one_u32 k5
  obtain ⟨z9, rfl, b9⟩ := one_u64 k6
  obtain ⟨z10, rfl, b10⟩ := one_u64 k7
  obtain ⟨Ae, ne, ce, le, rfl, hle, q1, q2, hLe⟩ := open_rns k8
  obtain ⟨Ax, nx, cx, lx, rfl, hlx, q3, q4, hLx⟩ := open_rns k9
  obtain ⟨ln, An, nn, cn, rfl, hln, q5, q6, hLn, hbn⟩ := open_nums Try.underlying37 Try.underlying32 h64 k10
  obtain ⟨lh, Ah, nh, ch, rfl, hlh, q7, q8, hLh, hbh⟩ := open_nums Try.underlying37 Try.underlying32 h64 k11
  obtain ⟨ld, Ad, nd, cd, rfl, hld, q9, q10, hLd⟩ := open_bytes Try.underlying38 Try.underlying5 h8 k12
  subst hle hlx hln hlh hld
  refine ⟨⟨z0, z1, z2, ⟨z3, z4, b3, b4⟩, z5, z6, z7, z8, z9, z10, le, lx, ln, lh, ld⟩, _, rfl, ⟨_, _, _, _, _, rfl, sl_of q1 q2 hLe, sl_of q3 q4 hLx, sl_of q5 q6 hLn, sl_of q7 q8 hLh, sl_of q9 q10 hLd⟩, ⟨b0, b1, b2, b5, b6, b7, b8, b9, b10, hbn, hbh⟩⟩

end

end Go.Proofs.Ytmnjedpnhilndaa
