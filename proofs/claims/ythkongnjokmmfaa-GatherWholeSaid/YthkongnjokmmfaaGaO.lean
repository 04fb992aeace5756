/- Stage 13: a list of frames that is handed in, opened. -/
import Derived.Test.YthkongnjokmmfaaGtI
import Derived.OpenShut
set_option maxRecDepth 20000
namespace Go.Proofs.Ythkongnjokmmfaa
open Go.ChangeShapes Go.WideShapes Go.ChangeAt Go.RowKit Go.Sort

instance : Inhabited Pf := ⟨⟨frAt zid [] 1 1 0, fun _ => (none, 0)⟩⟩
/-- Its frame's numbers are numbers of their kinds; its slices lie below block B. -/
structure PfOk (w : World) (B : Nat) (x : Pf) : Prop where
  wf : x.F.Wf
  x : x.X w (fun k => B ≤ k)
theorem PfOk.on {w w' : World} {B : Nat} {x : Pf} (h : PfOk w B x) (hb : Below B w w') : PfOk w' B x :=
  ⟨h.wf, h.x.kept ⟨hb.size, fun k _ hn => hb.block k (Nat.lt_of_not_le hn), hb.mono (Nat.zero_le _)⟩⟩

section
variable {H : Type} {enc : TypeId × Value → H} {w : World} {base : Nat} {spare : Nat → Bool} {held : Bool}

set_option maxRecDepth 10000 in
theorem open_frame_cells {fuel : Nat} {c0 c1 c2 c3 c4 c5 c6 c7 c8 c9 c10 c11 c12 c13 c14 c15 : Value} {x : DataW H × List MemPlace} (hf' : DataW.trod enc Try.prog w base spare held fuel 40 [c0, c1, c2, c3, c4, c5, c6, c7, c8, c9, c10, c11, c12, c13, c14, c15] = some x) :
    ∃ F, FrV w (fun _ => False) F #[c0, c1, c2, c3, c4, c5, c6, c7, c8, c9, c10, c11, c12, c13, c14, c15] ∧ F.Wf := by
  have hH : Try.prog.cellsOf 35 = 3 := by kernel_rfl
  have hI : Try.prog.cellsOf 24 = 2 := by kernel_rfl
  have h8 : Try.prog.cellsOf 5 = 1 := by kernel_rfl
  have h64 : Try.prog.cellsOf 22 = 1 := by kernel_rfl
  have h32 : Try.prog.cellsOf 36 = 1 := by kernel_rfl
  have hE : Try.prog.cellsOf 37 = 1 := by kernel_rfl
  have hU : Try.prog.cellsOf 38 = 1 := by kernel_rfl
  have hD : Try.prog.cellsOf 25 = 1 := by kernel_rfl
  obtain ⟨xs, n, -, -, -, hxl, hfs⟩ := DataW.trod_struct Try.underlying40 hf'
  have hx : ∀ i, i < 13 → ∃ y, xs[i]? = some y := fun i hi => ⟨_, List.getElem?_eq_getElem (by rw [hxl]; exact hi)⟩
  obtain ⟨y0, e0⟩ := hx 0 (by decide)
  obtain ⟨y1, e1⟩ := hx 1 (by decide)
  obtain ⟨y2, e2⟩ := hx 2 (by decide)
  obtain ⟨y3, e3⟩ := hx 3 (by decide)
  obtain ⟨y4, e4⟩ := hx 4 (by decide)
  obtain ⟨y5, e5⟩ := hx 5 (by decide)
  obtain ⟨y6, e6⟩ := hx 6 (by decide)
  obtain ⟨y7, e7⟩ := hx 7 (by decide)
  obtain ⟨y8, e8⟩ := hx 8 (by decide)
  obtain ⟨y9, e9⟩ := hx 9 (by decide)
  obtain ⟨y10, e10⟩ := hx 10 (by decide)
  obtain ⟨y11, e11⟩ := hx 11 (by decide)
  obtain ⟨y12, e12⟩ := hx 12 (by decide)
  have k0 : DataW.trod enc Try.prog w base spare held n 35 (List.take (Try.prog.cellsOf 35) (List.drop 0 [c0, c1, c2, c3, c4, c5, c6, c7, c8, c9, c10, c11, c12, c13, c14, c15])) = some y0 := (hfs 0 _ rfl).trans e0
  have k1 : DataW.trod enc Try.prog w base spare held n 24 (List.take (Try.prog.cellsOf 24) (List.drop 3 [c0, c1, c2, c3, c4, c5, c6, c7, c8, c9, c10, c11, c12, c13, c14, c15])) = some y1 := (hfs 1 _ rfl).trans e1
  have k2 : DataW.trod enc Try.prog w base spare held n 22 (List.take (Try.prog.cellsOf 22) (List.drop 5 [c0, c1, c2, c3, c4, c5, c6, c7, c8, c9, c10, c11, c12, c13, c14, c15])) = some y2 := (hfs 2 _ rfl).trans e2
  have k3 : DataW.trod enc Try.prog w base spare held n 36 (List.take (Try.prog.cellsOf 36) (List.drop 6 [c0, c1, c2, c3, c4, c5, c6, c7, c8, c9, c10, c11, c12, c13, c14, c15])) = some y3 := (hfs 3 _ rfl).trans e3
  have k4 : DataW.trod enc Try.prog w base spare held n 36 (List.take (Try.prog.cellsOf 36) (List.drop 7 [c0, c1, c2, c3, c4, c5, c6, c7, c8, c9, c10, c11, c12, c13, c14, c15])) = some y4 := (hfs 4 _ rfl).trans e4
  have k5 : DataW.trod enc Try.prog w base spare held n 36 (List.take (Try.prog.cellsOf 36) (List.drop 8 [c0, c1, c2, c3, c4, c5, c6, c7, c8, c9, c10, c11, c12, c13, c14, c15])) = some y5 := (hfs 5 _ rfl).trans e5
  have k6 : DataW.trod enc Try.prog w base spare held n 22 (List.take (Try.prog.cellsOf 22) (List.drop 9 [c0, c1, c2, c3, c4, c5, c6, c7, c8, c9, c10, c11, c12, c13, c14, c15])) = some y6 := (hfs 6 _ rfl).trans e6
  have k7 : DataW.trod enc Try.prog w base spare held n 22 (List.take (Try.prog.cellsOf 22) (List.drop 10 [c0, c1, c2, c3, c4, c5, c6, c7, c8, c9, c10, c11, c12, c13, c14, c15])) = some y7 := (hfs 7 _ rfl).trans e7
  have k8 : DataW.trod enc Try.prog w base spare held n 37 (List.take (Try.prog.cellsOf 37) (List.drop 11 [c0, c1, c2, c3, c4, c5, c6, c7, c8, c9, c10, c11, c12, c13, c14, c15])) = some y8 := (hfs 8 _ rfl).trans e8
  have k9 : DataW.trod enc Try.prog w base spare held n 37 (List.take (Try.prog.cellsOf 37) (List.drop 12 [c0, c1, c2, c3, c4, c5, c6, c7, c8, c9, c10, c11, c12, c13, c14, c15])) = some y9 := (hfs 9 _ rfl).trans e9
  have k10 : DataW.trod enc Try.prog w base spare held n 38 (List.take (Try.prog.cellsOf 38) (List.drop 13 [c0, c1, c2, c3, c4, c5, c6, c7, c8, c9, c10, c11, c12, c13, c14, c15])) = some y10 := (hfs 10 _ rfl).trans e10
  have k11 : DataW.trod enc Try.prog w base spare held n 38 (List.take (Try.prog.cellsOf 38) (List.drop 14 [c0, c1, c2, c3, c4, c5, c6, c7, c8, c9, c10, c11, c12, c13, c14, c15])) = some y11 := (hfs 11 _ rfl).trans e11
  have k12 : DataW.trod enc Try.prog w base spare held n 25 (List.take (Try.prog.cellsOf 25) (List.drop 15 [c0, c1, c2, c3, c4, c5, c6, c7, c8, c9, c10, c11, c12, c13, c14, c15])) = some y12 := (hfs 12 _ rfl).trans e12
  simp only [hH, hI, h64, h32, hE, hU, hD, List.drop_succ_cons, List.drop_zero, List.take_succ_cons, List.take_zero] at k0 k1 k2 k3 k4 k5 k6 k7 k8 k9 k10 k11 k12
  clear hfs hx e0 e1 e2 e3 e4 e5 e6 e7 e8 e9 e10 e11 e12
  obtain ⟨m0, m1, m2, n', _, _, t0, t1, t2⟩ := Deep.trod_struct3 Try.underlying35 k0
  simp only [h8, List.drop_succ_cons, List.drop_zero, List.take_succ_cons, List.take_zero] at t0 t1 t2
  obtain ⟨z0, rfl, b0⟩ := one_u8 t0
  obtain ⟨z1, rfl, b1⟩ := one_u8 t1
  obtain ⟨z2, rfl, b2⟩ := one_u8 t2
  obtain ⟨m3, m4, n'', _, _, t3, t4⟩ := trod_struct2 Try.underlying24 k1
  simp only [h8, h64, List.drop_succ_cons, List.drop_zero, List.take_succ_cons, List.take_zero] at t3 t4
  obtain ⟨z3, rfl, b3⟩ := one_u8 t3
  obtain ⟨z4, rfl, b4⟩ := one_u64 t4
  obtain ⟨z5, rfl, b5⟩ := one_u64 k2
  obtain ⟨z6, rfl, b6⟩ := one_u32 k3
  obtain ⟨z7, rfl, b7⟩ := one_u32 k4
  obtain ⟨z8, rfl, b8⟩ := one_u32 k5
  obtain ⟨z9, rfl, b9⟩ := one_u64 k6
  obtain ⟨z10, rfl, b10⟩ := one_u64 k7
  obtain ⟨Ae, ne, ce, le, rfl, hle, q1, q2, hLe⟩ := open_rns k8
  obtain ⟨Ax, nx, cx, lx, rfl, hlx, q3, q4, hLx⟩ := open_rns k9
  obtain ⟨ln, An, nn, cn, rfl, hln, q5, q6, hLn, hbn⟩ := open_nums Try.underlying38 Try.underlying22 h64 k10
  obtain ⟨lh, Ah, nh, ch, rfl, hlh, q7, q8, hLh, hbh⟩ := open_nums Try.underlying38 Try.underlying22 h64 k11
  obtain ⟨ld, Ad, nd, cd, rfl, hld, q9, q10, hLd⟩ := open_bytes Try.underlying25 Try.underlying5 h8 k12
  subst hle hlx hln hlh hld
  refine ⟨⟨z0, z1, z2, ⟨z3, z4, b3, b4⟩, z5, z6, z7, z8, z9, z10, le, lx, ln, lh, ld⟩, ⟨_, _, _, _, _, rfl, sl_of q1 q2 hLe, sl_of q3 q4 hLx, sl_of q5 q6 hLn, sl_of q7 q8 hLh, sl_of q9 q10 hLd⟩, ⟨b0, b1, b2, b5, b6, b7, b8, b9, b10, hbn, hbh⟩⟩

theorem open_fr {fuel : Nat} {cs : List Value} {x : DataW H × List MemPlace} (hlen : cs.length = 16) (h : DataW.trod enc Try.prog w base spare held fuel 40 cs = some x) :
    ∃ y : Pf, cs = encPf y ∧ PfOk w w.heap.size y := by
  match cs, hlen with
  | [c0, c1, c2, c3, c4, c5, c6, c7, c8, c9, c10, c11, c12, c13, c14, c15], _ =>
    obtain ⟨F, hV, hW⟩ := open_frame_cells h
    obtain ⟨xf, hxF, hxc, hxX⟩ := hV.pf
    refine ⟨xf, ?_, by rw [hxF]; exact hW, hxX.widen fun k hk => .inl hk⟩
    show _ = xf.cs.toList
    rw [← hxc]

theorem open_frs {fuel : Nat} {v : Value} {x : DataW H × List MemPlace} (h : DataW.trod enc Try.prog w base spare held fuel 48 [v] = some x) :
    ∃ l A n c, v = .slice A n c ∧ l.length = n ∧ n ≤ c ∧ c ≤ maxLen ∧ Lies w w.heap.size A (flat encPf l) ∧ ∀ y ∈ l, PfOk w w.heap.size y := by
  rcases Deep.open_slice Try.underlying48 h with ⟨hcs, _⟩ | ⟨a, len, cap, m, n, D, Pl, hcs, _, hl, hm, hmm, _, hx⟩
  · injection hcs with hcs
    subst hcs
    exact ⟨[], none, 0, 0, rfl, rfl, Nat.le_refl _, Nat.zero_le _, Lies.nil, by simp⟩
  · injection hcs with hcs
    subst hcs
    have hlm : len ≤ m := by rw [hmm]; split <;> omega
    have hc16 : Try.prog.cellsOf 40 = 16 := by kernel_rfl
    have key : ∀ i, i < len → ∃ y : Pf, (∀ j u, (encPf y)[j]? = some u → w.cell? ((a.add (i * 16)).add j) = some u) ∧ PfOk w w.heap.size y := by
      intro i hi
      obtain ⟨cs', h1, h2⟩ := hx i (by omega)
      rw [hc16] at h1
      obtain ⟨_, hlen, hcell⟩ := World.cells?_some h1
      obtain ⟨y, rfl, hy⟩ := open_fr hlen h2
      refine ⟨y, fun j u hu => ?_, hy⟩
      have hj : j < 16 := by
        have := (List.getElem?_eq_some_iff.1 hu).1
        rw [encPf_len] at this
        exact this
      have := hcell j (by omega)
      rw [this]
      exact hu
    obtain ⟨Y, hY⟩ := Deep.choose_lt (α := Pf) (n := len) key
    refine ⟨(List.range len).map Y, some a, len, cap, rfl, by simp, hl, hm, ?_, ?_⟩
    · intro hn
      have hp : 0 < len := by
        rcases Nat.eq_zero_or_pos len with h0 | h0
        · subst h0; simp [flat] at hn
        · exact h0
      have h0 := (hY 0 hp).1 0 _ rfl
      obtain ⟨b, off, spot⟩ := a
      have hspot : spot = none := by simpa [Addr.add] using World.cell?_spot h0
      subst hspot
      refine ⟨b, off, rfl, ?_, fun i u hu => ?_⟩
      · have := World.block_lt_of_cell? w _ h0
        rwa [Go.Proofs.Ythkongnjokmmfaa.add_plain, Go.Proofs.Ythkongnjokmmfaa.add_plain] at this
      · have hil : i < ((List.range len).map Y).length * 16 := by
          have := (List.getElem?_eq_some_iff.1 hu).1
          rw [flat_length encPf_len] at this
          exact this
        have hi5 : i / 16 < ((List.range len).map Y).length := by omega
        have hfa := flat_at encPf_len ((List.range len).map Y) (i / 16) (i % 16) (Nat.mod_lt _ (by decide)) hi5
        rw [show i / 16 * 16 + i % 16 = i by omega, hu] at hfa
        have hlt : i / 16 < len := by simpa using hi5
        have e : ((List.range len).map Y)[i / 16] = Y (i / 16) := by simp
        rw [e] at hfa
        have := (hY (i / 16) hlt).1 (i % 16) u hfa.symm
        rw [Go.Proofs.Ythkongnjokmmfaa.add_plain, Go.Proofs.Ythkongnjokmmfaa.add_plain] at this
        rwa [show off + i / 16 * 16 + i % 16 = off + i by omega] at this
    · intro y hy
      obtain ⟨i, hi, rfl⟩ := List.mem_map.1 hy
      exact (hY i (by simpa using hi)).2
end

/-- The cells of the frame at place q. -/
theorem fr_at {w : World} {B : Nat} {A : Option Addr} {l : List Pf} (h : Lies w B A (flat encPf l)) {q : Nat} (hq : q < l.length) :
    ∃ b off, A = some ⟨b, off, none⟩ ∧ b < B ∧ w.rangeAt b (off + q * 16) (encPf l[q]) := by
  have hn : flat encPf l ≠ [] := by
    intro h0
    have := flat_length encPf_len l
    rw [h0] at this
    simp at this
    omega
  obtain ⟨b, off, rfl, hb, hc⟩ := h hn
  refine ⟨b, off, rfl, hb, fun j v hv => ?_⟩
  have hj : j < 16 := by
    have := (List.getElem?_eq_some_iff.1 hv).1
    rwa [encPf_len] at this
  have := flat_at encPf_len l q j hj hq
  rw [hv] at this
  have h2 := hc (q * 16 + j) v this
  rwa [← Nat.add_assoc] at h2

end Go.Proofs.Ythkongnjokmmfaa
