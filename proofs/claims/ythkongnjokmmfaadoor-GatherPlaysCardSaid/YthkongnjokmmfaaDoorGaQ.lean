/- Stage 13: the acts opened; what stands in GatherPlays' loop; what its great region calls (the door seat alone). -/
import Derived.Test.YthkongnjokmmfaaDoorGtI
import Derived.OpenShut
import Derived.Test.YthkongnjokmmfaaDoorGdZ
import Derived.Test.YthkongnjokmmfaaDoorGtL
import Derived.Test.YthkongnjokmmfaaDoorGtK
import Derived.Test.YthkongnjokmmfaaDoorGtV
import Derived.Test.YthkongnjokmmfaaDoorGtS
import Derived.Test.YthkongnjokmmfaaDoorGdD
import Derived.Test.YthkongnjokmmfaaDoorGtG

set_option maxRecDepth 20000
namespace Go.Proofs.YthkongnjokmmfaaDoor
open Go.ChangeShapes Go.WideShapes Go.ChangeAt Go.RowKit Go.Sort

instance : Inhabited Pf := ⟨⟨frAt zid [] 1 1 0, fun _ => (none, 0)⟩⟩
/-- An act: its kind, its frame. -/
structure Ga where
  k : Int
  x : Pf
instance : Inhabited Ga := ⟨⟨0, default⟩⟩
def encGa (a : Ga) : List Value := [.int .i64 a.k] ++ encPf a.x
theorem encGa_len (a : Ga) : (encGa a).length = 17 := by simp [encGa, encPf_len]
/-- Its frame's numbers are numbers of their kinds; its slices lie below block B. -/
structure PfOk (w : World) (B : Nat) (x : Pf) : Prop where
  wf : x.F.Wf
  x : x.X w (fun k => B ≤ k)
theorem PfOk.on {w w' : World} {B : Nat} {x : Pf} (h : PfOk w B x) (hb : Below B w w') : PfOk w' B x :=
  ⟨h.wf, h.x.kept ⟨hb.size, fun k _ hn => hb.block k (Nat.lt_of_not_le hn), hb.mono (Nat.zero_le _)⟩⟩

section
variable {H : Type} {enc : TypeId × Value → H} {w : World} {base : Nat} {spare : Nat → Bool} {held : Bool}

set_option maxRecDepth 10000 in
theorem open_frame_cells {fuel : Nat} {c0 c1 c2 c3 c4 c5 c6 c7 c8 c9 c10 c11 c12 c13 c14 c15 : Value} {x : DataW H × List MemPlace} (hf' : DataW.trod enc Tryd.prog w base spare held fuel 41 [c0, c1, c2, c3, c4, c5, c6, c7, c8, c9, c10, c11, c12, c13, c14, c15] = some x) :
    ∃ F, FrV w (fun _ => False) F #[c0, c1, c2, c3, c4, c5, c6, c7, c8, c9, c10, c11, c12, c13, c14, c15] ∧ F.Wf := by
  have hH : Tryd.prog.cellsOf 35 = 3 := by kernel_rfl
  have hI : Tryd.prog.cellsOf 25 = 2 := by kernel_rfl
  have h8 : Tryd.prog.cellsOf 5 = 1 := by kernel_rfl
  have h64 : Tryd.prog.cellsOf 23 = 1 := by kernel_rfl
  have h32 : Tryd.prog.cellsOf 36 = 1 := by kernel_rfl
  have hE : Tryd.prog.cellsOf 37 = 1 := by kernel_rfl
  have hU : Tryd.prog.cellsOf 38 = 1 := by kernel_rfl
  have hD : Tryd.prog.cellsOf 39 = 1 := by kernel_rfl
  obtain ⟨xs, n, -, -, -, hxl, hfs⟩ := DataW.trod_struct Tryd.underlying41 hf'
  have hx : ∀ i, i < 13 → ∃ y, xs[i]? = some y := fun i hi => ⟨_, List.getElem?_eq_getElem (by rw [hxl]; exact hi)⟩
  obtain ⟨y0, e0⟩ := hx 0 (by decide)
  obtain ⟨y1, e1⟩ := hx 1 (by decide)
  obtain ⟨y2, e2⟩ := hx 2 (by decide)
  obtain ⟨y3, e3⟩ := hx 3 (by decide)
  obtain ⟨y4, e4⟩ := hx 4 (by decide)
  obtain ⟨y5, e5⟩ := hx 5 (by decide)
  obtain ⟨y6, e6⟩ := hx 6 (by decide)
  obtain ⟨y7, e7⟩ := hx 7 (by decide)
  obtain ⟨y8, e8⟩ := hx 8 (by decide)
  obtain ⟨y9, e9⟩ := hx 9 (by decide)
  obtain ⟨y10, e10⟩ := hx 10 (by decide)
  obtain ⟨y11, e11⟩ := hx 11 (by decide)
  obtain ⟨y12, e12⟩ := hx 12 (by decide)
  have k0 : DataW.trod enc Tryd.prog w base spare held n 35 (List.take (Tryd.prog.cellsOf 35) (List.drop 0 [c0, c1, c2, c3, c4, c5, c6, c7, c8, c9, c10, c11, c12, c13, c14, c15])) = some y0 := (hfs 0 _ rfl).trans e0
  have k1 : DataW.trod enc Tryd.prog w base spare held n 25 (List.take (Tryd.prog.cellsOf 25) (List.drop 3 [c0, c1, c2, c3, c4, c5, c6, c7, c8, c9, c10, c11, c12, c13, c14, c15])) = some y1 := (hfs 1 _ rfl).trans e1
  have k2 : DataW.trod enc Tryd.prog w base spare held n 23 (List.take (Tryd.prog.cellsOf 23) (List.drop 5 [c0, c1, c2, c3, c4, c5, c6, c7, c8, c9, c10, c11, c12, c13, c14, c15])) = some y2 := (hfs 2 _ rfl).trans e2
  have k3 : DataW.trod enc Tryd.prog w base spare held n 36 (List.take (Tryd.prog.cellsOf 36) (List.drop 6 [c0, c1, c2, c3, c4, c5, c6, c7, c8, c9, c10, c11, c12, c13, c14, c15])) = some y3 := (hfs 3 _ rfl).trans e3
  have k4 : DataW.trod enc Tryd.prog w base spare held n 36 (List.take (Tryd.prog.cellsOf 36) (List.drop 7 [c0, c1, c2, c3, c4, c5, c6, c7, c8, c9, c10, c11, c12, c13, c14, c15])) = some y4 := (hfs 4 _ rfl).trans e4
  have k5 : DataW.trod enc Tryd.prog w base spare held n 36 (List.take (Tryd.prog.cellsOf 36) (List.drop 8 [c0, c1, c2, c3, c4, c5, c6, c7, c8, c9, c10, c11, c12, c13, c14, c15])) = some y5 := (hfs 5 _ rfl).trans e5
  have k6 : DataW.trod enc Tryd.prog w base spare held n 23 (List.take (Tryd.prog.cellsOf 23) (List.drop 9 [c0, c1, c2, c3, c4, c5, c6, c7, c8, c9, c10, c11, c12, c13, c14, c15])) = some y6 := (hfs 6 _ rfl).trans e6
  have k7 : DataW.trod enc Tryd.prog w base spare held n 23 (List.take (Tryd.prog.cellsOf 23) (List.drop 10 [c0, c1, c2, c3, c4, c5, c6, c7, c8, c9, c10, c11, c12, c13, c14, c15])) = some y7 := (hfs 7 _ rfl).trans e7
  have k8 : DataW.trod enc Tryd.prog w base spare held n 37 (List.take (Tryd.prog.cellsOf 37) (List.drop 11 [c0, c1, c2, c3, c4, c5, c6, c7, c8, c9, c10, c11, c12, c13, c14, c15])) = some y8 := (hfs 8 _ rfl).trans e8
  have k9 : DataW.trod enc Tryd.prog w base spare held n 37 (List.take (Tryd.prog.cellsOf 37) (List.drop 12 [c0, c1, c2, c3, c4, c5, c6, c7, c8, c9, c10, c11, c12, c13, c14, c15])) = some y9 := (hfs 9 _ rfl).trans e9
  have k10 : DataW.trod enc Tryd.prog w base spare held n 38 (List.take (Tryd.prog.cellsOf 38) (List.drop 13 [c0, c1, c2, c3, c4, c5, c6, c7, c8, c9, c10, c11, c12, c13, c14, c15])) = some y10 := (hfs 10 _ rfl).trans e10
  have k11 : DataW.trod enc Tryd.prog w base spare held n 38 (List.take (Tryd.prog.cellsOf 38) (List.drop 14 [c0, c1, c2, c3, c4, c5, c6, c7, c8, c9, c10, c11, c12, c13, c14, c15])) = some y11 := (hfs 11 _ rfl).trans e11
  have k12 : DataW.trod enc Tryd.prog w base spare held n 39 (List.take (Tryd.prog.cellsOf 39) (List.drop 15 [c0, c1, c2, c3, c4, c5, c6, c7, c8, c9, c10, c11, c12, c13, c14, c15])) = some y12 := (hfs 12 _ rfl).trans e12
  simp only [hH, hI, h64, h32, hE, hU, hD, List.drop_succ_cons, List.drop_zero, List.take_succ_cons, List.take_zero] at k0 k1 k2 k3 k4 k5 k6 k7 k8 k9 k10 k11 k12
  clear hfs hx e0 e1 e2 e3 e4 e5 e6 e7 e8 e9 e10 e11 e12
  obtain ⟨m0, m1, m2, n', _, _, t0, t1, t2⟩ := Deep.trod_struct3 Tryd.underlying35 k0
  simp only [h8, List.drop_succ_cons, List.drop_zero, List.take_succ_cons, List.take_zero] at t0 t1 t2
  obtain ⟨z0, rfl, b0⟩ := one_u8 t0
  obtain ⟨z1, rfl, b1⟩ := one_u8 t1
  obtain ⟨z2, rfl, b2⟩ := one_u8 t2
  obtain ⟨m3, m4, n'', _, _, t3, t4⟩ := trod_struct2 Tryd.underlying25 k1
  simp only [h8, h64, List.drop_succ_cons, List.drop_zero, List.take_succ_cons, List.take_zero] at t3 t4
  obtain ⟨z3, rfl, b3⟩ := one_u8 t3
  obtain ⟨z4, rfl, b4⟩ := one_u64 t4
  obtain ⟨z5, rfl, b5⟩ := one_u64 k2
  obtain ⟨z6, rfl, b6⟩ := one_u32 k3
  obtain ⟨z7, rfl, b7⟩ := one_u32 k4
  obtain ⟨z8, rfl, b8⟩ := one_u32 k5
  obtain ⟨z9, rfl, b9⟩ := one_u64 k6
  obtain ⟨z10, rfl, b10⟩ := one_u64 k7
  obtain ⟨Ae, ne, ce, le, rfl, hle, q1, q2, hLe⟩ := open_rns k8
  obtain ⟨Ax, nx, cx, lx, rfl, hlx, q3, q4, hLx⟩ := open_rns k9
  obtain ⟨ln, An, nn, cn, rfl, hln, q5, q6, hLn, hbn⟩ := open_nums Tryd.underlying38 Tryd.underlying23 h64 k10
  obtain ⟨lh, Ah, nh, ch, rfl, hlh, q7, q8, hLh, hbh⟩ := open_nums Tryd.underlying38 Tryd.underlying23 h64 k11
  obtain ⟨ld, Ad, nd, cd, rfl, hld, q9, q10, hLd⟩ := open_bytes Tryd.underlying39 Tryd.underlying5 h8 k12
  subst hle hlx hln hlh hld
  refine ⟨⟨z0, z1, z2, ⟨z3, z4, b3, b4⟩, z5, z6, z7, z8, z9, z10, le, lx, ln, lh, ld⟩, ⟨_, _, _, _, _, rfl, sl_of q1 q2 hLe, sl_of q3 q4 hLx, sl_of q5 q6 hLn, sl_of q7 q8 hLh, sl_of q9 q10 hLd⟩, ⟨b0, b1, b2, b5, b6, b7, b8, b9, b10, hbn, hbh⟩⟩

theorem open_ga {fuel : Nat} {cs : List Value} {x : DataW H × List MemPlace} (hlen : cs.length = 17) (h : DataW.trod enc Tryd.prog w base spare held fuel 43 cs = some x) :
    ∃ y : Ga, cs = encGa y ∧ PfOk w w.heap.size y.x := by
  have hK : Tryd.prog.cellsOf 3 = 1 := by kernel_rfl
  have hF : Tryd.prog.cellsOf 41 = 16 := by kernel_rfl
  match cs, hlen with
  | [k0, c0, c1, c2, c3, c4, c5, c6, c7, c8, c9, c10, c11, c12, c13, c14, c15], _ =>
    obtain ⟨y0, y1, n', _, _, t0, t1⟩ := trod_struct2 Tryd.underlying43 h
    simp only [hK, hF, List.drop_succ_cons, List.drop_zero, List.take_succ_cons, List.take_zero] at t0 t1
    obtain ⟨F, hV, hW⟩ := open_frame_cells t1
    obtain ⟨xf, hxF, hxc, hxX⟩ := hV.pf
    obtain ⟨r0, e0, _, _⟩ := DataW.trod_int Tryd.underlying3 t0
    injection e0 with e0
    subst e0
    refine ⟨⟨r0, xf⟩, ?_, by show xf.F.Wf; rw [hxF]; exact hW, hxX.widen fun k hk => .inl hk⟩
    show _ = [Value.int .i64 r0] ++ xf.cs.toList
    rw [← hxc]
    rfl

theorem open_gas {fuel : Nat} {v : Value} {x : DataW H × List MemPlace} (h : DataW.trod enc Tryd.prog w base spare held fuel 22 [v] = some x) :
    ∃ l A n c, v = .slice A n c ∧ l.length = n ∧ n ≤ c ∧ c ≤ maxLen ∧ Lies w w.heap.size A (flat encGa l) ∧ ∀ y ∈ l, PfOk w w.heap.size y.x := by
  rcases Deep.open_slice Tryd.underlying22 h with ⟨hcs, _⟩ | ⟨a, len, cap, m, n, D, Pl, hcs, _, hl, hm, hmm, _, hx⟩
  · injection hcs with hcs
    subst hcs
    exact ⟨[], none, 0, 0, rfl, rfl, Nat.le_refl _, Nat.zero_le _, Lies.nil, by simp⟩
  · injection hcs with hcs
    subst hcs
    have hlm : len ≤ m := by rw [hmm]; split <;> omega
    have hc17 : Tryd.prog.cellsOf 43 = 17 := by kernel_rfl
    have key : ∀ i, i < len → ∃ y : Ga, (∀ j u, (encGa y)[j]? = some u → w.cell? ((a.add (i * 17)).add j) = some u) ∧ PfOk w w.heap.size y.x := by
      intro i hi
      obtain ⟨cs', h1, h2⟩ := hx i (by omega)
      rw [hc17] at h1
      obtain ⟨_, hlen, hcell⟩ := World.cells?_some h1
      obtain ⟨y, rfl, hy⟩ := open_ga hlen h2
      refine ⟨y, fun j u hu => ?_, hy⟩
      have hj : j < 17 := by
        have := (List.getElem?_eq_some_iff.1 hu).1
        rw [encGa_len] at this
        exact this
      have := hcell j (by omega)
      rw [this]
      exact hu
    obtain ⟨Y, hY⟩ := Deep.choose_lt (α := Ga) (n := len) key
    refine ⟨(List.range len).map Y, some a, len, cap, rfl, by simp, hl, hm, ?_, ?_⟩
    · intro hn
      have hp : 0 < len := by
        rcases Nat.eq_zero_or_pos len with h0 | h0
        · subst h0; simp [flat] at hn
        · exact h0
      have h0 := (hY 0 hp).1 0 _ rfl
      obtain ⟨b, off, spot⟩ := a
      have hspot : spot = none := by simpa [Addr.add] using World.cell?_spot h0
      subst hspot
      refine ⟨b, off, rfl, ?_, fun i u hu => ?_⟩
      · have := World.block_lt_of_cell? w _ h0
        rwa [Go.Proofs.YthkongnjokmmfaaDoor.add_plain, Go.Proofs.YthkongnjokmmfaaDoor.add_plain] at this
      · have hil : i < ((List.range len).map Y).length * 17 := by
          have := (List.getElem?_eq_some_iff.1 hu).1
          rw [flat_length encGa_len] at this
          exact this
        have hi5 : i / 17 < ((List.range len).map Y).length := by omega
        have hfa := flat_at encGa_len ((List.range len).map Y) (i / 17) (i % 17) (Nat.mod_lt _ (by decide)) hi5
        rw [show i / 17 * 17 + i % 17 = i by omega, hu] at hfa
        have hlt : i / 17 < len := by simpa using hi5
        have e : ((List.range len).map Y)[i / 17] = Y (i / 17) := by simp
        rw [e] at hfa
        have := (hY (i / 17) hlt).1 (i % 17) u hfa.symm
        rw [Go.Proofs.YthkongnjokmmfaaDoor.add_plain, Go.Proofs.YthkongnjokmmfaaDoor.add_plain] at this
        rwa [show off + i / 17 * 17 + i % 17 = off + i by omega] at this
    · intro y hy
      obtain ⟨i, hi, rfl⟩ := List.mem_map.1 hy
      exact (hY i (by simpa using hi)).2
end

/-- The cells of the act at place q. -/
theorem ga_at {w : World} {B : Nat} {A : Option Addr} {l : List Ga} (h : Lies w B A (flat encGa l)) {q : Nat} (hq : q < l.length) :
    ∃ b off, A = some ⟨b, off, none⟩ ∧ b < B ∧ w.rangeAt b (off + q * 17) (encGa l[q]) := by
  have hn : flat encGa l ≠ [] := by
    intro h0
    have := flat_length encGa_len l
    rw [h0] at this
    simp at this
    omega
  obtain ⟨b, off, rfl, hb, hc⟩ := h hn
  refine ⟨b, off, rfl, hb, fun j v hv => ?_⟩
  have hj : j < 17 := by
    have := (List.getElem?_eq_some_iff.1 hv).1
    rwa [encGa_len] at this
  have := flat_at encGa_len l q j hj hq
  rw [hv] at this
  have h2 := hc (q * 17 + j) v this
  rwa [← Nat.add_assoc] at h2

end Go.Proofs.YthkongnjokmmfaaDoor

set_option maxRecDepth 20000
namespace Go.Proofs.YthkongnjokmmfaaDoor
open Go.RowKit Go.Sort

def idc (x : Id) : Array Value := #[.int .u8 (x.f : Int), .int .u64 (x.s : Int)]
/-- The gatherer, the document's in its box at mp, the id's box; w: the world of the entry. -/
structure PlS (w : World) (mp : Nat) (x : Id) (T : Value) (L : List Pz) (D : Nat → Prop) (A : Option Addr) (n c : Nat) (R : List Rp) (gg gm : Gm) (V : World) : Prop where
  below : RowKit.Below w.heap.size w V
  g : GtAt V (w.heap.size + 1) (w.heap.size + 1) T L gg D
  r : RgAt V (fun k => D k ∨ k = mp) A n c R gm
  row : V.heap[mp]? = some (.cells (rgCells (.slice A n c) gm) 32 (0, 0))
  idr : V.heap[w.heap.size]? = some (.cells (idc x) 25 (0, 0))
  nd : ¬ D mp
  lo : w.heap.size + 1 < mp
/-- .. and the act's box. -/
structure PlA (w : World) (mp : Nat) (x : Id) (ab : Nat) (y : Ga) (T : Value) (L : List Pz) (D : Nat → Prop) (A : Option Addr) (n c : Nat) (R : List Rp) (gg gm : Gm) (V : World) : Prop where
  s : PlS w mp x T L D A n c R gg gm V
  a : V.heap[ab]? = some (.cells (encGa y).toArray 43 (0, 0))
  na : ¬ D ab
  am : mp < ab
section
variable {w V V' : World} {mp ab : Nat} {x : Id} {y : Ga} {T : Value} {L : List Pz} {D : Nat → Prop} {A : Option Addr} {n c : Nat} {R : List Rp} {gg gm : Gm}
theorem PlS.lt (h : PlS w mp x T L D A n c R gg gm V) : mp < V.heap.size := (Array.getElem?_eq_some_iff.1 h.row).1
theorem PlS.dlt (h : PlS w mp x T L D A n c R gg gm V) : ∀ k, (D k ∨ k = mp) → k < V.heap.size := fun k hk => hk.elim (fun e => (h.g.din k e).2) fun e => e ▸ h.lt
theorem PlS.on (h : PlS w mp x T L D A n c R gg gm V) (hb : RowKit.Below V.heap.size V V') : PlS w mp x T L D A n c R gg gm V' := by
  have hl := h.lt
  have hlo := h.lo
  exact ⟨h.below.trans (hb.mono h.below.size), h.g.on hb, h.r.on hb, (hb.block _ hl).trans h.row, (hb.block _ (by omega)).trans h.idr, h.nd, h.lo⟩
theorem PlA.on (h : PlA w mp x ab y T L D A n c R gg gm V) (hb : RowKit.Below V.heap.size V V') : PlA w mp x ab y T L D A n c R gg gm V' :=
  ⟨h.s.on hb, (hb.block _ (Array.getElem?_eq_some_iff.1 h.a).1).trans h.a, h.na, h.am⟩
/-- The document's gatherer is written. -/
theorem PlS.setM (h : PlS w mp x T L D A n c R gg gm V) {A' : Option Addr} {n' c' : Nat} {R' : List Rp} {gm' : Gm} (hR : RgAt V (fun k => D k ∨ k = mp) A' n' c' R' gm') : PlS w mp x T L D A' n' c' R' gg gm' (V.setRow mp (rgCells (.slice A' n' c') gm')) := by
  have hl := h.lt
  have hlo := h.lo
  have hO : OnlyE V (V.setRow mp (rgCells (.slice A' n' c') gm')) (fun k => k = mp) := OnlyE.of_grown (grown_setRow _ _ _) rfl
  exact ⟨h.below.trans (hO.below (fun k hk => by omega) h.below.size), h.g.kept hO fun b hb e => h.nd (e ▸ hb), hR.kept (hO.mono fun k hk => .inr hk), setRow_heap _ _ _ _ _ (0, 0) h.row, (hO.same _ (by omega) (by omega)).trans h.idr, h.nd, h.lo⟩
theorem PlA.setM (h : PlA w mp x ab y T L D A n c R gg gm V) {A' : Option Addr} {n' c' : Nat} {R' : List Rp} {gm' : Gm} (hR : RgAt V (fun k => D k ∨ k = mp) A' n' c' R' gm') : PlA w mp x ab y T L D A' n' c' R' gg gm' (V.setRow mp (rgCells (.slice A' n' c') gm')) := by
  have hO : OnlyE V (V.setRow mp (rgCells (.slice A' n' c') gm')) (fun k => k = mp) := OnlyE.of_grown (grown_setRow _ _ _) rfl
  exact ⟨h.s.setM hR, (hO.same _ (Array.getElem?_eq_some_iff.1 h.a).1 (by have := h.am; omega)).trans h.a, h.na, h.am⟩
/-- .. through a box of its own. -/
theorem PlA.setM2 (h : PlA w mp x ab y T L D A n c R gg gm V) {A' : Option Addr} {n' c' : Nat} {R' : List Rp} {gm' : Gm} (hR : RgAt V (fun k => D k ∨ k = mp) A' n' c' R' gm') (old : Array Value) :
    (V.alloc (.cells old 32)).heap[V.heap.size]? = some (.cells old 32 (0, 0)) ∧
    ∀ V1, V1 = (V.alloc (.cells old 32)).setRow V.heap.size (rgCells (.slice A' n' c') gm') → V1.heap[V.heap.size]? = some (.cells (rgCells (.slice A' n' c') gm') 32 (0, 0)) ∧ V1.heap[mp]? = some (.cells (rgCells (.slice A n c) gm) 32 (0, 0)) ∧
      PlA w mp x ab y T L D A' n' c' R' gg gm' (V1.setRow mp (rgCells (.slice A' n' c') gm')) := by
  have h1 := heap_alloc_new V (.cells old 32 (0, 0))
  refine ⟨h1, ?_⟩
  rintro V1 rfl
  have hO : OnlyE (V.alloc (.cells old 32)) ((V.alloc (.cells old 32)).setRow V.heap.size (rgCells (.slice A' n' c') gm')) (fun k => k = V.heap.size) := OnlyE.of_grown (grown_setRow _ _ _) rfl
  have hb : RowKit.Below V.heap.size V ((V.alloc (.cells old 32)).setRow V.heap.size (rgCells (.slice A' n' c') gm')) := ((RowKit.Below.refl _ _).alloc (Nat.le_refl _) _).trans (hO.below (fun k hk => by omega) (by simp))
  have hV := h.on hb
  exact ⟨setRow_heap _ _ _ _ _ (0, 0) h1, hV.s.row, hV.setM (hR.on hb)⟩
/-- A call of the gatherer's own: it turns blocks of D alone. -/
theorem PlS.turned (h : PlS w mp x T L D A n c R gg gm V) {T' : Value} {L' : List Pz} {D' : Nat → Prop} {gg' : Gm} (hg : GtAt V' (w.heap.size + 1) (w.heap.size + 1) T' L' gg' D') (ho : OnlyE V V' D) (h1 : ∀ k, D' k → D k ∨ V.heap.size ≤ k) (h2 : ∀ k, D k → D' k) : PlS w mp x T' L' D' A n c R gg' gm V' := by
  have hl := h.lt
  have hlo := h.lo
  refine ⟨h.below.trans (ho.below (fun k hk => by have := (h.g.din k hk).1; omega) h.below.size), hg, ?_, (ho.same _ hl h.nd).trans h.row, (ho.same _ (by omega) fun hk => by have := (h.g.din _ hk).1; omega).trans h.idr, fun hk => (h1 _ hk).elim h.nd fun e => by omega, h.lo⟩
  exact (h.r.widen (D' := fun k => D' k ∨ k = mp) fun k hk => hk.elim (fun e => (h1 k e).elim (fun e => .inr (.inl e)) .inl) fun e => .inr (.inr e)).kept (ho.mono fun k hk => .inl (h2 k hk))
theorem PlA.turned (h : PlA w mp x ab y T L D A n c R gg gm V) {T' : Value} {L' : List Pz} {D' : Nat → Prop} {gg' : Gm} (hg : GtAt V' (w.heap.size + 1) (w.heap.size + 1) T' L' gg' D') (ho : OnlyE V V' D) (h1 : ∀ k, D' k → D k ∨ V.heap.size ≤ k) (h2 : ∀ k, D k → D' k) : PlA w mp x ab y T' L' D' A n c R gg' gm V' := by
  have hl := (Array.getElem?_eq_some_iff.1 h.a).1
  exact ⟨h.s.turned hg ho h1 h2, (ho.same _ hl h.na).trans h.a, fun hk => (h1 _ hk).elim h.na fun e => by omega, h.am⟩

/-! The act's cells -/
theorem PlA.ac (h : PlA w mp x ab y T L D A n c R gg gm V) (i : Nat) (u : Value) (hu : (encGa y).toArray[i]? = some u) : V.cell? ⟨ab, i, none⟩ = some u := (cell_of_row V ab i _ _ _ h.a).trans hu
theorem encGa_succ (y : Ga) (j : Nat) : (encGa y)[j + 1]? = (encPf y.x)[j]? := rfl
theorem PlA.fr (h : PlA w mp x ab y T L D A n c R gg gm V) : V.rangeAt ab 1 (encPf y.x) := fun j v hv => by
  refine h.ac (1 + j) v ?_
  rw [List.getElem?_toArray, Nat.add_comm, encGa_succ]
  exact hv
theorem PlA.kind (h : PlA w mp x ab y T L D A n c R gg gm V) : V.cell? ⟨ab, 0, none⟩ = some (.int .i64 y.k) := h.ac 0 _ rfl
theorem PlA.if_ (h : PlA w mp x ab y T L D A n c R gg gm V) : V.cell? ⟨ab, 4, none⟩ = some (.int .u8 (y.x.F.id.f : Int)) := h.fr 3 _ rfl
theorem PlA.is_ (h : PlA w mp x ab y T L D A n c R gg gm V) : V.cell? ⟨ab, 5, none⟩ = some (.int .u64 (y.x.F.id.s : Int)) := h.fr 4 _ rfl
theorem PlA.sz (h : PlA w mp x ab y T L D A n c R gg gm V) : V.cell? ⟨ab, 9, none⟩ = some (.int .u32 (y.x.F.size : Int)) := h.fr 8 _ rfl

/-! The calls -/
theorem PfOk.frX {D : Nat → Prop} {z : Pf} (h : PfOk w w.heap.size z) (hb : RowKit.Below w.heap.size w V) (hD : ∀ b, D b → w.heap.size ≤ b) : FrX V D z.F z.cs :=
  ((h.on hb).x.widen fun k hk => .inr (hD k hk)).frX
theorem PlA.mput (h : PlA w mp x ab y T L D A n c R gg gm V) (hok : gm.Ok) (hwt : gm.weight ≤ 50000) (hrm : gm.room ≤ 9223372036854775807) (hy : PfOk w w.heap.size y.x) :
    Calls Tryd.prog 9 #[.agg (rgCells (.slice A n c) gm), .agg y.x.cs] V fun e w' => ∃ A' n' c' R', e = .returned (.tuple #[.agg (rgCells (.slice A' n' c') (gm.put (mayB y.x.F.id) y.x.F).1), .string (str (gm.put (mayB y.x.F.id) y.x.F).2.1), .int .u8 ((gm.put (mayB y.x.F.id) y.x.F).2.2 : Int)]) ∧ RgAt w' (fun k => D k ∨ k = mp) A' n' c' R' (gm.put (mayB y.x.F.id) y.x.F).1 ∧ RowKit.Below V.heap.size V w' :=
  refPut_any h.s.r hok hwt h.s.dlt hrm y.x.F y.x.cs ((hy.on h.s.below).x.frl) hy.wf
theorem PlA.gput (h : PlA w mp x ab y T L D A n c R gg gm V) (hok : gg.Ok) (hwt : gg.weight ≤ 50000) (hy : PfOk w w.heap.size y.x) :
    Calls Tryd.prog 10 #[.pointer (some ⟨w.heap.size + 1, 0, none⟩), .agg y.x.cs] V fun e w' => ∃ T' L' D' A9 n9 c9, e = .returned (.tuple #[.slice A9 n9 c9, .int .u8 ((gg.put (mayB y.x.F.id) y.x.F).2.2 : Int)]) ∧
      Hid (∀ cc, (convert 39 9 (.slice A9 n9 cc)).run Tryd.prog w' = .ok (.string (str (gg.put (mayB y.x.F.id) y.x.F).2.1)) w') ∧ PlA w mp x ab y T' L' D' A n c R (gg.put (mayB y.x.F.id) y.x.F).1 gm w' := by
  refine (put_g h.s.g hok (by omega) y.x.F y.x.cs (hy.frX h.s.below fun b hb => by have := (h.s.g.din b hb).1; omega) hy.wf).mono ?_
  rintro e w' ⟨T', L', D', vp, rfl, k1, k2, k3, k4, A9, n9, c9, rfl, k5, k6, k7, k8⟩
  exact ⟨T', L', D', A9, n9, c9, rfl, fun cc => strs_of k5 k8.lies cc, h.turned k1 k2 k3 k4⟩
theorem PlA.want (h : PlA w mp x ab y T L D A n c R gg gm V) : Calls Tryd.prog 11 #[.pointer (some ⟨w.heap.size + 1, 0, none⟩), valId y.x.F.id] V fun e w' => e = .returned (.tuple #[]) ∧ PlA w mp x ab y T L D A n c R { gg with wanted := y.x.F.id } gm w' := by
  refine (want_g h.s.g y.x.F.id).mono ?_
  rintro e w' ⟨rfl, k1, k2⟩
  exact ⟨rfl, h.turned k1 k2 (fun k hk => .inl hk) fun k hk => hk⟩
theorem PlA.mwant (h : PlA w mp x ab y T L D A n c R gg gm V) (z : Id) : PlA w mp x ab y T L D A n c R gg { gm with wanted := z } ((V.setCell ⟨mp, 4, none⟩ (.int .u8 (z.f : Int))).setCell ⟨mp, 5, none⟩ (.int .u64 (z.s : Int))) := by
  have hl := h.s.lt
  have hlo := h.s.lo
  have hO : OnlyE V ((V.setCell ⟨mp, 4, none⟩ (.int .u8 (z.f : Int))).setCell ⟨mp, 5, none⟩ (.int .u64 (z.s : Int))) (fun k => k = mp) := (onlyE_set (D := fun k => k = mp) rfl 4 _).trans (onlyE_set (D := fun k => k = mp) rfl 5 _)
  refine ⟨⟨h.s.below.trans (hO.below (fun k hk => by omega) h.s.below.size), h.s.g.kept hO fun b hb e => h.s.nd (e ▸ hb), ?_, heap_setCell_same _ mp 5 _ _ _ (heap_setCell_same V mp 4 _ _ _ h.s.row), (hO.same _ (by omega) (by omega)).trans h.s.idr, h.s.nd, h.s.lo⟩, (hO.same _ (Array.getElem?_eq_some_iff.1 h.a).1 (by have := h.am; omega)).trans h.a, h.na, h.am⟩
  have hr := h.s.r.kept (hO.mono fun k hk => .inr hk)
  exact ⟨hr.len, hr.nc, hr.cm, hr.lies, hr.has, hr.cut, hr.ml⟩
theorem PlA.mdrop (h : PlA w mp x ab y T L D A n c R gg gm V) (hn : n ≤ 1000000) : Calls Tryd.prog 12 #[.agg (rgCells (.slice A n c) gm), valId y.x.F.id] V fun e w' => ∃ A' n' c' R', e = .returned (.tuple #[.agg (rgCells (.slice A' n' c') (gm.drop y.x.F.id).1), .int .i64 ((gm.drop y.x.F.id).2 : Int)]) ∧ RgAt w' (fun k => D k ∨ k = mp) A' n' c' R' (gm.drop y.x.F.id).1 ∧ RowKit.Below V.heap.size V w' :=
  refDrop_any h.s.r hn h.s.dlt y.x.F.id
theorem PlA.gdrop (h : PlA w mp x ab y T L D A n c R gg gm V) (hwt : gg.weight ≤ 1000000) (B : Option Addr) (cc : Nat) (hB : LiesX V D B (flat encId [y.x.F.id])) : Calls Tryd.prog 13 #[.pointer (some ⟨w.heap.size + 1, 0, none⟩), .slice B 1 cc] V fun e w' => ∃ T' L', e = .returned (.int .i64 ((gg.drop y.x.F.id).2 : Int)) ∧ PlA w mp x ab y T' L' D A n c R (gg.drop y.x.F.id).1 gm w' := by
  refine (drop_any h.s.g (Nat.le_trans h.s.g.lenw hwt) B cc y.x.F.id hB).mono ?_
  rintro e w' ⟨T', rfl, k1, k2, -⟩
  exact ⟨T', _, rfl, h.turned k1 (k2.mono fun k hk => h.s.g.gd k hk) (fun k hk => .inl hk) fun k hk => hk⟩
end

/-! Count of what is none -/
theorem putAt_c0 (g : Gm) (i : Nat) (F : Fr) : (g.putAt i F).1.counts.getD 0 0 = g.counts.getD 0 0 := by
  unfold Gm.putAt
  split
  · split
    · show (g.counts.set 5 _).getD 0 0 = _
      simp [List.getD_eq_getElem?_getD]
    · show (g.counts.set 4 _).getD 0 0 = _
      simp [List.getD_eq_getElem?_getD]
  · rfl
theorem bump_c0 (l : List Nat) (k n : Nat) (hk : k ≠ 0) : (bump l k n).getD 0 0 = l.getD 0 0 := by
  unfold bump
  rw [List.getD_eq_getElem?_getD, List.getElem?_set_ne hk, ← List.getD_eq_getElem?_getD]
theorem put_c0 (g : Gm) (may : Bool) (F : Fr) : (g.put may F).1.counts.getD 0 0 = g.counts.getD 0 0 := by
  unfold Gm.put
  split
  · split
    · split
      · exact bump_c0 _ _ _ (by decide)
      · split
        · exact bump_c0 _ _ _ (by decide)
        · exact putAt_c0 _ _ _
    · split
      · exact bump_c0 _ _ _ (by decide)
      · rw [putAt_c0]
        exact bump_c0 _ _ _ (by decide)
  · exact bump_c0 _ _ _ (by decide)
theorem drop_c0 (g : Gm) (x : Id) : (g.drop x).1.counts = g.counts := by
  unfold Gm.drop
  split <;> rfl
/-- What both are at the head of a round: i acts are done. -/
def PlL (w : World) (mp : Nat) (x : Id) (i : Nat) (V : World) : Prop := ∃ T L D A n c R g, PlS w mp x T L D A n c R g g V ∧ g.Ok ∧ g.weight ≤ 2 * i ∧ g.counts.getD 0 0 = 0
/-- .. behind an act. -/
def PlE (w : World) (mp : Nat) (x : Id) (ab : Nat) (y : Ga) (i : Nat) (V : World) : Prop := ∃ T L D A n c R g, PlA w mp x ab y T L D A n c R g g V ∧ g.Ok ∧ g.weight ≤ 2 * i ∧ g.counts.getD 0 0 = 0
section
variable {w V V' : World} {mp ab : Nat} {x : Id} {y : Ga} {i : Nat} {T : Value} {L : List Pz} {D : Nat → Prop} {A : Option Addr} {n c : Nat} {R : List Rp} {g : Gm}
theorem PlL.on (h : PlL w mp x i V) (hb : RowKit.Below V.heap.size V V') : PlL w mp x i V' := by
  obtain ⟨T, L, D, A, n, c, R, g, h1, h2⟩ := h
  exact ⟨T, L, D, A, n, c, R, g, h1.on hb, h2⟩
theorem PlL.below (h : PlL w mp x i V) : RowKit.Below w.heap.size w V := by
  obtain ⟨T, L, D, A, n, c, R, g, h1, -⟩ := h
  exact h1.below
/-- The act's box is laid. -/
theorem PlS.act (h : PlS w mp x T L D A n c R g g V) (y : Ga) (old : Array Value) : (V.alloc (.cells old 43)).heap[V.heap.size]? = some (.cells old 43 (0, 0)) ∧
    PlA w mp x V.heap.size y T L D A n c R g g ((V.alloc (.cells old 43)).setRow V.heap.size (encGa y).toArray) := by
  have h1 := heap_alloc_new V (.cells old 43 (0, 0))
  have hO : OnlyE (V.alloc (.cells old 43)) ((V.alloc (.cells old 43)).setRow V.heap.size (encGa y).toArray) (fun k => k = V.heap.size) := OnlyE.of_grown (grown_setRow _ _ _) rfl
  have hb : RowKit.Below V.heap.size V ((V.alloc (.cells old 43)).setRow V.heap.size (encGa y).toArray) := ((RowKit.Below.refl _ _).alloc (Nat.le_refl _) _).trans (hO.below (fun k hk => by omega) (by simp))
  exact ⟨h1, h.on hb, setRow_heap _ _ _ _ _ (0, 0) h1, fun hk => by have := (h.g.din _ hk).2; omega, h.lt⟩
/-- Both are laid. -/
theorem PlL.start {c0 m0 r0 : Int} {V1 V2 : World} (hid : V.heap.size = w.heap.size + 1 ∧ RowKit.Below w.heap.size w V ∧ V.heap[w.heap.size]? = some (.cells (idc x) 25 (0, 0)))
    (hg : GtAt V1 V.heap.size V.heap.size (.slice none 0 0) [] (newG c0 m0 r0) (fun k => k = V.heap.size)) (hb1 : RowKit.Below V.heap.size V V1) (hs1 : V1.heap.size = V.heap.size + 1) (hb2 : RowKit.Below V1.heap.size V1 V2) (old : Array Value) :
    (V2.alloc (.cells old 32)).heap[V2.heap.size]? = some (.cells old 32 (0, 0)) ∧ PlL w V2.heap.size x 0 ((V2.alloc (.cells old 32)).setRow V2.heap.size (rgCells (.slice none 0 0) (newG c0 m0 r0))) := by
  obtain ⟨h1, h2, h3⟩ := hid
  have hn := heap_alloc_new V2 (.cells old 32 (0, 0))
  have hO : OnlyE (V2.alloc (.cells old 32)) ((V2.alloc (.cells old 32)).setRow V2.heap.size (rgCells (.slice none 0 0) (newG c0 m0 r0))) (fun k => k = V2.heap.size) := OnlyE.of_grown (grown_setRow _ _ _) rfl
  have hb : RowKit.Below V2.heap.size V2 ((V2.alloc (.cells old 32)).setRow V2.heap.size (rgCells (.slice none 0 0) (newG c0 m0 r0))) := ((RowKit.Below.refl _ _).alloc (Nat.le_refl _) _).trans (hO.below (fun k hk => by omega) (by simp))
  have hz := hb2.size
  have hbb := hb1.trans ((hb2.trans (hb.mono hz)).mono (by omega))
  rw [h1] at hg
  refine ⟨hn, .slice none 0 0, [], _, none, 0, 0, [], newG c0 m0 r0, ⟨h2.trans (hbb.mono (by omega)), (hg.on hb2).on hb, ?_, setRow_heap _ _ _ _ _ (0, 0) hn, (hbb.block _ (by omega)).trans h3, fun e => by omega, by omega⟩, newG_ok c0 m0 r0, Nat.le_refl _, rfl⟩
  exact ⟨rfl, Nat.le_refl _, Nat.zero_le _, fun h => absurd rfl h, fun _ h => (by cases h), fun _ h => (by cases h), rfl⟩
theorem PlE.next (h : PlE w mp x ab y i V) (hb : RowKit.Below V.heap.size V V') : PlL w mp x i V' := by
  obtain ⟨T, L, D, A, n, c, R, g, h1, h2⟩ := h
  exact ⟨T, L, D, A, n, c, R, g, h1.s.on hb, h2⟩
end

section
variable {ops : Array Oper} {rest : List Oper} {dst : Option Tmp} {ty : TypeId} {pos : String} {aft : Array Edge} {a : Act} {w : World} {Q : Exit → Act → World → Prop} {cs : Array Value}
theorem Tryd.infoAct : (Tryd.prog.info? 43).map (·.size) = some 17 := by kernel_rfl
theorem encGa_one (y : Ga) : (encGa y).toArray.all (·.oneCell') = true := by
  have h1 := y.x.one
  have e : (encGa y).toArray = #[.int .i64 y.k] ++ y.x.cs := by
    apply Array.toList_inj.1
    rw [Array.toList_append]
    rfl
  rw [e, Array.all_append, h1]
  simp [Value.oneCell']
/-- An act of a row of acts is loaded whole. -/
theorem load_Ga (y : Operand) {b o : Nat} {z : Ga} (hx : a.eval y = .pointer (some ⟨b, o, none⟩)) (hc : w.rangeAt b o (encGa z)) (hz : (encGa z).toArray = cs)
    (h : wpList Tryd.prog ops Q rest (a.put dst (.agg cs)) w) : wpList Tryd.prog ops Q (⟨dst, .load 43 y, ty, pos, aft, none⟩ :: rest) a w :=
  wpList_load_mid rfl _ y rfl b o hx (encGa z) _ hc Tryd.underlying43 rfl (Tryd.infoAct.trans (by rw [encGa_len])) (hz ▸ h)
theorem store_Ga (x y : Operand) {g : Nat} {old : Array Value} (hx : a.eval x = .pointer (some ⟨g, 0, none⟩)) (hy : a.eval y = .agg cs) (hg : w.heap[g]? = some (.cells old 43 (0, 0))) (ho : old.size = 17) (hs : cs.size = 17) (h1 : cs.all (·.oneCell') = true)
    (h : wpList Tryd.prog ops Q rest (a.put dst undef) (w.setRow g cs)) : wpList Tryd.prog ops Q (⟨dst, .store 43 x y, ty, pos, aft, none⟩ :: rest) a w :=
  wpList_store_row rfl _ x y rfl g cs hx hy _ old hg (by rw [hs]; exact Tryd.infoAct) (by omega) h1 h
end

end Go.Proofs.YthkongnjokmmfaaDoor

set_option maxRecDepth 20000
namespace Go.Proofs.YthkongnjokmmfaaDoor
open Go.RowKit Go.Sort

theorem yields_Rg {ops : Array Oper} {S : World → Prop} {o : Oper} {a : Act} {x : Operand} {g : Nat} {cs : Array Value} (hw : Region.wanted o (yielded ops a.tmps) = true) (ho : o.op = .load 32 x) (hx : a.eval x = .pointer (some ⟨g, 0, none⟩)) (hs : cs.size = 12)
    (hS : ∀ V, S V → V.heap[g]? = some (.cells cs 32 (0, 0))) : YieldsIf Tryd.prog ops S o (.agg cs) a :=
  .inl ⟨hw, fun V hV => by
    have h1 := run_loadVar_row (P := Tryd.prog) V g _ _ cs (0, 0) _ (hS V hV) Tryd.underlying32 rfl (infoRg hs)
    unfold execOp
    simp only [ho, hx, Instr.loadAt, Instr.sureAddr, Sem.run_bind, Sem.run_pure, Result.andThen_ok, h1]⟩

/-- What Count answers. -/
def cntOf (g : Gm) (k : Nat) : Nat := if k < 6 then g.counts.getD k 0 else 0
section
variable {w U V : World} {mp ab : Nat} {x : Id} {y : Ga} {T : Value} {L : List Pz} {D : Nat → Prop} {A : Option Addr} {n c : Nat} {R : List Rp} {g : Gm}
theorem PlA.cu1 (h : PlA w mp x ab y T L D A n c R g g U) (hV : RowKit.Below U.heap.size U V) : Calls Tryd.prog 14 #[.pointer (some ⟨w.heap.size + 1, 0, none⟩)] V fun e w' => e = .returned (.int .i64 (usedL g.l : Int)) ∧ V = w' :=
  used_any (h.on hV).s.g
theorem PlA.cu2 (h : PlA w mp x ab y T L D A n c R g g U) (hok : g.Ok) (hV : RowKit.Below U.heap.size U V) : Calls Tryd.prog 15 #[.agg (rgCells (.slice A n c) g)] V fun e w' => e = .returned (.int .i64 (usedL g.l : Int)) ∧ RowKit.Below V.heap.size V w' :=
  refUsed_any (h.on hV).s.r (Nat.le_trans hok.used h.s.g.rm)
theorem PlA.cf1 (h : PlA w mp x ab y T L D A n c R g g U) (hok : g.Ok) (hwt : g.weight ≤ 1000) (hT : Tab w) (hV : RowKit.Below U.heap.size U V) (z : Id) : Calls Tryd.prog 16 #[.pointer (some ⟨w.heap.size + 1, 0, none⟩), .agg #[.int .u8 (z.f : Int), .int .u64 (z.s : Int)]] V fun e w' => e = .returned (.int .i64 (g.first z : Int)) ∧ RowKit.Below V.heap.size V w' :=
  first_g (h.on hV).s.g hok (Nat.le_trans h.s.g.lenw (by omega)) (hT.on (h.on hV).s.below) z
theorem PlA.cf2 (h : PlA w mp x ab y T L D A n c R g g U) (hok : g.Ok) (hn : n ≤ 1000) (hV : RowKit.Below U.heap.size U V) (z : Id) : Calls Tryd.prog 17 #[.agg (rgCells (.slice A n c) g), .agg #[.int .u8 (z.f : Int), .int .u64 (z.s : Int)]] V fun e w' => e = .returned (.int .i64 (g.first z : Int)) ∧ RowKit.Below V.heap.size V w' :=
  refFirst_any (h.on hV).s.r (by omega) (fun r hr => by
    have hm : r.x ∈ g.l := by rw [h.s.r.ml]; exact List.mem_map_of_mem hr
    have h1 := hok.parts _ hm
    have h2 := cntN_le r.x.size g.chunk
    have h3 := h1.size
    rw [h1.has]
    omega) z
theorem PlA.cc (h : PlA w mp x ab y T L D A n c R g g U) (hV : RowKit.Below U.heap.size U V) (k : Nat) (hk : k < 256) : Calls Tryd.prog 18 #[.pointer (some ⟨w.heap.size + 1, 0, none⟩), .int .u8 (k : Int)] V fun e w' => e = .returned (.int .i64 (cntOf g k : Int)) ∧ V = w' :=
  gcount_any (h.on hV).s.g k hk
theorem PlA.ci1 (h : PlA w mp x ab y T L D A n c R g g U) (hwt : g.weight ≤ 1000) (hV : RowKit.Below U.heap.size U V) : Calls Tryd.prog 20 #[.pointer (some ⟨w.heap.size + 1, 0, none⟩)] V (OwnIds V V.heap.size (g.l.map Part.id)) :=
  ids_g (h.on hV).s.g (Nat.le_trans h.s.g.lenw (by omega))
theorem PlA.ci2 (h : PlA w mp x ab y T L D A n c R g g U) (hn : n ≤ 1000) (hV : RowKit.Below U.heap.size U V) : Calls Tryd.prog 21 #[.agg (rgCells (.slice A n c) g)] V (OwnIds V V.heap.size (g.l.map Part.id)) :=
  refIDs_any (h.on hV).s.r (by omega)
theorem ids_same {l : List Id} {V3 V4 : World} {b3 b4 n3 n4 c3 c4 : Nat} {A3 A4 : Option Addr} (hl : l.length ≤ 1000) (h3 : l.length = n3) (o3 : V3.ownsRow b3 25 2 (.slice A3 n3 c3) n3 (flat encId l)) (hb : RowKit.Below V3.heap.size V3 V4) (h4 : l.length = n4) (o4 : V4.ownsRow b4 25 2 (.slice A4 n4 c4) n4 (flat encId l)) :
    Calls Tryd.prog 19 #[.slice A3 n3 c3, .slice A4 n4 c4] V4 fun e w' => e = .returned (.bool true) ∧ RowKit.Below V4.heap.size V4 w' := by
  have h := sameIds_any A3 A4 n3 c3 n4 c4 l l V4 h3 h4 (by omega) (Lies.of_ownK (own_below o3 hb)) (Lies.of_ownK o4)
  rw [decide_eq_true rfl] at h
  exact h
/-- The count that the law itself looks up. -/
theorem PlA.cnt (h : PlA w mp x ab y T L D A n c R g g U) (k : Nat) (hk : k < 6) : U.cell? ⟨mp, 6 + k, none⟩ = some (.int .i64 (g.counts.getD k 0 : Int)) := by
  refine (cell_of_row U mp (6 + k) _ _ _ h.s.row).trans ?_
  match k, hk with
  | 0, _ => rfl
  | 1, _ => rfl
  | 2, _ => rfl
  | 3, _ => rfl
  | 4, _ => rfl
  | 5, _ => rfl
/-- What the cut holds, taken apart. -/
theorem PlE.parts {i : Nat} (h : PlE w mp x ab y i U) (hi : i ≤ 101) : ∃ T L D A n c R g, PlA w mp x ab y T L D A n c R g g U ∧ g.Ok ∧ g.weight ≤ 1000 ∧ n ≤ 1000 ∧ g.counts.getD 0 0 = 0 := by
  obtain ⟨T, L, D, A, n, c, R, g, h1, h2, h3, h4⟩ := h
  refine ⟨T, L, D, A, n, c, R, g, h1, h2, by omega, ?_, h4⟩
  have := h1.s.r.mlen
  unfold Gm.weight at h3
  omega
end

end Go.Proofs.YthkongnjokmmfaaDoor
