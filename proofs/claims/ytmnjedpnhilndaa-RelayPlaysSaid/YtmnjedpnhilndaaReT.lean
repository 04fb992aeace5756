/- Stage 16: the acts opened; what is gone through. -/
import Derived.Test.YtmnjedpnhilndaaReS
set_option maxRecDepth 20000
namespace Go.Proofs.Ytmnjedpnhilndaa
open Go.ChangeShapes Go.WideShapes Go.ChangeAt Go.RowKit Go.Sort

/-- An act: its kind, its frame, how many, who is left out, the vectors. -/
structure Ra where
  k : Int
  x : Pf
  m : Int
  B : Option Addr
  cb : Nat
  but : List UInt8
  U : Option Addr
  cu : Nat
  vs : List Value
  ls : List (List Nat)
instance : Inhabited Ra := ⟨⟨0, default, 0, none, 0, [], none, 0, [], []⟩⟩
def encRa (a : Ra) : List Value := [.int .i64 a.k] ++ (encPf a.x ++ [.int .i64 a.m, .slice a.B a.but.length a.cb, .slice a.U a.ls.length a.cu])
theorem encRa_len (a : Ra) : (encRa a).length = 20 := by simp [encRa, encPf_len]
/-- Its numbers are numbers of their kinds; its slices lie below block B. -/
structure RaOk (w : World) (B : Nat) (a : Ra) : Prop where
  x : PfOk w B a.x
  m : -9223372036854775808 ≤ a.m ∧ a.m ≤ 9223372036854775807
  nb : a.but.length ≤ a.cb ∧ a.cb ≤ maxLen
  lb : Lies w B a.B (bvs a.but)
  nu : a.ls.length ≤ a.cu ∧ a.cu ≤ maxLen
  lu : Lies w B a.U a.vs
  ru : VecRows w B a.vs a.ls
theorem RaOk.on {w w' : World} {B : Nat} {a : Ra} (h : RaOk w B a) (hb : Below B w w') : RaOk w' B a :=
  ⟨h.x.on hb, h.m, h.nb, h.lb.below hb, h.nu, h.lu.below hb, h.ru.1, fun i h1 h2 => by
    obtain ⟨A, n, c, e1, e2, e3, e4, e5⟩ := h.ru.2 i h1 h2
    exact ⟨A, n, c, e1, e2, e3, e4, e5.below hb⟩⟩
theorem RaOk.up {w : World} {B : Nat} {D : Nat → Prop} {a : Ra} (h : RaOk w B a) (hB : B ≤ w.heap.size) (hD : ∀ b, D b → B ≤ b) : UpX w D a.U a.vs a.ls where
  row := fun hn => by
    obtain ⟨b, off, e, h1, h2⟩ := h.lu hn
    exact ⟨b, off, e, by omega, fun hd => by have := hD b hd; omega, h2⟩
  len := h.ru.1
  vec := fun i h1 h2 => by
    obtain ⟨A, n, c, e1, e2, e3, e4, e5⟩ := h.ru.2 i h1 h2
    exact ⟨A, n, c, e1, e2, e3, e4, fun hn => by
      obtain ⟨b, off, e, h3, h4⟩ := e5 hn
      exact ⟨b, off, e, by omega, fun hd => by have := hD b hd; omega, h4⟩⟩
theorem RaOk.buts {w : World} {B : Nat} {D : Nat → Prop} {a : Ra} (h : RaOk w B a) (hB : B ≤ w.heap.size) (hD : ∀ b, D b → B ≤ b) : LiesX w D a.B (bvs a.but) := fun hn => by
  obtain ⟨b, off, e, h1, h2⟩ := h.lb hn
  exact ⟨b, off, e, by omega, fun hd => by have := hD b hd; omega, h2⟩

section
variable {H : Type} {enc : TypeId × Value → H} {w : World} {base : Nat} {spare : Nat → Bool} {held : Bool}

theorem open_ra {fuel : Nat} {cs : List Value} {x : DataW H × List MemPlace} (hlen : cs.length = 20) (h : DataW.trod enc Try.prog w base spare held fuel 43 cs = some x) :
    ∃ y : Ra, cs = encRa y ∧ RaOk w w.heap.size y := by
  have hK : Try.prog.cellsOf 3 = 1 := by kernel_rfl
  have hF : Try.prog.cellsOf 40 = 16 := by kernel_rfl
  have hB : Try.prog.cellsOf 38 = 1 := by kernel_rfl
  have hU : Try.prog.cellsOf 41 = 1 := by kernel_rfl
  have h8 : Try.prog.cellsOf 5 = 1 := by kernel_rfl
  match cs, hlen with
  | [k0, c0, c1, c2, c3, c4, c5, c6, c7, c8, c9, c10, c11, c12, c13, c14, c15, m0, b0, u0], _ =>
    obtain ⟨xs, n, -, -, -, hxl, hfs⟩ := DataW.trod_struct Try.underlying43 h
    have hx : ∀ i, i < 5 → ∃ y, xs[i]? = some y := fun i hi => ⟨_, List.getElem?_eq_getElem (by rw [hxl]; exact hi)⟩
    obtain ⟨y0, e0⟩ := hx 0 (by decide)
    obtain ⟨y1, e1⟩ := hx 1 (by decide)
    obtain ⟨y2, e2⟩ := hx 2 (by decide)
    obtain ⟨y3, e3⟩ := hx 3 (by decide)
    obtain ⟨y4, e4⟩ := hx 4 (by decide)
    have q0 : DataW.trod enc Try.prog w base spare held n 3 (List.take (Try.prog.cellsOf 3) (List.drop 0 [k0, c0, c1, c2, c3, c4, c5, c6, c7, c8, c9, c10, c11, c12, c13, c14, c15, m0, b0, u0])) = some y0 := (hfs 0 _ rfl).trans e0
    have q1 : DataW.trod enc Try.prog w base spare held n 40 (List.take (Try.prog.cellsOf 40) (List.drop 1 [k0, c0, c1, c2, c3, c4, c5, c6, c7, c8, c9, c10, c11, c12, c13, c14, c15, m0, b0, u0])) = some y1 := (hfs 1 _ rfl).trans e1
    have q2 : DataW.trod enc Try.prog w base spare held n 3 (List.take (Try.prog.cellsOf 3) (List.drop 17 [k0, c0, c1, c2, c3, c4, c5, c6, c7, c8, c9, c10, c11, c12, c13, c14, c15, m0, b0, u0])) = some y2 := (hfs 2 _ rfl).trans e2
    have q3 : DataW.trod enc Try.prog w base spare held n 38 (List.take (Try.prog.cellsOf 38) (List.drop 18 [k0, c0, c1, c2, c3, c4, c5, c6, c7, c8, c9, c10, c11, c12, c13, c14, c15, m0, b0, u0])) = some y3 := (hfs 3 _ rfl).trans e3
    have q4 : DataW.trod enc Try.prog w base spare held n 41 (List.take (Try.prog.cellsOf 41) (List.drop 19 [k0, c0, c1, c2, c3, c4, c5, c6, c7, c8, c9, c10, c11, c12, c13, c14, c15, m0, b0, u0])) = some y4 := (hfs 4 _ rfl).trans e4
    simp only [hK, hF, hB, hU, List.drop_succ_cons, List.drop_zero, List.take_succ_cons, List.take_zero] at q0 q1 q2 q3 q4
    clear hfs hx e0 e1 e2 e3 e4
    obtain ⟨F, hV, hW⟩ := open_frame_cells q1
    obtain ⟨xf, hxF, hxc, hxX⟩ := hV.pf
    obtain ⟨r0, f0, _, _⟩ := DataW.trod_int Try.underlying3 q0
    injection f0 with f0
    subst f0
    obtain ⟨r1, f1, _, wm⟩ := DataW.trod_int Try.underlying3 q2
    injection f1 with f1
    subst f1
    obtain ⟨lb, Ab, nb, cb, rfl, hlb, hcb, hmb, hLb⟩ := open_bytes Try.underlying38 Try.underlying5 h8 q3
    obtain ⟨lu, vu, Au, nu, cu, rfl, hlu, hcu, hmu, hLu, hRu⟩ := open_numRows Try.underlying41 (by kernel_rfl) Try.underlying37 Try.underlying32 (by kernel_rfl) q4
    have hlu2 : lu.length = nu := by rw [← hRu.1]; exact hlu
    subst hlb hlu2
    refine ⟨⟨r0, xf, r1, Ab, cb, lb, Au, cu, vu, lu⟩, ?_, ⟨⟨by show xf.F.Wf; rw [hxF]; exact hW, hxX.widen fun k hk => .inl hk⟩, bounds_i64 wm, ⟨hcb, hmb⟩, hLb, ⟨hcu, hmu⟩, hLu, hRu⟩⟩
    show _ = [Value.int .i64 r0] ++ (xf.cs.toList ++ _)
    rw [← hxc]
    rfl

theorem open_ras {fuel : Nat} {v : Value} {x : DataW H × List MemPlace} (h : DataW.trod enc Try.prog w base spare held fuel 22 [v] = some x) :
    ∃ l A n c, v = .slice A n c ∧ l.length = n ∧ n ≤ c ∧ c ≤ maxLen ∧ Lies w w.heap.size A (flat encRa l) ∧ ∀ y ∈ l, RaOk w w.heap.size y := by
  rcases Deep.open_slice Try.underlying22 h with ⟨hcs, _⟩ | ⟨a, len, cap, m, n, D, Pl, hcs, _, hl, hm, hmm, _, hx⟩
  · injection hcs with hcs
    subst hcs
    exact ⟨[], none, 0, 0, rfl, rfl, Nat.le_refl _, Nat.zero_le _, Lies.nil, by simp⟩
  · injection hcs with hcs
    subst hcs
    have hlm : len ≤ m := by rw [hmm]; split <;> omega
    have hc20 : Try.prog.cellsOf 43 = 20 := by kernel_rfl
    have key : ∀ i, i < len → ∃ y : Ra, (∀ j u, (encRa y)[j]? = some u → w.cell? ((a.add (i * 20)).add j) = some u) ∧ RaOk w w.heap.size y := by
      intro i hi
      obtain ⟨cs', h1, h2⟩ := hx i (by omega)
      rw [hc20] at h1
      obtain ⟨_, hlen, hcell⟩ := World.cells?_some h1
      obtain ⟨y, rfl, hy⟩ := open_ra hlen h2
      refine ⟨y, fun j u hu => ?_, hy⟩
      have hj : j < 20 := by
        have := (List.getElem?_eq_some_iff.1 hu).1
        rw [encRa_len] at this
        exact this
      have := hcell j (by omega)
      rw [this]
      exact hu
    obtain ⟨Y, hY⟩ := Deep.choose_lt (α := Ra) (n := len) key
    refine ⟨(List.range len).map Y, some a, len, cap, rfl, by simp, hl, hm, ?_, ?_⟩
    · intro hn
      have hp : 0 < len := by
        rcases Nat.eq_zero_or_pos len with h0 | h0
        · subst h0; simp [flat] at hn
        · exact h0
      have h0 := (hY 0 hp).1 0 _ rfl
      obtain ⟨b, off, spot⟩ := a
      have hspot : spot = none := by simpa [Addr.add] using World.cell?_spot h0
      subst hspot
      refine ⟨b, off, rfl, ?_, fun i u hu => ?_⟩
      · have := World.block_lt_of_cell? w _ h0
        rwa [Go.Proofs.Ytmnjedpnhilndaa.add_plain, Go.Proofs.Ytmnjedpnhilndaa.add_plain] at this
      · have hil : i < ((List.range len).map Y).length * 20 := by
          have := (List.getElem?_eq_some_iff.1 hu).1
          rw [flat_length encRa_len] at this
          exact this
        have hi5 : i / 20 < ((List.range len).map Y).length := by omega
        have hfa := flat_at encRa_len ((List.range len).map Y) (i / 20) (i % 20) (Nat.mod_lt _ (by decide)) hi5
        rw [show i / 20 * 20 + i % 20 = i by omega, hu] at hfa
        have hlt : i / 20 < len := by simpa using hi5
        have e : ((List.range len).map Y)[i / 20] = Y (i / 20) := by simp
        rw [e] at hfa
        have := (hY (i / 20) hlt).1 (i % 20) u hfa.symm
        rw [Go.Proofs.Ytmnjedpnhilndaa.add_plain, Go.Proofs.Ytmnjedpnhilndaa.add_plain] at this
        rwa [show off + i / 20 * 20 + i % 20 = off + i by omega] at this
    · intro y hy
      obtain ⟨i, hi, rfl⟩ := List.mem_map.1 hy
      exact (hY i (by simpa using hi)).2
end

/-- The cells of the act at place q. -/
theorem ra_at {w : World} {B : Nat} {A : Option Addr} {l : List Ra} (h : Lies w B A (flat encRa l)) {q : Nat} (hq : q < l.length) :
    ∃ b off, A = some ⟨b, off, none⟩ ∧ b < B ∧ w.rangeAt b (off + q * 20) (encRa l[q]) := by
  have hn : flat encRa l ≠ [] := by
    intro h0
    have := flat_length encRa_len l
    rw [h0] at this
    simp at this
    omega
  obtain ⟨b, off, rfl, hb, hc⟩ := h hn
  refine ⟨b, off, rfl, hb, fun j v hv => ?_⟩
  have hj : j < 20 := by
    have := (List.getElem?_eq_some_iff.1 hv).1
    rwa [encRa_len] at this
  have := flat_at encRa_len l q j hj hq
  rw [hv] at this
  have h2 := hc (q * 20 + j) v this
  rwa [← Nat.add_assoc] at h2

/-- Is there more than is gone through? -/
def greatR (a : Ra) : Bool := greatB a.x.F || decide (100 < a.but.length) || decide (10 < a.ls.length) || a.ls.any fun v => decide (100 < v.length)

section
variable {ops : Array Oper} {rest : List Oper} {dst : Option Tmp} {ty : TypeId} {pos : String} {aft : Array Edge} {a : Act} {w : World} {Q : Exit → Act → World → Prop} {cs : Array Value}
theorem Try.infoAct : (Try.prog.info? 43).map (·.size) = some 20 := by kernel_rfl
theorem encRa_one (y : Ra) : (encRa y).toArray.all (·.oneCell') = true := by
  have h1 := y.x.one
  have e : (encRa y).toArray = #[.int .i64 y.k] ++ y.x.cs ++ #[.int .i64 y.m, .slice y.B y.but.length y.cb, .slice y.U y.ls.length y.cu] := by
    apply Array.toList_inj.1
    rw [Array.toList_append, Array.toList_append]
    rfl
  rw [e, Array.all_append, Array.all_append, h1]
  simp [Value.oneCell']
/-- An act of a row of acts is loaded whole. -/
theorem load_Ra (y : Operand) {b o : Nat} {z : Ra} (hx : a.eval y = .pointer (some ⟨b, o, none⟩)) (hc : w.rangeAt b o (encRa z)) (hz : (encRa z).toArray = cs)
    (h : wpList Try.prog ops Q rest (a.put dst (.agg cs)) w) : wpList Try.prog ops Q (⟨dst, .load 43 y, ty, pos, aft, none⟩ :: rest) a w :=
  wpList_load_mid rfl _ y rfl b o hx (encRa z) _ hc Try.underlying43 rfl (Try.infoAct.trans (by rw [encRa_len])) (hz ▸ h)
theorem store_Ra (x y : Operand) {g : Nat} {old : Array Value} (hx : a.eval x = .pointer (some ⟨g, 0, none⟩)) (hy : a.eval y = .agg cs) (hg : w.heap[g]? = some (.cells old 43 (0, 0))) (ho : old.size = 20) (hs : cs.size = 20) (h1 : cs.all (·.oneCell') = true)
    (h : wpList Try.prog ops Q rest (a.put dst undef) (w.setRow g cs)) : wpList Try.prog ops Q (⟨dst, .store 43 x y, ty, pos, aft, none⟩ :: rest) a w :=
  wpList_store_row rfl _ x y rfl g cs hx hy _ old hg (by rw [hs]; exact Try.infoAct) (by omega) h1 h
end

/-- An act's box. -/
def ABox (ab : Nat) (y : Ra) (V : World) : Prop := V.heap[ab]? = some (.cells (encRa y).toArray 43 (0, 0))
section
variable {ab : Nat} {y : Ra} {V V' : World}
theorem ABox.lt (h : ABox ab y V) : ab < V.heap.size := (Array.getElem?_eq_some_iff.1 h).1
theorem ABox.on (h : ABox ab y V) (hb : RowKit.Below V.heap.size V V') : ABox ab y V' := (hb.block _ h.lt).trans h
theorem ABox.only {D : Nat → Prop} (h : ABox ab y V) (ho : OnlyE V V' D) (hD : ¬ D ab) : ABox ab y V' := (ho.same _ h.lt hD).trans h
theorem ABox.ac (h : ABox ab y V) (i : Nat) (u : Value) (hu : (encRa y)[i]? = some u) : V.cell? ⟨ab, i, none⟩ = some u := by
  refine (cell_of_row V ab i _ _ _ h).trans ?_
  rw [List.getElem?_toArray]
  exact hu
theorem ABox.kind (h : ABox ab y V) : V.cell? ⟨ab, 0, none⟩ = some (.int .i64 y.k) := h.ac 0 _ rfl
theorem ABox.most (h : ABox ab y V) : V.cell? ⟨ab, 17, none⟩ = some (.int .i64 y.m) := h.ac 17 _ rfl
theorem ABox.buts (h : ABox ab y V) : V.cell? ⟨ab, 18, none⟩ = some (.slice y.B y.but.length y.cb) := h.ac 18 _ rfl
theorem ABox.upto (h : ABox ab y V) : V.cell? ⟨ab, 19, none⟩ = some (.slice y.U y.ls.length y.cu) := h.ac 19 _ rfl
theorem encRa_mid (y : Ra) (j : Nat) (hj : j < 16) : (encRa y)[1 + j]? = (encPf y.x)[j]? := by
  unfold encRa
  rw [List.getElem?_append_right (by simp), List.getElem?_append_left (by rw [encPf_len]; simp; omega)]
  simp
theorem ABox.fr (h : ABox ab y V) : V.rangeAt ab 1 (encPf y.x) := fun j v hv => by
  have hj : j < 16 := by
    have := (List.getElem?_eq_some_iff.1 hv).1
    rwa [encPf_len] at this
  exact h.ac (1 + j) v ((encRa_mid y j hj).trans hv)
end

end Go.Proofs.Ytmnjedpnhilndaa
