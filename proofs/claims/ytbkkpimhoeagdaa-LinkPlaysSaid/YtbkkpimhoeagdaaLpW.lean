/- Acts: the arguments of LinkPlays opened, boxed. -/
import Derived.Test.YtbkkpimhoeagdaaLpFo
namespace Go.Proofs.Ytbkkpimhoeagdaa
open Go.ChangeShapes Go.WideShapes Go.ChangeAt Go.RowKit Go.Sort
set_option maxRecDepth 20000

/-- An act: its kind, its frame, its tick. -/
structure La where
  k : Int
  x : Pf
  n : Int
instance : Inhabited La := ⟨⟨0, atP 0, 0⟩⟩
def encLa (a : La) : List Value := [.int .i64 a.k] ++ (encPf a.x ++ [.int .i64 a.n])
theorem encLa_len (a : La) : (encLa a).length = 18 := by simp [encLa, encPf_len]

/-- Its frame's numbers are numbers of their kinds; its slices lie below block B. -/
structure LaOk (w : World) (B : Nat) (a : La) : Prop where
  wf : a.x.F.Wf
  k1 : -9223372036854775808 ≤ a.k
  k2 : a.k ≤ 9223372036854775807
  n1 : -9223372036854775808 ≤ a.n
  n2 : a.n ≤ 9223372036854775807
  x : a.x.X w (fun k => B ≤ k)
theorem LaOk.on {w w' : World} {B : Nat} {a : La} (h : LaOk w B a) (hb : Below B w w') : LaOk w' B a :=
  ⟨h.wf, h.k1, h.k2, h.n1, h.n2, h.x.kept ⟨hb.size, fun k _ hn => hb.block k (Nat.lt_of_not_le hn), hb.mono (Nat.zero_le _)⟩⟩

section
variable {H : Type} {enc : TypeId × Value → H} {w : World} {base : Nat} {spare : Nat → Bool} {held : Bool}

set_option maxRecDepth 10000 in
theorem open_frame_cells {fuel : Nat} {c0 c1 c2 c3 c4 c5 c6 c7 c8 c9 c10 c11 c12 c13 c14 c15 : Value} {x : DataW H × List MemPlace} (hf' : DataW.trod enc Try.prog w base spare held fuel 44 [c0, c1, c2, c3, c4, c5, c6, c7, c8, c9, c10, c11, c12, c13, c14, c15] = some x) :
    ∃ F, FrV w (fun _ => False) F #[c0, c1, c2, c3, c4, c5, c6, c7, c8, c9, c10, c11, c12, c13, c14, c15] ∧ F.Wf := by
  have hH : Try.prog.cellsOf 37 = 3 := by kernel_rfl
  have hI : Try.prog.cellsOf 39 = 2 := by kernel_rfl
  have h8 : Try.prog.cellsOf 5 = 1 := by kernel_rfl
  have h64 : Try.prog.cellsOf 27 = 1 := by kernel_rfl
  have h32 : Try.prog.cellsOf 40 = 1 := by kernel_rfl
  have hE : Try.prog.cellsOf 41 = 1 := by kernel_rfl
  have hU : Try.prog.cellsOf 42 = 1 := by kernel_rfl
  have hD : Try.prog.cellsOf 30 = 1 := by kernel_rfl
  obtain ⟨xs, n, -, -, -, hxl, hfs⟩ := DataW.trod_struct Try.underlying44 hf'
  have hx : ∀ i, i < 13 → ∃ y, xs[i]? = some y := fun i hi => ⟨_, List.getElem?_eq_getElem (by rw [hxl]; exact hi)⟩
  obtain ⟨y0, e0⟩ := hx 0 (by decide)
  obtain ⟨y1, e1⟩ := hx 1 (by decide)
  obtain ⟨y2, e2⟩ := hx 2 (by decide)
  obtain ⟨y3, e3⟩ := hx 3 (by decide)
  obtain ⟨y4, e4⟩ := hx 4 (by decide)
  obtain ⟨y5, e5⟩ := hx 5 (by decide)
  obtain ⟨y6, e6⟩ := hx 6 (by decide)
  obtain ⟨y7, e7⟩ := hx 7 (by decide)
  obtain ⟨y8, e8⟩ := hx 8 (by decide)
  obtain ⟨y9, e9⟩ := hx 9 (by decide)
  obtain ⟨y10, e10⟩ := hx 10 (by decide)
  obtain ⟨y11, e11⟩ := hx 11 (by decide)
  obtain ⟨y12, e12⟩ := hx 12 (by decide)
  have k0 : DataW.trod enc Try.prog w base spare held n 37 (List.take (Try.prog.cellsOf 37) (List.drop 0 [c0, c1, c2, c3, c4, c5, c6, c7, c8, c9, c10, c11, c12, c13, c14, c15])) = some y0 := (hfs 0 _ rfl).trans e0
  have k1 : DataW.trod enc Try.prog w base spare held n 39 (List.take (Try.prog.cellsOf 39) (List.drop 3 [c0, c1, c2, c3, c4, c5, c6, c7, c8, c9, c10, c11, c12, c13, c14, c15])) = some y1 := (hfs 1 _ rfl).trans e1
  have k2 : DataW.trod enc Try.prog w base spare held n 27 (List.take (Try.prog.cellsOf 27) (List.drop 5 [c0, c1, c2, c3, c4, c5, c6, c7, c8, c9, c10, c11, c12, c13, c14, c15])) = some y2 := (hfs 2 _ rfl).trans e2
  have k3 : DataW.trod enc Try.prog w base spare held n 40 (List.take (Try.prog.cellsOf 40) (List.drop 6 [c0, c1, c2, c3, c4, c5, c6, c7, c8, c9, c10, c11, c12, c13, c14, c15])) = some y3 := (hfs 3 _ rfl).trans e3
  have k4 : DataW.trod enc Try.prog w base spare held n 40 (List.take (Try.prog.cellsOf 40) (List.drop 7 [c0, c1, c2, c3, c4, c5, c6, c7, c8, c9, c10, c11, c12, c13, c14, c15])) = some y4 := (hfs 4 _ rfl).trans e4
  have k5 : DataW.trod enc Try.prog w base spare held n 40 (List.take (Try.prog.cellsOf 40) (List.drop 8 [c0, c1, c2, c3, c4, c5, c6, c7, c8, c9, c10, c11, c12, c13, c14, c15])) = some y5 := (hfs 5 _ rfl).trans e5
  have k6 : DataW.trod enc Try.prog w base spare held n 27 (List.take (Try.prog.cellsOf 27) (List.drop 9 [c0, c1, c2, c3, c4, c5, c6, c7, c8, c9, c10, c11, c12, c13, c14, c15])) = some y6 := (hfs 6 _ rfl).trans e6
  have k7 : DataW.trod enc Try.prog w base spare held n 27 (List.take (Try.prog.cellsOf 27) (List.drop 10 [c0, c1, c2, c3, c4, c5, c6, c7, c8, c9, c10, c11, c12, c13, c14, c15])) = some y7 := (hfs 7 _ rfl).trans e7
  have k8 : DataW.trod enc Try.prog w base spare held n 41 (List.take (Try.prog.cellsOf 41) (List.drop 11 [c0, c1, c2, c3, c4, c5, c6, c7, c8, c9, c10, c11, c12, c13, c14, c15])) = some y8 := (hfs 8 _ rfl).trans e8
  have k9 : DataW.trod enc Try.prog w base spare held n 41 (List.take (Try.prog.cellsOf 41) (List.drop 12 [c0, c1, c2, c3, c4, c5, c6, c7, c8, c9, c10, c11, c12, c13, c14, c15])) = some y9 := (hfs 9 _ rfl).trans e9
  have k10 : DataW.trod enc Try.prog w base spare held n 42 (List.take (Try.prog.cellsOf 42) (List.drop 13 [c0, c1, c2, c3, c4, c5, c6, c7, c8, c9, c10, c11, c12, c13, c14, c15])) = some y10 := (hfs 10 _ rfl).trans e10
  have k11 : DataW.trod enc Try.prog w base spare held n 42 (List.take (Try.prog.cellsOf 42) (List.drop 14 [c0, c1, c2, c3, c4, c5, c6, c7, c8, c9, c10, c11, c12, c13, c14, c15])) = some y11 := (hfs 11 _ rfl).trans e11
  have k12 : DataW.trod enc Try.prog w base spare held n 30 (List.take (Try.prog.cellsOf 30) (List.drop 15 [c0, c1, c2, c3, c4, c5, c6, c7, c8, c9, c10, c11, c12, c13, c14, c15])) = some y12 := (hfs 12 _ rfl).trans e12
  simp only [hH, hI, h64, h32, hE, hU, hD, List.drop_succ_cons, List.drop_zero, List.take_succ_cons, List.take_zero] at k0 k1 k2 k3 k4 k5 k6 k7 k8 k9 k10 k11 k12
  clear hfs hx e0 e1 e2 e3 e4 e5 e6 e7 e8 e9 e10 e11 e12
  obtain ⟨m0, m1, m2, n', _, _, t0, t1, t2⟩ := Deep.trod_struct3 Try.underlying37 k0
  simp only [h8, List.drop_succ_cons, List.drop_zero, List.take_succ_cons, List.take_zero] at t0 t1 t2
  obtain ⟨z0, rfl, b0⟩ := one_u8 t0
  obtain ⟨z1, rfl, b1⟩ := one_u8 t1
  obtain ⟨z2, rfl, b2⟩ := one_u8 t2
  obtain ⟨m3, m4, n'', _, _, t3, t4⟩ := trod_struct2 Try.underlying39 k1
  simp only [h8, h64, List.drop_succ_cons, List.drop_zero, List.take_succ_cons, List.take_zero] at t3 t4
  obtain ⟨z3, rfl, b3⟩ := one_u8 t3
  obtain ⟨z4, rfl, b4⟩ := one_u64 t4
  obtain ⟨z5, rfl, b5⟩ := one_u64 k2
  obtain ⟨z6, rfl, b6⟩ := one_u32 k3
  obtain ⟨z7, rfl, b7⟩ := one_u32 k4
  obtain ⟨z8, rfl, b8⟩ := one_u32 k5
  obtain ⟨z9, rfl, b9⟩ := one_u64 k6
  obtain ⟨z10, rfl, b10⟩ := one_u64 k7
  obtain ⟨Ae, ne, ce, le, rfl, hle, q1, q2, hLe⟩ := open_rns k8
  obtain ⟨Ax, nx, cx, lx, rfl, hlx, q3, q4, hLx⟩ := open_rns k9
  obtain ⟨ln, An, nn, cn, rfl, hln, q5, q6, hLn, hbn⟩ := open_nums Try.underlying42 Try.underlying27 h64 k10
  obtain ⟨lh, Ah, nh, ch, rfl, hlh, q7, q8, hLh, hbh⟩ := open_nums Try.underlying42 Try.underlying27 h64 k11
  obtain ⟨ld, Ad, nd, cd, rfl, hld, q9, q10, hLd⟩ := open_bytes Try.underlying30 Try.underlying5 h8 k12
  subst hle hlx hln hlh hld
  refine ⟨⟨z0, z1, z2, ⟨z3, z4, b3, b4⟩, z5, z6, z7, z8, z9, z10, le, lx, ln, lh, ld⟩, ⟨_, _, _, _, _, rfl, sl_of q1 q2 hLe, sl_of q3 q4 hLx, sl_of q5 q6 hLn, sl_of q7 q8 hLh, sl_of q9 q10 hLd⟩, ⟨b0, b1, b2, b5, b6, b7, b8, b9, b10, hbn, hbh⟩⟩

theorem open_la {fuel : Nat} {cs : List Value} {x : DataW H × List MemPlace} (hlen : cs.length = 18) (h : DataW.trod enc Try.prog w base spare held fuel 46 cs = some x) :
    ∃ y : La, cs = encLa y ∧ LaOk w w.heap.size y := by
  have hB : Try.prog.cellsOf 3 = 1 := by kernel_rfl
  have hF : Try.prog.cellsOf 44 = 16 := by kernel_rfl
  have hU : Try.prog.cellsOf 2 = 1 := by kernel_rfl
  match cs, hlen with
  | [b0, c0, c1, c2, c3, c4, c5, c6, c7, c8, c9, c10, c11, c12, c13, c14, c15, u0], _ =>
    obtain ⟨y0, y1, y2, n', _, _, t0, t1, t2⟩ := Deep.trod_struct3 Try.underlying46 h
    simp only [hB, hF, hU, List.drop_succ_cons, List.drop_zero, List.take_succ_cons, List.take_zero] at t0 t1 t2
    obtain ⟨F, hV, hW⟩ := open_frame_cells t1
    obtain ⟨xf, hxF, hxc, hxX⟩ := hV.pf
    obtain ⟨k, hk, _, wk⟩ := DataW.trod_int Try.underlying3 t0
    obtain ⟨r, hr, _, wr⟩ := DataW.trod_int Try.underlying2 t2
    obtain rfl : b0 = .int .i64 k := by simpa using hk
    obtain rfl : u0 = .int .i64 r := by simpa using hr
    have e1 := bounds_i64 wk
    have e2 := bounds_i64 wr
    refine ⟨⟨k, xf, r⟩, ?_, by show xf.F.Wf; rw [hxF]; exact hW, e1.1, e1.2, e2.1, e2.2, hxX.widen fun k hk => .inl hk⟩
    show _ = [Value.int .i64 k] ++ (xf.cs.toList ++ [.int .i64 r])
    rw [← hxc]
    rfl

theorem open_las {fuel : Nat} {v : Value} {x : DataW H × List MemPlace} (h : DataW.trod enc Try.prog w base spare held fuel 22 [v] = some x) :
    ∃ l A n c, v = .slice A n c ∧ l.length = n ∧ n ≤ c ∧ c ≤ maxLen ∧ Lies w w.heap.size A (flat encLa l) ∧ ∀ y ∈ l, LaOk w w.heap.size y := by
  rcases Deep.open_slice Try.underlying22 h with ⟨hcs, _⟩ | ⟨a, len, cap, m, n, D, Pl, hcs, _, hl, hm, hmm, _, hx⟩
  · injection hcs with hcs
    subst hcs
    exact ⟨[], none, 0, 0, rfl, rfl, Nat.le_refl _, Nat.zero_le _, Lies.nil, by simp⟩
  · injection hcs with hcs
    subst hcs
    have hlm : len ≤ m := by rw [hmm]; split <;> omega
    have hc18 : Try.prog.cellsOf 46 = 18 := by kernel_rfl
    have key : ∀ i, i < len → ∃ y : La, (∀ j u, (encLa y)[j]? = some u → w.cell? ((a.add (i * 18)).add j) = some u) ∧ LaOk w w.heap.size y := by
      intro i hi
      obtain ⟨cs', h1, h2⟩ := hx i (by omega)
      rw [hc18] at h1
      obtain ⟨_, hlen, hcell⟩ := World.cells?_some h1
      obtain ⟨y, rfl, hy⟩ := open_la hlen h2
      refine ⟨y, fun j u hu => ?_, hy⟩
      have hj : j < 18 := by
        have := (List.getElem?_eq_some_iff.1 hu).1
        rw [encLa_len] at this
        exact this
      have := hcell j (by omega)
      rw [this]
      exact hu
    obtain ⟨Y, hY⟩ := Deep.choose_lt (α := La) (n := len) key
    refine ⟨(List.range len).map Y, some a, len, cap, rfl, by simp, hl, hm, ?_, ?_⟩
    · intro hn
      have hp : 0 < len := by
        rcases Nat.eq_zero_or_pos len with h0 | h0
        · subst h0; simp [flat] at hn
        · exact h0
      have h0 := (hY 0 hp).1 0 _ rfl
      obtain ⟨b, off, spot⟩ := a
      have hspot : spot = none := by simpa [Addr.add] using World.cell?_spot h0
      subst hspot
      refine ⟨b, off, rfl, ?_, fun i u hu => ?_⟩
      · have := World.block_lt_of_cell? w _ h0
        rwa [Go.Proofs.Ytbkkpimhoeagdaa.add_plain, Go.Proofs.Ytbkkpimhoeagdaa.add_plain] at this
      · have hil : i < ((List.range len).map Y).length * 18 := by
          have := (List.getElem?_eq_some_iff.1 hu).1
          rw [flat_length encLa_len] at this
          exact this
        have hi5 : i / 18 < ((List.range len).map Y).length := by omega
        have hfa := flat_at encLa_len ((List.range len).map Y) (i / 18) (i % 18) (Nat.mod_lt _ (by decide)) hi5
        rw [show i / 18 * 18 + i % 18 = i by omega, hu] at hfa
        have hlt : i / 18 < len := by simpa using hi5
        have e : ((List.range len).map Y)[i / 18] = Y (i / 18) := by simp
        rw [e] at hfa
        have := (hY (i / 18) hlt).1 (i % 18) u hfa.symm
        rw [Go.Proofs.Ytbkkpimhoeagdaa.add_plain, Go.Proofs.Ytbkkpimhoeagdaa.add_plain] at this
        rwa [show off + i / 18 * 18 + i % 18 = off + i by omega] at this
    · intro y hy
      obtain ⟨i, hi, rfl⟩ := List.mem_map.1 hy
      exact (hY i (by simpa using hi)).2
end

/-- The cells of the act at place q. -/
theorem la_at {w : World} {B : Nat} {A : Option Addr} {l : List La} (h : Lies w B A (flat encLa l)) {q : Nat} (hq : q < l.length) :
    ∃ b off, A = some ⟨b, off, none⟩ ∧ b < B ∧ w.rangeAt b (off + q * 18) (encLa l[q]) := by
  have hn : flat encLa l ≠ [] := by
    intro h0
    have := flat_length encLa_len l
    rw [h0] at this
    simp at this
    omega
  obtain ⟨b, off, rfl, hb, hc⟩ := h hn
  refine ⟨b, off, rfl, hb, fun j v hv => ?_⟩
  have hj : j < 18 := by
    have := (List.getElem?_eq_some_iff.1 hv).1
    rwa [encLa_len] at this
  have := flat_at encLa_len l q j hj hq
  rw [hv] at this
  have h2 := hc (q * 18 + j) v this
  rwa [← Nat.add_assoc] at h2

theorem infoLa : (Try.prog.info? 46).map (·.size) = some 18 := by kernel_rfl
def laCs (a : La) : Array Value := (encLa a).toArray
theorem laCs_size (a : La) : (laCs a).size = 18 := by unfold laCs; rw [List.size_toArray, encLa_len]
theorem laCs_one (a : La) : (laCs a).all (·.oneCell') = true := by
  refine all_oneCell_toArray fun v hv => ?_
  simp only [encLa, List.mem_append, List.mem_cons, List.not_mem_nil, or_false] at hv
  rcases hv with rfl | hv | rfl
  · rfl
  · exact encPf_one a.x v hv
  · rfl

section
variable {ops : Array Oper} {rest : List Oper} {dst : Option Tmp} {ty : TypeId} {pos : String} {aft : Array Edge} {a : Act} {w : World} {Q : Exit → Act → World → Prop}
theorem load_act (y : Operand) {b o : Nat} {x : La} (hx : a.eval y = .pointer (some ⟨b, o, none⟩)) (hc : w.rangeAt b o (encLa x))
    (h : wpList Try.prog ops Q rest (a.put dst (.agg (laCs x))) w) : wpList Try.prog ops Q (⟨dst, .load 46 y, ty, pos, aft, none⟩ :: rest) a w :=
  wpList_load_mid rfl _ y rfl b o hx (encLa x) _ hc Try.underlying46 rfl (infoLa.trans (by rw [encLa_len])) h
theorem store_act_new (x y : Operand) {w1 : World} {g : Nat} {old cs : Array Value} (hgw : g = w1.heap.size) (hx : a.eval x = .pointer (some ⟨g, 0, none⟩)) (hy : a.eval y = .agg cs) (ho : old.size = 18) (hs : cs.size = 18) (h1 : cs.all (·.oneCell') = true)
    (h : wpList Try.prog ops Q rest (a.put dst undef) (w1.alloc (.cells cs 46))) : wpList Try.prog ops Q (⟨dst, .store 46 x y, ty, pos, aft, none⟩ :: rest) a (w1.alloc (.cells old 46)) := by
  subst hgw
  refine wpList_store_row rfl _ x y rfl w1.heap.size cs hx hy _ old (heap_alloc_new _ _) (infoLa.trans (by rw [hs])) (by omega) h1 ?_
  rw [setRow_new]
  exact h
end

/-- The act in its box. -/
structure ActB (g : Nat) (a : La) (W : World) : Prop where
  lt : g < W.heap.size
  c0 : W.cell? ⟨g, 0, none⟩ = some (.int .i64 a.k)
  f : W.rangeAt g 1 (encPf a.x)
  n : W.cell? ⟨g, 17, none⟩ = some (.int .i64 a.n)
theorem ActB.new (w : World) (a : La) : ActB w.heap.size a (w.alloc (.cells (laCs a) 46)) := by
  have hr := heap_alloc_new w (.cells (laCs a) 46)
  have hc : ∀ j, (w.alloc (.cells (laCs a) 46)).cell? ⟨w.heap.size, j, none⟩ = (encLa a)[j]? := fun j => (cell_of_row _ _ j _ _ _ hr).trans (by simp [laCs])
  refine ⟨by simp, (hc 0).trans rfl, fun j v hv => ?_, (hc 17).trans ?_⟩
  · rw [hc (1 + j)]
    have hj : j < 16 := by
      have := (List.getElem?_eq_some_iff.1 hv).1
      rwa [encPf_len] at this
    unfold encLa
    rw [List.getElem?_append_right (by simp), List.length_singleton, Nat.add_sub_cancel_left, List.getElem?_append_left (by rw [encPf_len]; exact hj)]
    exact hv
  · unfold encLa
    rw [List.getElem?_append_right (by simp), List.length_singleton, List.getElem?_append_right (by rw [encPf_len]; decide), encPf_len]
    rfl
theorem ActB.on {g : Nat} {a : La} {W W' : World} {D : Nat → Prop} (h : ActB g a W) (ho : OnlyE W W' D) (hD : ¬ D g) : ActB g a W' := by
  have hk := ho.same g h.lt hD
  exact ⟨Nat.lt_of_lt_of_le h.lt ho.size, (World.cell?_of_block (a := ⟨g, 0, none⟩) hk).trans h.c0, fun j v hv => (World.cell?_of_block (a := ⟨g, 1 + j, none⟩) hk).trans (h.f j v hv), (World.cell?_of_block (a := ⟨g, 17, none⟩) hk).trans h.n⟩
theorem ActB.below {g : Nat} {a : La} {W W' : World} (h : ActB g a W) (hb : RowKit.Below W.heap.size W W') : ActB g a W' := h.on (D := fun _ => False) (OnlyE.of_below hb) id

theorem refAcked_all (A : Option Addr) (n c width last upto : Nat) (lm : List Pf) (w : World) (hl : lm.length = n) (hnc : n ≤ c) (hcm : c ≤ maxLen) (hA : Lies w w.heap.size A (flat encPf lm)) (hn : n ≤ last) (hn1 : n ≤ 100) (hs : ∀ i (h : i < lm.length), lm[i].F.seq = firstN last n + i) :
    Calls Try.prog 32 #[.agg #[.int .i64 (width : Int), .slice A n c, .int .u64 (last : Int)], .int .u64 (upto : Int)] w (RGot w A lm width (lm.drop (ackN last n upto)) last (ackN last n upto)) := by
  by_cases hu : upto ≤ last
  · exact refAcked_any A n c width last upto lm w hl hu hA hn hn1 hs
  · exact refAcked_past A n c width last upto lm w hl hnc hcm (by omega)

end Go.Proofs.Ytbkkpimhoeagdaa
