/- All that was sent is let in: LinkAll's two links in memory, and the calls on them. -/
import Derived.Test.YtbkkpimhoeagdaaLkR
namespace Go.Proofs.Ytbkkpimhoeagdaa
open Go.RowKit Go.Sort
set_option maxRecDepth 20000

section
variable {w W W' : World} {a b : Pl} {T T' : Value} {l l' : List Pf} {s s' : Ls} {D : Nat → Prop}

/-- A call on the first one that leaves its window where it is. -/
theorem Duo.inA {s1 : Ls} (h : Duo w a b T l s T' l' s' D W) (ht : LkIn W w.heap.size a.p a.pw a.pg T l D s1 W') : Duo w a b T l s1 T' l' s' D W' ∧ OnlyE W W' D := by
  obtain ⟨hL, ho⟩ := ht
  have hld : ∀ k, LD a.p a.pw a.pg T k → D k := h.la.ld
  have hbn : ∀ k, LD b.p b.pw b.pg T' k → ¬ LD a.p a.pw a.pg T k := fun k hb ha => h.ap k ha hb
  refine ⟨⟨hL, ?_, h.ap, h.below.trans (h.la.below ho)⟩, ho.mono hld⟩
  have hB := h.lb
  exact
  { box := (ho.same b.p hB.plt (hbn _ (.inl rfl))).trans hB.box
    win := hB.win.grow (fun _ => id) (fun _ => .inl) ho (fun k hk => hbn k (.inr (.inr hk))) hld (fun k hk => hL.win.din k hk)
    gate := hB.gate.kept ho (hbn _ (.inr (.inl rfl)))
    fs := hB.fs, dp := hB.dp, dg := hB.dg, me8 := hB.me8, peer8 := hB.peer8, sent1 := hB.sent1, tick1 := hB.tick1, asked1 := hB.asked1, again1 := hB.again1, again2 := hB.again2 }
theorem Duo.inB {s1 : Ls} (h : Duo w a b T l s T' l' s' D W) (ht : LkIn W w.heap.size b.p b.pw b.pg T' l' D s1 W') : Duo w a b T l s T' l' s1 D W' ∧ OnlyE W W' D := by
  obtain ⟨h1, h2⟩ := h.symm.inA ht
  exact ⟨h1.symm, h2⟩

/-- No list. -/
theorem Row.none_ : Row w (.slice none 0 0) [] D W := ⟨World.ownsRow_nil _ _ _ _, fun b hb => by simp [Value.ownBlock] at hb⟩
/-- A list that a call answered. -/
theorem Row.of_own {base : Nat} {v : Value} {ys : List Pf} (ho : W'.ownsRow base 44 16 v (ys.map Pf.F).length (flat encPf ys)) (hb : w.heap.size ≤ base) (hD : ∀ k, D k → k < base) : Row w v ys D W' := by
  rw [List.length_map] at ho
  exact ⟨own_base ho hb, fun b hb1 hd => by have := hD b hd; have := (ho.lt b hb1).1; omega⟩
end

/-- The two links and what goes out of both, at a tick. -/
def AlS (w : World) (a b : Pl) (vf vb : Value) (Fs Gs : List Fr) (s s' : Ls) (W : World) : Prop :=
  ∃ T l T' l' D fw bk, Duo w a b T l s T' l' s' D W ∧ Row w vf fw D W ∧ Row w vb bk D W ∧ fw.map Pf.F = Fs ∧ bk.map Pf.F = Gs

section
variable {w W W' : World} {a b : Pl} {vf vb : Value} {Fs Gs : List Fr} {s s' : Ls}

theorem AlS.drop (h : AlS w a b vf vb Fs Gs s s' W) : AlS w a b (.slice none 0 0) (.slice none 0 0) [] [] s s' W := by
  obtain ⟨T, l, T', l', D, fw, bk, h1, -⟩ := h
  exact ⟨T, l, T', l', D, [], [], h1, Row.none_, Row.none_, rfl, rfl⟩
theorem AlS.on (h : AlS w a b vf vb Fs Gs s s' W) (hb : RowKit.Below W.heap.size W W') : AlS w a b vf vb Fs Gs s s' W' := by
  obtain ⟨T, l, T', l', D, fw, bk, h1, h2, h3, h4⟩ := h
  exact ⟨T, l, T', l', D, fw, bk, h1.on hb, h2.on hb, h3.on hb, h4⟩
theorem AlS.below (h : AlS w a b vf vb Fs Gs s s' W) : RowKit.Below w.heap.size w W := by
  obtain ⟨T, l, T', l', D, fw, bk, h1, -⟩ := h
  exact h1.below
theorem AlS.fit2 (h : AlS w a b vf vb Fs Gs s s' W) : s.fs.length ≤ s.last := by
  obtain ⟨T, l, T', l', D, fw, bk, h1, -⟩ := h
  exact h1.la.fit2
theorem AlS.few (h : AlS w a b vf vb Fs Gs s s' W) : s.fs.length ≤ 64 := by
  obtain ⟨T, l, T', l', D, fw, bk, h1, -⟩ := h
  have h2 := h1.la.fit
  have h3 := h1.la.win.wid2
  omega
theorem AlS.outN (h : AlS w a b vf vb Fs Gs s s' W) (t : Int) : (s.outF t).length ≤ 65 := by
  have h1 := h.few
  unfold Ls.outF
  rw [List.length_append]
  have h4 := wordF_len (s.ask t)
  have h5 := chunkF_len ((s.ask t).told)
  have h6 : ((s.ask t).told).fs.length = s.fs.length := rfl
  omega
theorem AlS.outNb (h : AlS w a b vf vb Fs Gs s s' W) (t : Int) : (s'.outF t).length ≤ 65 := by
  obtain ⟨T, l, T', l', D, fw, bk, h1, -⟩ := h
  have h2 := h1.lb.fit
  have h3 := h1.lb.win.wid2
  unfold Ls.outF
  rw [List.length_append]
  have h4 := wordF_len (s'.ask t)
  have h5 := chunkF_len ((s'.ask t).told)
  have h6 : ((s'.ask t).told).fs.length = s'.fs.length := rfl
  omega
theorem AlS.seqs (h : AlS w a b vf vb Fs Gs s s' W) : Seqs s := by
  obtain ⟨T, l, T', l', D, fw, bk, h1, -⟩ := h
  exact fun j hj => h1.la.seqAt hj
theorem AlS.small (h : AlS w a b vf vb Fs Gs s s' W) : s.me < 256 ∧ s.peer < 256 ∧ s'.me < 256 ∧ s'.peer < 256 ∧ s.again ≤ 1099511627776 ∧ 1 ≤ s.again := by
  obtain ⟨T, l, T', l', D, fw, bk, h1, -⟩ := h
  exact ⟨h1.la.me8, h1.la.peer8, h1.lb.me8, h1.lb.peer8, h1.la.again2, h1.la.again1⟩

theorem AlS.start {w1 w2 : World} {p pw pg p' pw' pg' : Nat} {r again : Int} {D : Nat → Prop} (h1 : LinkB w1 w.heap.size p pw pg (.slice none 0 0) [] (newLs 0 1 r again) D) (hb1 : RowKit.Below w.heap.size w w1)
    (h2 : LinkB w2 w.heap.size p' pw' pg' (.slice none 0 0) [] (newLs 1 0 r again) (fun k => D k ∨ k = p' ∨ k = pw' ∨ k = pg')) (hb2 : RowKit.Below w1.heap.size w1 w2) (e1 : w1.heap.size ≤ p') (e2 : w1.heap.size ≤ pw') (e3 : w1.heap.size ≤ pg') :
    AlS w ⟨p, pw, pg⟩ ⟨p', pw', pg'⟩ (.slice none 0 0) (.slice none 0 0) [] [] (newLs 0 1 r again) (newLs 1 0 r again) w2 :=
  ⟨_, _, _, _, _, [], [], Duo.start h1 hb1 h2 hb2 e1 e2 e3, Row.none_, Row.none_, rfl, rfl⟩

theorem AlS.send (h : AlS w a b vf vb Fs Gs s s' W) {sent : Nat} (hs : sent < 100000) (hl : s.last = sent) : Calls Try.prog 14 #[.pointer (some ⟨a.p, 0, none⟩), .slice (some ⟨W.heap.size, 0, none⟩) 1 1] (W.alloc (.cells #[.int .u8 0, .int .u8 0, .int .u8 0, .int .u8 0, .int .u64 0, .int .u64 0, .int .u32 (sent : Int), .int .u32 0, .int .u32 0, .int .u64 0, .int .u64 0, .slice none 0 0, .slice none 0 0, .slice none 0 0, .slice none 0 0, .slice none 0 0] 44)) fun e w' =>
    e = .returned (.int .i64 (s.sendN : Int)) ∧ AlS w a b vf vb Fs Gs (s.send (atF sent)) s' w' := by
  obtain ⟨T, l, T', l', D, fw, bk, h1, h2, h3, h4⟩ := h
  refine (lsend_new h1.la sent _ rfl (by omega) (by omega)).mono ?_
  rintro e w' ⟨rfl, ht⟩
  obtain ⟨T1, l1, D1, hS1, hd, ho⟩ := h1.stepA ht
  exact ⟨rfl, _, _, _, _, _, _, _, hS1, h2.step ho hd, h3.step ho hd, h4⟩

theorem AlS.outA (h : AlS w a b vf vb Fs Gs s s' W) (now : Int) : Calls Try.prog 20 #[.pointer (some ⟨a.p, 0, none⟩), .int .i64 now] W fun e w' => ∃ A1 n1 c1, e = .returned (.slice A1 n1 c1) ∧ Hid ((s.outF now).length = n1) ∧
    AlS w a b (.slice A1 n1 c1) vb (s.outF now) Gs (s.outS now) s' w' := by
  obtain ⟨T, l, T', l', D, fw, bk, h1, h2, h3, -, h5⟩ := h
  refine (lout_any h1.la now).mono ?_
  rintro e w' ⟨A1, n1, c1, rfl, hn1, hO, hI⟩
  obtain ⟨hD, ho⟩ := h1.inA hI
  obtain ⟨ys, y1, y2, -⟩ := hO
  rw [← y1] at y2
  exact ⟨A1, n1, c1, rfl, hn1, _, _, _, _, _, ys, bk, hD, Row.of_own y2 h1.below.size (fun k hk => (h1.la.win.din k hk).2), h3.step ho (fun k => .inl), y1, h5⟩
theorem AlS.outB (h : AlS w a b vf vb Fs Gs s s' W) (now : Int) : Calls Try.prog 20 #[.pointer (some ⟨b.p, 0, none⟩), .int .i64 now] W fun e w' => ∃ A1 n1 c1, e = .returned (.slice A1 n1 c1) ∧ Hid ((s'.outF now).length = n1) ∧
    AlS w a b vf (.slice A1 n1 c1) Fs (s'.outF now) s (s'.outS now) w' := by
  obtain ⟨T, l, T', l', D, fw, bk, h1, h2, h3, h4, -⟩ := h
  refine (lout_any h1.lb now).mono ?_
  rintro e w' ⟨A1, n1, c1, rfl, hn1, hO, hI⟩
  obtain ⟨hD, ho⟩ := h1.inB hI
  obtain ⟨ys, y1, y2, -⟩ := hO
  rw [← y1] at y2
  exact ⟨A1, n1, c1, rfl, hn1, _, _, _, _, _, fw, ys, hD, h2.step ho (fun k => .inl), Row.of_own y2 h1.below.size (fun k hk => (h1.la.win.din k hk).2), h4, y1⟩

theorem AlS.comeA {A : Option Addr} {n c k : Nat} (h : AlS w a b vf (.slice A n c) Fs Gs s s' W) (hn : Gs.length = n) (hk : k < n) (hb : ∀ F ∈ Gs, Bare F ∧ F.Ok) (hg : s.g.sum < 1000000) : ∃ gb y, A = some ⟨gb, 0, none⟩ ∧ W.rangeAt gb (k * 16) (encPf y) ∧
    Calls Try.prog 16 #[.pointer (some ⟨a.p, 0, none⟩), .agg y.cs] W fun e w' => (∃ v, e = .returned v) ∧ AlS w a b vf (.slice A n c) Fs Gs (s.come Gs[k]) s' w' := by
  obtain ⟨T, l, T', l', D, fw, bk, h1, h2, h3, h4, rfl⟩ := h
  rw [List.length_map] at hn
  obtain ⟨gb, hy, hA, hc⟩ := h3.frame hn hk
  obtain ⟨hw1, hw2⟩ := hb (bk[k]).F (List.mem_map_of_mem (List.getElem_mem hy))
  refine ⟨gb, bk[k], hA, hc, ?_⟩
  refine (lcome_any h1.la bk[k] hw1.X hw2 hg).mono ?_
  rintro e w' ⟨y2, rfl, -, -, hd⟩
  obtain ⟨T1, l1, D1, hS1, hd, ho⟩ := h1.stepA hd.to
  rw [List.getElem_map]
  exact ⟨⟨_, rfl⟩, _, _, _, _, _, _, _, hS1, h2.step ho hd, h3.step ho hd, h4, rfl⟩
theorem AlS.comeB {A : Option Addr} {n c k : Nat} (h : AlS w a b (.slice A n c) vb Fs Gs s s' W) (hn : Fs.length = n) (hk : k < n) (hb : ∀ F ∈ Fs, Bare F ∧ F.Ok) (hg : s'.g.sum < 1000000) : ∃ gb y, A = some ⟨gb, 0, none⟩ ∧ W.rangeAt gb (k * 16) (encPf y) ∧
    Calls Try.prog 16 #[.pointer (some ⟨b.p, 0, none⟩), .agg y.cs] W fun e w' => ∃ (y2 : Pf), e = .returned (.tuple #[.agg y2.cs, .bool (s'.comes Fs[k])]) ∧ (s'.comes Fs[k] = true → y2.F = Fs[k]) ∧ AlS w a b (.slice A n c) vb Fs Gs s (s'.come Fs[k]) w' := by
  obtain ⟨T, l, T', l', D, fw, bk, h1, h2, h3, rfl, h4⟩ := h
  rw [List.length_map] at hn
  obtain ⟨gb, hy, hA, hc⟩ := h2.frame hn hk
  obtain ⟨hw1, hw2⟩ := hb (fw[k]).F (List.mem_map_of_mem (List.getElem_mem hy))
  refine ⟨gb, fw[k], hA, hc, ?_⟩
  refine (lcome_any h1.lb fw[k] hw1.X hw2 hg).mono ?_
  rintro e w' ⟨y2, rfl, hF, -, hd⟩
  obtain ⟨T1, l1, D1, hS1, hd, ho⟩ := h1.stepB hd.to
  rw [List.getElem_map]
  refine ⟨y2, rfl, fun e => ?_, _, _, _, _, _, _, _, hS1, h2.step ho hd, h3.step ho hd, rfl, h4⟩
  rw [hF, if_pos e]
theorem AlS.waits (h : AlS w a b vf vb Fs Gs s s' W) : Calls Try.prog 22 #[.pointer (some ⟨a.p, 0, none⟩)] W fun e w' => e = .returned (.int .i64 (s.fs.length : Int)) ∧ w' = W := by
  obtain ⟨T, l, T', l', D, fw, bk, h1, -⟩ := h
  exact lwaits_any h1.la
end

end Go.Proofs.Ytbkkpimhoeagdaa
