/- Words of stage 10: a link as plain data and in memory. -/
import Derived.Test.YtbkkpimhoeagdaaLgB
import Derived.Test.YtbkkpimhoeagdaaSlO
namespace Go.Proofs.Ytbkkpimhoeagdaa
open Go.RowKit Go.Sort
set_option maxRecDepth 20000

/-- A link as plain data: between whom, how long it waits, its window, its gate, up to which number was sent, its tick, the one at which it was last asked. -/
structure Ls where
  me : Nat
  peer : Nat
  again : Nat
  width : Nat
  last : Nat
  fs : List Fr
  g : Gt
  sent : Nat
  tick : Nat
  asked : Nat

def Ls.cells (s : Ls) (pw pg : Nat) : Array Value := #[.pointer (some ⟨pw, 0, none⟩), .pointer (some ⟨pg, 0, none⟩), .int .u8 (s.me : Int), .int .u8 (s.peer : Int), .int .u64 (s.sent : Int), .int .i64 (s.tick : Int), .int .i64 (s.asked : Int), .int .i64 (s.again : Int)]

/-- The blocks that a link writes into. -/
def LD (p pw pg : Nat) (T : Value) : Nat → Prop := fun k => k = p ∨ k = pg ∨ WD pw T k

structure LinkB (w : World) (base p pw pg : Nat) (T : Value) (l : List Pf) (s : Ls) (D : Nat → Prop) : Prop where
  box : w.heap[p]? = some (.cells (s.cells pw pg) 75 (0, 0))
  win : WinAt w base pw T s.width s.last l D
  gate : GateAt w pg s.g
  fs : l.map Pf.F = s.fs
  dp : D p
  dg : D pg
  me8 : s.me < 256
  peer8 : s.peer < 256
  sent1 : s.sent ≤ s.last
  tick1 : s.tick ≤ 1099511627776
  asked1 : s.asked ≤ 1099511627776
  again1 : 1 ≤ s.again
  again2 : s.again ≤ 1099511627776

/-- What a call on a link leaves. -/
def LkTo (w : World) (base p pw pg : Nat) (T : Value) (D : Nat → Prop) (s' : Ls) (w' : World) : Prop :=
  ∃ T' l' D', LinkB w' base p pw pg T' l' s' D' ∧ OnlyE w w' (LD p pw pg T) ∧ (∀ b, D' b → D b ∨ w.heap.size ≤ b) ∧ (∀ b, D b → D' b) ∧ (∀ b, T'.ownBlock = some b → T.ownBlock = some b ∨ w.heap.size ≤ b)

section
variable {w w' : World} {base p pw pg : Nat} {T : Value} {l : List Pf} {s : Ls} {D : Nat → Prop}

theorem LinkB.len (h : LinkB w base p pw pg T l s D) : l.length = s.fs.length := by rw [← h.fs, List.length_map]
theorem LinkB.plt (h : LinkB w base p pw pg T l s D) : p < w.heap.size := (Array.getElem?_eq_some_iff.1 h.box).1
theorem LinkB.pp (h : LinkB w base p pw pg T l s D) : p ≠ pw := by
  rintro rfl
  have h1 := h.box
  rw [h.win.box] at h1
  injection h1 with h1
  injection h1 with _ h1
  exact absurd h1 (by decide)
theorem LinkB.pgp (h : LinkB w base p pw pg T l s D) : pg ≠ p := by
  rintro rfl
  have h1 := h.box
  rw [h.gate] at h1
  injection h1 with h1
  injection h1 with _ h1
  exact absurd h1 (by decide)
theorem LinkB.pgw (h : LinkB w base p pw pg T l s D) : pg ≠ pw := by
  rintro rfl
  have h1 := h.win.box
  rw [h.gate] at h1
  injection h1 with h1
  injection h1 with _ h1
  exact absurd h1 (by decide)
theorem LinkB.pT (h : LinkB w base p pw pg T l s D) : T.ownBlock ≠ some p := fun e => by
  obtain ⟨cur, hc⟩ := own_heap h.win.row e
  rw [h.box] at hc
  injection hc with hc
  injection hc with _ hc
  exact absurd hc (by decide)
theorem LinkB.gT (h : LinkB w base p pw pg T l s D) : T.ownBlock ≠ some pg := fun e => by
  obtain ⟨cur, hc⟩ := own_heap h.win.row e
  rw [h.gate] at hc
  injection hc with hc
  injection hc with _ hc
  exact absurd hc (by decide)
theorem LinkB.pW (h : LinkB w base p pw pg T l s D) : ¬ WD pw T p := fun e => e.elim h.pp h.pT
theorem LinkB.gW (h : LinkB w base p pw pg T l s D) : ¬ WD pw T pg := fun e => e.elim h.pgw h.gT
theorem LinkB.ld (h : LinkB w base p pw pg T l s D) : ∀ b, LD p pw pg T b → D b := fun b hb => by
  rcases hb with rfl | rfl | hb
  · exact h.dp
  · exact h.dg
  · exact h.win.dw b hb
theorem LinkB.ldlt (h : LinkB w base p pw pg T l s D) {b : Nat} (hb : LD p pw pg T b) : b < w.heap.size := (h.win.din b (h.ld b hb)).2
theorem LinkB.oks (h : LinkB w base p pw pg T l s D) : ∀ F ∈ s.fs, F.Ok := fun F hF => by
  rw [← h.fs] at hF
  obtain ⟨x, hx, rfl⟩ := List.mem_map.1 hF
  exact h.win.oks x hx

theorem LinkB.on (h : LinkB w base p pw pg T l s D) (hb : RowKit.Below w.heap.size w w') : LinkB w' base p pw pg T l s D :=
  { box := (hb.block p h.plt).trans h.box, win := h.win.on hb, gate := h.gate.on hb, fs := h.fs, dp := h.dp, dg := h.dg, me8 := h.me8, peer8 := h.peer8
    sent1 := h.sent1, tick1 := h.tick1, asked1 := h.asked1, again1 := h.again1, again2 := h.again2 }
theorem LkTo.refl (h : LinkB w base p pw pg T l s D) (hb : RowKit.Below w.heap.size w w') : LkTo w base p pw pg T D s w' :=
  ⟨T, l, D, h.on hb, OnlyE.of_below hb, fun _ => .inl, fun _ => id, fun _ => .inl⟩

/-- One call behind another one. -/
theorem LkTo.trans {w1 : World} {s' s'' : Ls} (h1 : LkTo w base p pw pg T D s' w1) (h2 : ∀ T' l' D', LinkB w1 base p pw pg T' l' s' D' → LkTo w1 base p pw pg T' D' s'' w') : LkTo w base p pw pg T D s'' w' := by
  obtain ⟨T1, l1, D1, hL1, ho1, hd1, hD1, ht1⟩ := h1
  obtain ⟨T2, l2, D2, hL2, ho2, hd2, hD2, ht2⟩ := h2 T1 l1 D1 hL1
  have hs := ho1.size
  refine ⟨T2, l2, D2, hL2, ⟨Nat.le_trans hs ho2.size, fun k hk hn => ?_, ho1.base.trans ho2.base⟩, fun b hb => ?_, fun b hb => hD2 b (hD1 b hb), fun b hb => ?_⟩
  · refine (ho2.same k (Nat.lt_of_lt_of_le hk hs) fun hk' => ?_).trans (ho1.same k hk hn)
    rcases hk' with e | e | e | e
    · exact hn (.inl e)
    · exact hn (.inr (.inl e))
    · exact hn (.inr (.inr (.inl e)))
    · rcases ht1 k e with e | e
      · exact hn (.inr (.inr (.inr e)))
      · omega
  · rcases hd2 b hb with e | e
    · exact hd1 b e
    · right; omega
  · rcases ht2 b hb with e | e
    · exact ht1 b e
    · right; omega

/-- .. behind new blocks. -/
theorem LkTo.from {w1 : World} {s' : Ls} (h : LkTo w1 base p pw pg T D s' w') (hb : RowKit.Below w.heap.size w w1) : LkTo w base p pw pg T D s' w' := by
  obtain ⟨T1, l1, D1, hL1, ho1, hd1, hD1, ht1⟩ := h
  have hs := hb.size
  exact ⟨T1, l1, D1, hL1, (OnlyE.of_below hb).trans ho1, fun b hb => (hd1 b hb).imp id fun e => by omega, hD1, fun b hb => (ht1 b hb).imp id fun e => by omega⟩

/-- The link's own box is written into. -/
theorem LinkB.set (h : LinkB w base p pw pg T l s D) (i : Nat) (u : Value) (s' : Ls) (he : (s.cells pw pg).setIfInBounds i u = s'.cells pw pg) (h1 : s'.width = s.width) (h2 : s'.last = s.last) (h3 : s'.g = s.g) (h4 : s'.fs = s.fs) (h5 : s'.me = s.me) (h6 : s'.peer = s.peer)
    (h7 : s'.sent ≤ s'.last) (h8 : s'.tick ≤ 1099511627776) (h9 : s'.asked ≤ 1099511627776) (h10 : s'.again = s.again) : LinkB (w.setCell ⟨p, i, none⟩ u) base p pw pg T l s' D :=
  { box := by rw [← he]; exact heap_setCell_same w p i _ _ _ h.box
    win := by rw [h1, h2]; exact h.win.kept (onlyE_set (D := fun k => k = p) rfl i u) (fun b hb e => by subst e; exact h.pW hb) (fun b e => by subst e; exact h.dp)
    gate := by rw [h3]; exact h.gate.kept (onlyE_set (D := fun k => k = p) rfl i u) h.pgp
    fs := by rw [h4]; exact h.fs
    dp := h.dp, dg := h.dg
    me8 := by rw [h5]; exact h.me8
    peer8 := by rw [h6]; exact h.peer8
    sent1 := h7, tick1 := h8, asked1 := h9
    again1 := by rw [h10]; exact h.again1
    again2 := by rw [h10]; exact h.again2 }
theorem LinkB.onlySet (_h : LinkB w base p pw pg T l s D) (i : Nat) (u : Value) : OnlyE w (w.setCell ⟨p, i, none⟩ u) (LD p pw pg T) := onlyE_set (.inl rfl) i u
/-- .. where window and blocks stay. -/
def LkIn (w : World) (base p pw pg : Nat) (T : Value) (l : List Pf) (D : Nat → Prop) (s' : Ls) (w' : World) : Prop := LinkB w' base p pw pg T l s' D ∧ OnlyE w w' (LD p pw pg T)
theorem LkIn.to {s' : Ls} (h : LkIn w base p pw pg T l D s' w') : LkTo w base p pw pg T D s' w' := ⟨T, l, D, h.1, h.2, fun _ => .inl, fun _ => id, fun _ => .inl⟩
theorem LkIn.trans {w1 : World} {s' s'' : Ls} (h1 : LkIn w base p pw pg T l D s' w1) (h2 : LkIn w1 base p pw pg T l D s'' w') : LkIn w base p pw pg T l D s'' w' := ⟨h2.1, h1.2.trans h2.2⟩
theorem LkIn.refl (h : LinkB w base p pw pg T l s D) (hb : RowKit.Below w.heap.size w w') : LkIn w base p pw pg T l D s w' := ⟨h.on hb, OnlyE.of_below hb⟩

theorem LinkB.inSet (h : LinkB w base p pw pg T l s D) {i : Nat} {u : Value} {s' : Ls} (h' : LinkB (w.setCell ⟨p, i, none⟩ u) base p pw pg T l s' D) : LkIn w base p pw pg T l D s' (w.setCell ⟨p, i, none⟩ u) := ⟨h', h.onlySet i u⟩

/-- The gate is written into. -/
theorem LinkB.gated (h : LinkB w base p pw pg T l s D) {g' : Gt} (hg : GateAt w' pg g') (ho : OnlyE w w' (fun k => k = pg)) : LkIn w base p pw pg T l D { s with g := g' } w' :=
  ⟨{ box := (ho.same p h.plt (fun e => h.pgp e.symm)).trans h.box
     win := h.win.kept ho (fun b hb e => by subst e; exact h.gW hb) (fun b e => by subst e; exact h.dg)
     gate := hg, fs := h.fs, dp := h.dp, dg := h.dg, me8 := h.me8, peer8 := h.peer8, sent1 := h.sent1, tick1 := h.tick1, asked1 := h.asked1, again1 := h.again1, again2 := h.again2 },
  ho.mono fun k hk => .inr (.inl hk)⟩

/-- Frames are put into the window. -/
theorem LinkB.put (h : LinkB w base p pw pg T l s D) {Fs : List Fr} (hP : PutIn w base pw T s.width s.last l D Fs w') : LkTo w base p pw pg T D { s with fs := s.fs ++ num s.last Fs, last := s.last + Fs.length } w' := by
  obtain ⟨T', l', D', hW, hl, ho, hd, hd2, ht⟩ := hP
  refine ⟨T', l', D', ?_, ho.mono fun k hk => .inr (.inr hk), hd, hd2, ht⟩
  exact
  { box := (ho.same p h.plt h.pW).trans h.box
    win := hW
    gate := h.gate.kept ho h.gW
    fs := by rw [hl, h.fs]
    dp := hd2 _ h.dp, dg := hd2 _ h.dg, me8 := h.me8, peer8 := h.peer8, sent1 := Nat.le_trans h.sent1 (Nat.le_add_right _ _), tick1 := h.tick1, asked1 := h.asked1, again1 := h.again1, again2 := h.again2 }

/-- Frames of the window are acknowledged. -/
theorem LinkB.acked (h : LinkB w base p pw pg T l s D) {k : Nat} (hA : AckedW w base pw T s.width s.last (l.drop k) D w') : LkTo w base p pw pg T D { s with fs := s.fs.drop k } w' := by
  obtain ⟨T', hW, ho, ht⟩ := hA
  refine ⟨T', l.drop k, D, ?_, ho.mono fun k hk => .inr (.inr hk), fun _ => .inl, fun _ => id, fun b hb => .inl (ht b hb)⟩
  exact
  { box := (ho.same p h.plt h.pW).trans h.box
    win := hW
    gate := h.gate.kept ho h.gW
    fs := by rw [List.map_drop, h.fs]
    dp := h.dp, dg := h.dg, me8 := h.me8, peer8 := h.peer8, sent1 := h.sent1, tick1 := h.tick1, asked1 := h.asked1, again1 := h.again1, again2 := h.again2 }

theorem LinkB.c0 (h : LinkB w base p pw pg T l s D) : w.cell? ⟨p, 0, none⟩ = some (.pointer (some ⟨pw, 0, none⟩)) := cell_of_row w p 0 _ _ _ h.box
theorem LinkB.c1 (h : LinkB w base p pw pg T l s D) : w.cell? ⟨p, 1, none⟩ = some (.pointer (some ⟨pg, 0, none⟩)) := cell_of_row w p 1 _ _ _ h.box
theorem LinkB.c2 (h : LinkB w base p pw pg T l s D) : w.cell? ⟨p, 2, none⟩ = some (.int .u8 (s.me : Int)) := cell_of_row w p 2 _ _ _ h.box
theorem LinkB.c3 (h : LinkB w base p pw pg T l s D) : w.cell? ⟨p, 3, none⟩ = some (.int .u8 (s.peer : Int)) := cell_of_row w p 3 _ _ _ h.box
theorem LinkB.c4 (h : LinkB w base p pw pg T l s D) : w.cell? ⟨p, 4, none⟩ = some (.int .u64 (s.sent : Int)) := cell_of_row w p 4 _ _ _ h.box
theorem LinkB.c5 (h : LinkB w base p pw pg T l s D) : w.cell? ⟨p, 5, none⟩ = some (.int .i64 (s.tick : Int)) := cell_of_row w p 5 _ _ _ h.box
theorem LinkB.c6 (h : LinkB w base p pw pg T l s D) : w.cell? ⟨p, 6, none⟩ = some (.int .i64 (s.asked : Int)) := cell_of_row w p 6 _ _ _ h.box
theorem LinkB.c7 (h : LinkB w base p pw pg T l s D) : w.cell? ⟨p, 7, none⟩ = some (.int .i64 (s.again : Int)) := cell_of_row w p 7 _ _ _ h.box
theorem LinkB.fr (h : LinkB w base p pw pg T l s D) (j : Nat) : w.frozen? ⟨p, j, none⟩ = false := frozen_of_row w p j _ _ h.box
end

/-! ### A nil link -/
theorem lroom_nil (w : World) : Calls Try.prog 21 #[.pointer none] w fun e w' => e = .returned (.int .i64 0) ∧ w' = w := by
  go_enter Try.func21, Try.ntmps21
  go_wp2
  go_ret
  exact ⟨rfl, rfl⟩
theorem lwaits_nil (w : World) : Calls Try.prog 22 #[.pointer none] w fun e w' => e = .returned (.int .i64 0) ∧ w' = w := by
  go_enter Try.func22, Try.ntmps22
  go_wp2
  go_ret
  exact ⟨rfl, rfl⟩
theorem lupto_nil (w : World) : Calls Try.prog 23 #[.pointer none] w fun e w' => e = .returned (.int .u64 0) ∧ w' = w := by
  go_enter Try.func23, Try.ntmps23
  go_wp2
  go_ret
  exact ⟨rfl, rfl⟩
theorem lsend_nil (v : Value) (w : World) : Calls Try.prog 14 #[.pointer none, v] w fun e w' => e = .returned (.int .i64 0) ∧ w' = w := by
  go_enter Try.func14, Try.ntmps14
  go_wp2
  go_ret
  exact ⟨rfl, rfl⟩
theorem lout_nil (v : Value) (w : World) : Calls Try.prog 20 #[.pointer none, v] w fun e w' => e = .returned (.slice none 0 0) ∧ w' = w := by
  go_enter Try.func20, Try.ntmps20
  go_wp2
  go_ret
  exact ⟨rfl, rfl⟩

/-! ### A link: what is asked of it -/
section
variable {w : World} {base p pw pg : Nat} {T : Value} {l : List Pf} {s : Ls} {D : Nat → Prop}

theorem lroom_any (h : LinkB w base p pw pg T l s D) : Calls Try.prog 21 #[.pointer (some ⟨p, 0, none⟩)] w fun e w' => e = .returned (.int .i64 ((s.width - s.fs.length : Nat) : Int)) ∧ RowKit.Below w.heap.size w w' := by
  have hR := room_any h.win
  rw [h.len] at hR
  have c0 := h.c0
  have hd0 : ((some ⟨p, 0, none⟩ : Option Addr) == none) = false := rfl
  clear h
  go_enter Try.func21, Try.ntmps21
  go_wp2_with fail
  refine hR.mono ?_
  rintro e w1 ⟨rfl, hb⟩
  have HB := Lib.hid hb
  clear hb
  go_wp2
  go_ret
  exact ⟨rfl, HB.out⟩
theorem lwaits_any (h : LinkB w base p pw pg T l s D) : Calls Try.prog 22 #[.pointer (some ⟨p, 0, none⟩)] w fun e w' => e = .returned (.int .i64 (s.fs.length : Int)) ∧ w' = w := by
  have hR := waits_any h.win
  rw [h.len] at hR
  have c0 := h.c0
  have hd0 : ((some ⟨p, 0, none⟩ : Option Addr) == none) = false := rfl
  clear h
  go_enter Try.func22, Try.ntmps22
  go_wp2_with fail
  refine hR.mono ?_
  rintro e w1 ⟨rfl, rfl⟩
  go_wp2
  go_ret
  exact ⟨rfl, rfl⟩
theorem lupto_any (h : LinkB w base p pw pg T l s D) : Calls Try.prog 23 #[.pointer (some ⟨p, 0, none⟩)] w fun e w' => e = .returned (.int .u64 (s.g.u : Int)) ∧ w' = w := by
  have hR := upto_any h.gate
  have c1 := h.c1
  have hd0 : ((some ⟨p, 0, none⟩ : Option Addr) == none) = false := rfl
  clear h
  go_enter Try.func23, Try.ntmps23
  go_wp2_with fail
  refine hR.mono ?_
  rintro e w1 ⟨rfl, rfl⟩
  go_wp2
  go_ret
  exact ⟨rfl, rfl⟩
theorem head_any (h : LinkB w base p pw pg T l s D) (k : Int) : Calls Try.prog 30 #[.pointer (some ⟨p, 0, none⟩), .int .u8 k] w fun e w' => e = .returned (.agg #[.int .u8 k, .int .u8 (s.me : Int), .int .u8 (s.peer : Int)]) ∧ RowKit.Below w.heap.size w w' := by
  have c2 := h.c2
  have c3 := h.c3
  have hp := h.plt
  have hd0 : ((some ⟨p, 0, none⟩ : Option Addr) == none) = false := rfl
  clear h
  go_enter Try.func30, Try.ntmps30
  go_wp2_with fail
  go_region
  all_goals
    go_wp2
    exact bodyPost_ret (results_cell_row rfl _ _ _ _ _ _ _ rfl (heap_alloc_new _ _) Try.underlying37 rfl (by kernel_rfl)) rfl ⟨rfl, ((RowKit.Below.refl _ _).alloc (Nat.le_refl _) _).drew⟩
end

end Go.Proofs.Ytbkkpimhoeagdaa
