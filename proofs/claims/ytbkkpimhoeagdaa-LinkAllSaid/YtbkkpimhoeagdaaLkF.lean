/- A link: Out. -/
import Derived.Test.YtbkkpimhoeagdaaLkE
namespace Go.Proofs.Ytbkkpimhoeagdaa
open Go.RowKit Go.Sort
set_option maxRecDepth 20000

theorem OnlyE.ofBelow {w w' : World} {B : Nat} (hb : RowKit.Below B w w') : OnlyE w w' (fun k => B ≤ k) := ⟨hb.size, fun i _ hn => hb.block i (by omega), hb.mono (Nat.zero_le _)⟩
theorem OnlyE.then {w w1 w' : World} {X : Nat → Prop} (h : OnlyE w w1 X) (hb : RowKit.Below w.heap.size w1 w') : OnlyE w w' X :=
  ⟨Nat.le_trans h.size hb.size, fun k hk hn => (hb.block k hk).trans (h.same k hk hn), h.base.trans (hb.mono (Nat.zero_le _))⟩

theorem FrsOwn.only {w w' : World} {base : Nat} {Fs : List Fr} {v : Value} {X : Nat → Prop} (h : FrsOwn w base Fs v) (ho : OnlyE w w' X) (hX : ∀ k, X k → k < base) : FrsOwn w' base Fs v := by
  obtain ⟨ys, h1, h2, h3⟩ := h
  exact ⟨ys, h1, own_only h2 ho fun b hb hd => by have := (h2.lt b hb).1; have := hX b hd; omega, fun y hy => (h3 y hy).only ho fun k hk => .inl (hX k hk)⟩

/-- One list behind another one. -/
theorem FrsOwn.append {w : World} {base n1 c1 n2 c2 : Nat} {Fs1 Fs2 : List Fr} {A1 A2 : Option Addr} (h1 : FrsOwn w base Fs1 (.slice A1 n1 c1)) (h2 : FrsOwn w base Fs2 (.slice A2 n2 c2)) (e1 : Fs1.length = n1) (e2 : Fs2.length = n2) (hb : base ≤ w.heap.size) (hn : n1 + n2 ≤ 10000) :
    ∃ A' c' w', (Builtin.append_ #[26, 26] 26 #[.slice A1 n1 c1, .slice A2 n2 c2]).run Try.prog w = .ok (.slice A' (n1 + n2) c') w' ∧ FrsOwn w' base (Fs1 ++ Fs2) (.slice A' (n1 + n2) c') ∧ RowKit.Below base w w' := by
  obtain ⟨ys, y1, y2, y3⟩ := h1
  obtain ⟨zs, z1, z2, z3⟩ := h2
  subst e1 e2
  have hl : zs.length = Fs2.length := by rw [← z1, List.length_map]
  obtain ⟨A', c', w', hrun, ho, hg, hbl, -, -⟩ := app_frames (c := c2) y2 hl (Lies.of_ownK z2) hb hn
  refine ⟨A', c', w', hrun, ⟨ys ++ zs, by rw [List.map_append, y1, z1], ?_, fun y hy => ?_⟩, hbl⟩
  · rw [List.length_append, flat_append]
    exact ho
  · rcases List.mem_append.1 hy with hy | hy
    · exact (y3 y hy).grow y2 hg
    · exact (z3 y hy).grow y2 hg

section
variable {w w' : World} {base p pw pg : Nat} {T : Value} {l : List Pf} {s : Ls} {D : Nat → Prop}

/-- .. behind what is written into new blocks. -/
theorem LkIn.behind {w3 : World} {s' : Ls} (h : LinkB w base p pw pg T l s D) (h3 : LkIn w base p pw pg T l D s' w3) (hb : RowKit.Below w.heap.size w3 w') : LkIn w base p pw pg T l D s' w' := by
  have ho := h3.2.then hb
  have hL := h3.1
  refine ⟨?_, ho⟩
  exact
  { box := (hb.block p h.plt).trans hL.box
    win :=
    { box := (hb.block pw h.win.plt).trans hL.win.box
      row := own_only hL.win.row (OnlyE.ofBelow hb) fun b hb' hd => by have := h.win.wlt (.inr hb'); omega
      frs := fun x hx => (h.win.frs x hx).kept (ho.mono h.ld)
      oks := h.win.oks, seqs := hL.win.seqs, dw := h.win.dw
      din := fun b hb' => ⟨(h.win.din b hb').1, Nat.lt_of_lt_of_le (h.win.din b hb').2 ho.size⟩
      fit := hL.win.fit, fit2 := hL.win.fit2, wid1 := hL.win.wid1, wid2 := hL.win.wid2, low := hL.win.low }
    gate := (hb.block pg h.gate.lt).trans hL.gate
    fs := hL.fs, dp := h.dp, dg := h.dg, me8 := hL.me8, peer8 := hL.peer8, sent1 := hL.sent1, tick1 := hL.tick1, asked1 := hL.asked1, again1 := hL.again1, again2 := hL.again2 }

theorem wordF_len (s : Ls) : s.wordF.length ≤ 1 := by unfold Ls.wordF; split <;> simp
theorem chunkF_len (s : Ls) : s.chunkF.length ≤ s.fs.length := by
  unfold Ls.chunkF
  split
  · rw [List.length_drop]; omega
  · exact Nat.le_refl _

set_option maxHeartbeats 800000 in
theorem lout_any (h : LinkB w base p pw pg T l s D) (now : Int) : Calls Try.prog 20 #[.pointer (some ⟨p, 0, none⟩), .int .i64 now] w (LFrs w base p pw pg T l D (s.outF now) (s.outS now)) := by
  have hm : max 0 (min now 1099511627776) = (tickN now : Int) := by unfold tickN; omega
  have ht : tickN now ≤ 1099511627776 := by unfold tickN; omega
  have hd0 : ((some ⟨p, 0, none⟩ : Option Addr) == none) = false := rfl
  have c6 := h.c6
  have f6 := h.fr 6
  have HS := Lib.hid (h.set 6 (.int .i64 (tickN now : Int)) (s.ask now) rfl rfl rfl rfl rfl rfl rfl h.sent1 h.tick1 ht rfl)
  have HO := Lib.hid (h.onlySet 6 (.int .i64 (tickN now : Int)))
  have H := Lib.hid h
  have HLE : Hid (s.fs.length ≤ 64) := by show _ ≤ _; have := h.win.fit; have := h.win.wid2; rw [h.len] at *; omega
  clear h ht
  go_enter Try.func20, Try.ntmps20
  go_upto_region 4 with fail
  have HZ : Hid ((w.setCell ⟨p, 6, none⟩ (.int .i64 (tickN now : Int))).heap.size = w.heap.size) := by show _ = _; simp [World.setCell]
  generalize w.setCell ⟨p, 6, none⟩ (.int .i64 (tickN now : Int)) = w1 at HS HO HZ ⊢
  clear c6 f6
  go_wp2_with fail
  refine (word_any HS.out).mono ?_
  rintro e w2 ⟨A1, n1, c1, rfl, hn1, hO1, hI1⟩
  have HO1 := Lib.hid hO1
  have HI1 := Lib.hid hI1
  clear hO1 hI1
  go_wp2_with fail
  refine (chunks_any HI1.out.1).mono ?_
  rintro e w3 ⟨A2, n2, c2, rfl, hn2, hO2, hI2⟩
  have hOx := HO1.out.only hI2.2 (fun k hk => HS.out.ldlt hk)
  have hOy : FrsOwn w3 w1.heap.size ((s.ask now).told).chunkF (.slice A2 n2 c2) := by
    obtain ⟨ys, y1, y2, y3⟩ := hO2
    exact ⟨ys, y1, own_base y2 HI1.out.2.size, fun y hy => (y3 y hy).base HI1.out.2.size⟩
  have hb1 : n1 ≤ 1 := hn1.out ▸ wordF_len _
  have hb2 : n2 ≤ 64 := Nat.le_trans (hn2.out ▸ chunkF_len _) HLE.out
  obtain ⟨A, c, w4, hrun, hO4, hb4⟩ := hOx.append hOy hn1.out hn2.out (Nat.le_trans HI1.out.2.size hI2.2.size) (by omega)
  have HI3 : Hid (LkIn w1 base p pw pg T l D (s.outS now) w4) := LkIn.behind HS.out (HI1.out.trans hI2) hb4
  have HO4 : Hid (FrsOwn w4 w1.heap.size (s.outF now) (.slice A (n1 + n2) c)) := hO4
  have HRUN := Lib.hid hrun
  have HN : Hid ((s.outF now).length = n1 + n2) := by show _ = _; unfold Ls.outF; rw [List.length_append, hn1.out, hn2.out]
  clear hrun hO4 hb4 hOx hOy hO2 hI2 hn1 hn2 hb1 hb2 HO1 HI1
  go_wp2_with (first | (at_builtin; refine wpList_append_run rfl (.tmp 14) (.tmp 16) 26 rfl rfl rfl HRUN.out ?_) | fail)
  go_ret
  refine ⟨_, _, _, rfl, HN.out, ?_, ⟨HI3.out.1, HO.out.trans HI3.out.2⟩⟩
  have h4 := HO4.out
  rw [HZ.out] at h4
  exact h4
end

end Go.Proofs.Ytbkkpimhoeagdaa
