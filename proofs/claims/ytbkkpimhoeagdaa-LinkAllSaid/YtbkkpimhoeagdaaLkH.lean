/- A link: Come, whatever comes; awake: the document's example. -/
import Derived.Test.YtbkkpimhoeagdaaLkG
namespace Go.Proofs.Ytbkkpimhoeagdaa
open Go.RowKit Go.Sort
set_option maxRecDepth 20000

section
variable {w : World} {base p pw pg : Nat} {T : Value} {l : List Pf} {s : Ls} {D : Nat → Prop}

theorem lcome_any (h : LinkB w base p pw pg T l s D) (x : Pf) (hX : x.X w (LD p pw pg T)) (hok : x.F.Ok) (hg : s.g.sum < 1000000) :
    Calls Try.prog 16 #[.pointer (some ⟨p, 0, none⟩), .agg x.cs] w (LCame w base p pw pg T l D (if s.comes x.F then x.F else atF 0) (s.comes x.F) (s.come x.F)) := by
  by_cases h1 : x.F.src = s.peer
  · by_cases h2 : x.F.dst = s.me
    · by_cases h3 : x.F.kind = 2
      · have e1 : s.comes x.F = false := by unfold Ls.comes; simp [h3]
        have e2 : s.come x.F = s.acked x.F.seq := by unfold Ls.come; rw [if_pos ⟨h1, h2⟩, if_pos h3]
        rw [e1, e2]
        rcases Nat.eq_zero_or_pos (ackN s.last s.fs.length x.F.seq) with h4 | h4
        · have e3 : s.acked x.F.seq = { s with fs := s.fs.drop (ackN s.last s.fs.length x.F.seq) } := by unfold Ls.acked; rw [h4, if_neg (by omega)]
          rw [e3]
          exact lcome_ack0 h x.F x.cs hX.frl h1 h2 h3 _ rfl h4
        · have e3 : s.acked x.F.seq = { s with fs := s.fs.drop (ackN s.last s.fs.length x.F.seq), tick := s.asked } := by unfold Ls.acked; rw [if_pos h4]
          rw [e3]
          exact lcome_ack1 h x.F x.cs hX.frl h1 h2 h3 _ rfl h4
      · by_cases h4 : x.F.kind = 1
        · have e2 : s.come x.F = { s with g := s.g.step x.F.seq } := by unfold Ls.come; rw [if_pos ⟨h1, h2⟩, if_neg h3, if_pos h4]
          rw [e2]
          by_cases h5 : x.F.seq = s.g.u + 1
          · have e1 : s.comes x.F = true := by unfold Ls.comes; simp [h1, h2, h4, h5]
            rw [e1]
            exact lcome_next h x.F x.cs hX.frl h1 h2 h4 hg hok h5 x rfl rfl hX
          · have e1 : s.comes x.F = false := by unfold Ls.comes; simp [h5]
            rw [e1]
            exact lcome_late h x.F x.cs hX.frl h1 h2 h4 hg hok h5
        · have e1 : s.comes x.F = false := by unfold Ls.comes; simp [h4]
          have e2 : s.come x.F = s := by unfold Ls.come; rw [if_pos ⟨h1, h2⟩, if_neg h3, if_neg h4]
          rw [e1, e2]
          exact lcome_kind h x.F x.cs hX.frl h1 h2 h3 h4
    · have e1 : s.comes x.F = false := by unfold Ls.comes; simp [h2]
      have e2 : s.come x.F = s := by unfold Ls.come; rw [if_neg fun e => h2 e.2]
      rw [e1, e2]
      exact lcome_dst h x.F x.cs hX.frl h1 h2
  · have e1 : s.comes x.F = false := by unfold Ls.comes; simp [h1]
    have e2 : s.come x.F = s := by unfold Ls.come; rw [if_neg fun e => h1 e.1]
    rw [e1, e2]
    exact lcome_src h x.F x.cs hX.frl h1
end

theorem range_kind {w : World} {g o : Nat} {y : Pf} (h : w.rangeAt g o (encPf y)) : w.cell? ⟨g, o, none⟩ = some (.int .u8 (y.F.kind : Int)) := h 0 _ rfl

theorem lies_new1 (w : World) (cs : Array Value) (t : TypeId) : Lies (w.alloc (.cells cs t)) (w.alloc (.cells cs t)).heap.size (some ⟨w.heap.size, 0, none⟩) cs.toList := by
  rw [show (w.alloc (.cells cs t)).heap.size = w.heap.size + 1 from by simp]
  exact lies_new w cs t

section
variable {w w' : World} {base p pw pg : Nat} {T : Value} {l : List Pf} {s s' : Ls} {D : Nat → Prop}

/-- What a call leaves is as it was below the link's base. -/
theorem LinkB.below (h : LinkB w base p pw pg T l s D) (ho : OnlyE w w' (LD p pw pg T)) : RowKit.Below base w w' := ho.below (fun k hk => (h.win.din k (h.ld k hk)).1) h.win.lo
theorem LkTo.only (h : LkTo w base p pw pg T D s' w') : OnlyE w w' (LD p pw pg T) := by
  obtain ⟨_, _, _, _, ho, _⟩ := h
  exact ho

/-- A frame that is built for the call is sent. -/
theorem lsend_new (h : LinkB w base p pw pg T l s D) (n : Nat) (i : Int) (hi : i = (n : Int)) (hn : n < 4294967296) (hlow : s.last + 1 ≤ 1000000) :
    Calls Try.prog 14 #[.pointer (some ⟨p, 0, none⟩), .slice (some ⟨w.heap.size, 0, none⟩) 1 1] (w.alloc (.cells #[.int .u8 0, .int .u8 0, .int .u8 0, .int .u8 0, .int .u64 0, .int .u64 0, .int .u32 i, .int .u32 0, .int .u32 0, .int .u64 0, .int .u64 0, .slice none 0 0, .slice none 0 0, .slice none 0 0, .slice none 0 0, .slice none 0 0] 44)) fun e w' =>
      e = .returned (.int .i64 (s.sendN : Int)) ∧ LkTo w base p pw pg T D (s.send (atF n)) w' := by
  subst hi
  have hbA : RowKit.Below w.heap.size w (w.alloc (.cells (atP n).cs 44)) := (RowKit.Below.refl _ _).alloc (Nat.le_refl _) _
  refine (lsend_any (h.on hbA) ⟨w.heap.size, 0, none⟩ 1 (atP n) (by rw [flat_single]; exact lies_new1 w (atP n).cs 44) (atP_X _ _ _) (atF_ok hn) (Nat.le_refl _) hlow).mono ?_
  rintro e w' ⟨rfl, hL⟩
  exact ⟨rfl, hL.from hbA⟩
end

theorem lcome_nil (cs : Array Value) (w : World) : Calls Try.prog 16 #[.pointer none, .agg cs] w fun e w' => e = .returned (.tuple #[.agg (atP 0).cs, .bool false]) ∧ RowKit.Below w.heap.size w w' := by
  have hd0 : ((none : Option Addr) == none) = true := rfl
  go_enter Try.func16, Try.ntmps16
  go_upto_region 1 with fail
  generalize hW0 : World.alloc (World.alloc w _) _ = W0
  have H0 : Hid (CpS w cs W0) := CpS.start hW0
  clear hW0
  go_quiet (fail)
  have hbq : RowKit.Below W0.heap.size W0 (W0.drewN nq) := ⟨rfl, rfl, rfl, Nat.le_refl _, fun _ _ => rfl⟩
  have H1 := Lib.hid (H0.out.on hbq)
  generalize W0.drewN nq = W at H1 ⊢
  clear hbq H0
  go_wp2_with (first | (refine store_frame (cs := (atP 0).cs) (.tmp 4) (.tmp 28) rfl rfl H1.out.res rfl (Pf.size (atP 0)) (Pf.one (atP 0)) ?_) | fail)
  refine bodyPost_ret (results_cell_tmp rfl _ _ (w.heap.size + 1) _ rfl (load_rowF (cmRow H1.out.cb _) (Pf.size (atP 0)))) rfl ?_
  exact ⟨rfl, H1.out.below.trans (cmBelow _)⟩

/-- The link of the example: New, Send. -/
def aw0 : Ls := newLs 0 1 4 5
def aw1 : Ls := aw0.send (atF 7)
def awF : Fr := seqd (headed aw0 1 (atF 7)) 1

set_option maxHeartbeats 1600000 in
theorem awake_any (w : World) : Calls Try.prog 9 #[] w fun e w' => e = .returned (.bool true) ∧ RowKit.Below w.heap.size w w' := by
  have hN := link_new 0 1 4 5 w w.heap.size (fun _ => False) (Nat.le_refl _) (fun _ h => h.elim) (by decide) (by decide) (by decide) (by decide) (by decide) (by decide)
  go_enter Try.func9, Try.ntmps9
  go_wp2_with fail
  refine hN.mono ?_
  rintro e w1 ⟨p, pw, pg, rfl, hL, hb1, -, -, -⟩
  have HL := Lib.hid hL
  have HB1 := Lib.hid hb1
  clear hN hL hb1
  go_wp2_with fail
  refine (lsend_new HL.out 7 _ rfl (by decide) (by decide)).mono ?_
  rintro e w2 ⟨rfl, T2, l2, D2, hL2, ho2, -, -, ht2⟩
  have HL2 : Hid (LinkB w2 w.heap.size p pw pg T2 l2 aw1 D2) := hL2
  have HB2 : Hid (RowKit.Below w.heap.size w w2) := HB1.out.trans (HL.out.below ho2)
  have hn1 : ((newLs 0 1 4 5).sendN : Int) = 1 := rfl
  clear hL2 ho2 ht2 HL HB1
  go_wp2_with fail
  refine (lout_any HL2.out 0).mono ?_
  rintro e w3 ⟨A3, n3, c3, rfl, hn3, hO3, hI3⟩
  have e3 : aw1.outF 0 = [awF] := rfl
  rw [e3] at hn3 hO3
  obtain rfl : 1 = n3 := hn3.out
  have HO3 := Lib.hid hO3
  have HI3 := Lib.hid hI3
  clear hO3 hI3 hn3 e3
  go_wp2_with fail
  refine (lout_any HI3.out.1 1).mono ?_
  rintro e w4 ⟨A4, n4, c4, rfl, hn4, hO4, hI4⟩
  have e4 : (aw1.outS 0).outF 1 = [] := rfl
  rw [e4] at hn4
  obtain rfl : 0 = n4 := hn4.out
  have HI4 := Lib.hid hI4
  have HO3b := Lib.hid (HO3.out.only hI4.2 (fun k hk => HL2.out.ldlt hk))
  clear hO4 hI4 hn4 e4
  go_wp2_with fail
  refine (lout_any HI4.out.1 5).mono ?_
  rintro e w5 ⟨A5, n5, c5, rfl, hn5, hO5, hI5⟩
  have e5 : ((aw1.outS 0).outS 1).outF 5 = [awF] := rfl
  rw [e5] at hn5 hO5
  obtain rfl : 1 = n5 := hn5.out
  have hO3c := HO3b.out.only hI5.2 (fun k hk => HL2.out.ldlt hk)
  have HB5 : Hid (RowKit.Below w.heap.size w w5) := HB2.out.trans (HL2.out.below (HI3.out.2.trans (HI4.out.2.trans hI5.2)))
  obtain ⟨g1, y1, rfl, hy1, -, -, hg1, hr1⟩ := hO3c.at_ 0 (by decide)
  obtain ⟨g2, y2, rfl, hy2, -, -, hg2, hr2⟩ := hO5.at_ 0 (by decide)
  have q1 := range_kind hr1
  have q2 := range_at hr1
  have q3 := range_seq hr2
  rw [hy1] at q1 q2
  rw [hy2] at q3
  have q1' : w5.cell? ⟨g1, 0, none⟩ = some (.int .u8 1) := q1
  have q2' : w5.cell? ⟨g1, 6, none⟩ = some (.int .u32 7) := q2
  have q3' : w5.cell? ⟨g2, 5, none⟩ = some (.int .u64 1) := q3
  clear q1 q2 q3 hr1 hr2 hy1 hy2 hO3c hO5 hI5 hn5 e5
  go_wp2
  go_ret
  exact ⟨rfl, HB5.out⟩

end Go.Proofs.Ytbkkpimhoeagdaa
