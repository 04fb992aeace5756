/- What LinkPlays keeps: the link, and the document's in its box. -/
import Derived.Test.YtbkkpimhoeagdaaLpW
namespace Go.Proofs.Ytbkkpimhoeagdaa
open Go.RowKit Go.Sort
set_option maxRecDepth 20000

/-- The link (s), the document's in box q (r, its own tick dt). -/
structure LP (w : World) (p pw pg q : Nat) (T : Value) (l : List Pf) (s : Ls) (D : Nat → Prop) (r : Ls) (dt : Nat) (A : Option Addr) (c : Nat) (lm : List Pf) (B : Option Addr) (e : Nat) (ks : List Nat) (W : World) : Prop where
  link : LinkB W w.heap.size p pw pg T l s D
  row : W.heap[q]? = some (.cells (dlCells r dt A lm.length c B ks.length e) 34 (0, 0))
  dq : D q
  nq : ¬ LD p pw pg T q
  cg : lm.length ≤ c
  cm : c ≤ maxLen
  lies : LiesX W D A (flat encPf lm)
  lx : ∀ z ∈ lm, z.X W (fun k => w.heap.size ≤ k)
  liesk : LiesX W D B (kvs ks)
  fs : lm.map Pf.F = r.fs
  dt1 : dt ≤ 1099511627776
  dts : firstN r.last r.fs.length ≤ r.sent → dt = r.tick
  below : RowKit.Below w.heap.size w W

section
variable {w W W' : World} {p pw pg q : Nat} {T : Value} {l : List Pf} {s : Ls} {D : Nat → Prop} {r : Ls} {dt : Nat} {A : Option Addr} {c : Nat} {lm : List Pf} {B : Option Addr} {e : Nat} {ks : List Nat}

theorem LP.qlt (h : LP w p pw pg q T l s D r dt A c lm B e ks W) : q < W.heap.size := (h.link.win.din q h.dq).2
theorem LP.hq (h : LP w p pw pg q T l s D r dt A c lm B e ks W) : w.heap.size ≤ q := (h.link.win.din q h.dq).1
theorem LP.hD (h : LP w p pw pg q T l s D r dt A c lm B e ks W) : ∀ k, D k → w.heap.size ≤ k := fun k hk => (h.link.win.din k hk).1
theorem LP.on (h : LP w p pw pg q T l s D r dt A c lm B e ks W) (hb : RowKit.Below W.heap.size W W') : LP w p pw pg q T l s D r dt A c lm B e ks W' :=
  ⟨h.link.on hb, (hb.block q h.qlt).trans h.row, h.dq, h.nq, h.cg, h.cm, h.lies.kept (OnlyE.of_below hb), fun z hz => (h.lx z hz).on hb, h.liesk.kept (OnlyE.of_below hb), h.fs, h.dt1, h.dts, h.below.trans (hb.mono h.below.size)⟩
theorem LP.len (h : LP w p pw pg q T l s D r dt A c lm B e ks W) : lm.length = r.fs.length := by rw [← h.fs, List.length_map]
theorem LP.frl (h : LP w p pw pg q T l s D r dt A c lm B e ks W) : ∀ z ∈ lm, FrL W z.F z.cs := fun z hz => (h.lx z hz).frl

/-- The document's link is stored anew. -/
theorem LP.mstep {W8 W9 W10 : World} {r' : Ls} {dt' : Nat} {ys : List Pf} {ks' : List Nat} {v : Value} (h : LP w p pw pg q T l s D r dt A c lm B e ks W8) (hv : DL W8 A lm B ks r' dt' ys ks' v W9) (hy : ∀ z ∈ ys, z.X W8 (fun k => w.heap.size ≤ k)) (hf : ys.map Pf.F = r'.fs) (hdt : dt' ≤ 1099511627776) (hts : firstN r'.last r'.fs.length ≤ r'.sent → dt' = r'.tick)
    (ho : OnlyE W9 W10 (fun k => k = q)) (hrow : ∀ vc, v = .agg vc → W10.heap[q]? = some (.cells vc 34 (0, 0))) : ∃ A' c' B' e', v = .agg (dlCells r' dt' A' ys.length c' B' ks'.length e') ∧ LP w p pw pg q T l s D r' dt' A' c' ys B' e' ks' W10 := by
  obtain ⟨A', c', B', e', rfl, hc, hcm, hK, hKK, hb⟩ := hv
  refine ⟨A', c', B', e', rfl, ?_⟩
  have hA := h.on hb
  have hDlt : ∀ k, D k → k < W8.heap.size := fun k hk => (h.link.win.din k hk).2
  have hl1 : LiesX W9 D A' (flat encPf ys) := hK D hDlt h.lies
  have hl2 : LiesX W9 D B' (kvs ks') := hKK D hDlt h.liesk
  have hL := hA.link
  refine ⟨?_, hrow _ rfl, h.dq, h.nq, hc, hcm, hl1.kept (ho.mono fun k e => e ▸ h.dq), fun z hz => ((hy z hz).on hb).kept (ho.mono fun k e => e ▸ h.hq), hl2.kept (ho.mono fun k e => e ▸ h.dq), hf, hdt, hts, hA.below.trans (ho.below (fun k e => e ▸ h.hq) hA.below.size)⟩
  have hne : ∀ b, LD p pw pg T b → ¬ b = q := fun b hb e => h.nq (e ▸ hb)
  exact
  { box := (ho.same p hL.plt (hne p (.inl rfl))).trans hL.box
    win := hL.win.kept ho (fun b hb => hne b (.inr (.inr hb))) (fun b e => e ▸ h.dq)
    gate := hL.gate.kept ho (hne pg (.inr (.inl rfl)))
    fs := hL.fs, dp := hL.dp, dg := hL.dg, me8 := hL.me8, peer8 := hL.peer8, sent1 := hL.sent1, tick1 := hL.tick1, asked1 := hL.asked1, again1 := hL.again1, again2 := hL.again2 }

/-- The link's own step. -/
theorem LP.wstep {s' : Ls} (h : LP w p pw pg q T l s D r dt A c lm B e ks W) (ht : LkTo W w.heap.size p pw pg T D s' W') : ∃ T' l' D', LP w p pw pg q T' l' s' D' r dt A c lm B e ks W' := by
  obtain ⟨T', l', D', hL, ho, hd, hd2, hT⟩ := ht
  have hq := h.qlt
  have hld : ∀ b, LD p pw pg T b → D b := h.link.ld
  refine ⟨T', l', D', hL, (ho.same q hq h.nq).trans h.row, hd2 q h.dq, fun e => ?_, h.cg, h.cm, (h.lies.widen fun k hk => (hd k hk).symm).kept (ho.mono fun k e => hd2 k (hld k e)), fun z hz => (h.lx z hz).kept (ho.mono fun k e => h.hD k (hld k e)), (h.liesk.widen fun k hk => (hd k hk).symm).kept (ho.mono fun k e => hd2 k (hld k e)), h.fs, h.dt1, h.dts, h.below.trans (ho.below (fun k e => h.hD k (hld k e)) h.below.size)⟩
  rcases e with e | e | e | e
  · exact h.nq (.inl e)
  · exact h.nq (.inr (.inl e))
  · exact h.nq (.inr (.inr (.inl e)))
  · rcases hT q e with e | e
    · exact h.nq (.inr (.inr (.inr e)))
    · omega
end

theorem LinkB.fit3 {w : World} {base p pw pg : Nat} {T : Value} {l : List Pf} {s : Ls} {D : Nat → Prop} (h : LinkB w base p pw pg T l s D) : s.fs.length ≤ 64 := by
  have h1 := h.win.fit
  have h2 := h.win.wid2
  have h3 := h.len
  omega

/-! ### The document's calls, where the two go together -/
section
variable {w W : World} {p pw pg q : Nat} {T : Value} {l : List Pf} {s : Ls} {D : Nat → Prop} {dt : Nat} {A : Option Addr} {c : Nat} {lm : List Pf} {B : Option Addr} {e : Nat} {ks : List Nat}

theorem LP.fit (h : LP w p pw pg q T l s D s dt A c lm B e ks W) : lm.length ≤ s.width ∧ s.width ≤ 64 ∧ lm.length ≤ s.last ∧ s.last ≤ 1000000 := by
  have h1 := h.link.win.fit
  have h2 := h.link.win.wid2
  have h3 := h.link.win.fit2
  have h4 := h.link.win.low
  have h5 := h.link.len
  have h6 := h.len
  omega
theorem LP.seqs (h : LP w p pw pg q T l s D s dt A c lm B e ks W) : ∀ i (hi : i < lm.length), lm[i].F.seq = firstN s.last lm.length + i := fun i hi => by
  have hl := h.link.len
  have hlm := h.len
  have hi2 : i < l.length := by omega
  have hm : l.map Pf.F = lm.map Pf.F := by rw [h.link.fs, h.fs]
  rw [map_at hm hi2 hi, show lm.length = l.length by omega]
  exact h.link.win.seqAt hi2

theorem LP.dsend (h : LP w p pw pg q T l s D s dt A c lm B e ks W) (x : Pf) (hx : x.X W (fun k => w.heap.size ≤ k)) :
    Calls Try.prog 13 #[.agg (dlCells s dt A lm.length c B ks.length e), .agg x.cs] W fun en W9 => ∃ v ys, en = .returned (.tuple #[v, .int .i64 (s.sendN : Int)]) ∧ DL W A lm B ks (s.send x.F) dt ys ks v W9 ∧ ys.map Pf.F = (s.send x.F).fs ∧ (∀ z ∈ ys, z.X W (fun k => w.heap.size ≤ k)) := by
  have hf := h.fit
  have hl := h.len
  by_cases hr : s.fs.length < s.width
  · have e1 : s.sendN = 1 := by unfold Ls.sendN; rw [if_pos hr]
    have e2 : s.send x.F = { s with fs := s.fs ++ num s.last [headed s 1 x.F], last := s.last + 1 } := by unfold Ls.send; rw [if_pos hr]
    rw [e1, e2]
    refine (refLSend_gen s dt A lm.length c B ks.length e lm (lm ++ [(x.headed s 1).seqd (s.last + 1)]) ks x (s.last + 1) 1 W rfl fun V hV => refPut_any A lm.length c s.width s.last lm (x.headed s 1) V rfl (by omega) (by omega) (by omega) (h.on hV).lies.lies).mono ?_
    rintro en W9 ⟨v, rfl, hv⟩
    refine ⟨v, _, rfl, hv, ?_, fun z hz => ?_⟩
    · rw [List.map_append, h.fs]
      rfl
    · rcases List.mem_append.1 hz with hz | hz
      · exact h.lx z hz
      · simp only [List.mem_cons, List.not_mem_nil, or_false] at hz
        subst hz
        exact hx
  · have e1 : s.sendN = 0 := by unfold Ls.sendN; rw [if_neg hr]
    have e2 : s.send x.F = s := by unfold Ls.send; rw [if_neg hr]
    rw [e1, e2]
    refine (refLSend_gen s dt A lm.length c B ks.length e lm lm ks x s.last 0 W rfl fun V hV => refPut_full A lm.length c s.width s.last lm (x.headed s 1) V rfl h.cg h.cm (by omega)).mono ?_
    rintro en W9 ⟨v, rfl, hv⟩
    exact ⟨v, _, rfl, hv, h.fs, h.lx⟩

theorem firstN_drop (last n k : Nat) (hn : n ≤ last) (hk : k ≤ n) : firstN last (n - k) = firstN last n + k := by unfold firstN; omega

theorem LP.dcome (h : LP w p pw pg q T l s D s dt A c lm B e ks W) (x : Pf) (hx : x.X W (fun k => w.heap.size ≤ k)) (hu : s.g.u ≤ 1000000) (hk : ks.length ≤ 1000) :
    Calls Try.prog 15 #[.agg (dlCells s dt A lm.length c B ks.length e), .agg x.cs] W fun en W9 => ∃ (v : Value) (y : Pf) (ys : List Pf) (dt' : Nat) (ks' : List Nat), en = .returned (.tuple #[v, .agg y.cs, .bool (s.comes x.F)]) ∧ y.F = (if s.comes x.F then x.F else atF 0) ∧ y.X W (fun k => w.heap.size ≤ k) ∧
      DL W A lm B ks (s.come x.F) dt' ys ks' v W9 ∧ ys.map Pf.F = (s.come x.F).fs ∧ (∀ z ∈ ys, z.X W (fun k => w.heap.size ≤ k)) ∧ dt' ≤ 1099511627776 ∧ (firstN (s.come x.F).last (s.come x.F).fs.length ≤ (s.come x.F).sent → dt' = (s.come x.F).tick) ∧ ks'.length ≤ ks.length + 1 := by
  have hf := h.fit
  have hl := h.len
  have hasked := h.link.asked1
  by_cases h1 : x.F.src = s.peer
  · by_cases h2 : x.F.dst = s.me
    · by_cases h3 : x.F.kind = 2
      · have e1 : s.comes x.F = false := by unfold Ls.comes; simp [h3]
        have e2 : s.come x.F = s.acked x.F.seq := by unfold Ls.come; rw [if_pos ⟨h1, h2⟩, if_pos h3]
        rw [e1, e2]
        have hP : ∀ V, RowKit.Below W.heap.size W V → Calls Try.prog 32 #[.agg #[.int .i64 (s.width : Int), .slice A lm.length c, .int .u64 (s.last : Int)], .int .u64 (x.F.seq : Int)] V (RGot V A lm s.width (lm.drop (ackN s.last lm.length x.F.seq)) s.last (ackN s.last lm.length x.F.seq)) := fun V hV =>
          refAcked_all A lm.length c s.width s.last x.F.seq lm V rfl h.cg h.cm (h.on hV).lies.lies (by omega) (by omega) h.seqs
        have hkn : ackN s.last lm.length x.F.seq ≤ lm.length := ackN_le _ _ _ (by omega)
        have e4 : s.acked x.F.seq = { s with fs := s.fs.drop (ackN s.last lm.length x.F.seq), tick := if 0 < ackN s.last lm.length x.F.seq then s.asked else s.tick } := by unfold Ls.acked; rw [hl]
        rw [e4]
        generalize ackN s.last lm.length x.F.seq = k at hP hkn
        rcases Nat.eq_zero_or_pos k with h4 | h4
        · refine (refLCome_ack0 s dt A lm.length c B ks.length e lm ks x W rfl h.cg h.cm rfl h1 h2 h3 _ k hP h4).mono ?_
          rintro en W9 ⟨v, rfl, hv⟩
          subst h4
          exact ⟨v, atP 0, _, dt, ks, rfl, rfl, atP_X _ _ _, hv, by rw [List.map_drop, h.fs], fun z hz => h.lx z (List.mem_of_mem_drop hz), h.dt1, h.dts, Nat.le_succ _⟩
        · refine (refLCome_ack1 s dt A lm.length c B ks.length e lm ks x W rfl h.cg h.cm rfl h1 h2 h3 _ k hP h4).mono ?_
          rintro en W9 ⟨v, rfl, hv⟩
          exact ⟨v, atP 0, _, s.asked, ks, rfl, rfl, atP_X _ _ _, hv, by rw [List.map_drop, h.fs], fun z hz => h.lx z (List.mem_of_mem_drop hz), hasked, fun _ => by rw [if_pos h4], Nat.le_succ _⟩
      · by_cases h4 : x.F.kind = 1
        · have e2 : s.come x.F = { s with g := s.g.step x.F.seq } := by unfold Ls.come; rw [if_pos ⟨h1, h2⟩, if_neg h3, if_pos h4]
          rw [e2]
          have hP : ∀ V, RowKit.Below W.heap.size W V → Calls Try.prog 33 #[.agg #[.slice B ks.length e, .int .u64 (s.g.u : Int), .bool s.g.b], .int .u64 (x.F.seq : Int)] V (DGot V ks (kindN s.g.u x.F.seq) (s.g.step x.F.seq).u) := fun V hV =>
            refTake_any B ks.length e s.g.u x.F.seq s.g.b ks V rfl hk (h.on hV).liesk.lies hu
          by_cases h5 : x.F.seq = s.g.u + 1
          · have e1 : s.comes x.F = true := by unfold Ls.comes; simp [h1, h2, h4, h5]
            rw [e1]
            rw [kindN_one h5] at hP
            refine (refLCome_next s dt A lm.length c B ks.length e lm ks x W rfl h.cg h.cm rfl h1 h2 h4 (s.g.step x.F.seq).u (s.g.step x.F.seq).o (s.g.step x.F.seq).a hP).mono ?_
            rintro en W9 ⟨v, rfl, hv⟩
            exact ⟨v, x, lm, dt, _, rfl, rfl, hx, hv, h.fs, h.lx, h.dt1, h.dts, by simp⟩
          · have e1 : s.comes x.F = false := by unfold Ls.comes; simp [h5]
            rw [e1]
            have hkd : kindN s.g.u x.F.seq ≠ 1 := by rcases kindN_cases s.g.u x.F.seq with ⟨e, h⟩ | ⟨e, h⟩ | ⟨e, h⟩ <;> omega
            refine (refLCome_late s dt A lm.length c B ks.length e lm ks x W rfl h.cg h.cm rfl h1 h2 h4 _ hkd (s.g.step x.F.seq).u (s.g.step x.F.seq).o (s.g.step x.F.seq).a hP).mono ?_
            rintro en W9 ⟨v, rfl, hv⟩
            exact ⟨v, atP 0, lm, dt, _, rfl, rfl, atP_X _ _ _, hv, h.fs, h.lx, h.dt1, h.dts, by simp⟩
        · have e1 : s.comes x.F = false := by unfold Ls.comes; simp [h4]
          have e2 : s.come x.F = s := by unfold Ls.come; rw [if_pos ⟨h1, h2⟩, if_neg h3, if_neg h4]
          rw [e1, e2]
          refine (refLCome_kind s dt A lm.length c B ks.length e lm ks x W rfl h.cg h.cm rfl h1 h2 h3 h4).mono ?_
          rintro en W9 ⟨v, rfl, hv⟩
          exact ⟨v, atP 0, lm, dt, ks, rfl, rfl, atP_X _ _ _, hv, h.fs, h.lx, h.dt1, h.dts, Nat.le_succ _⟩
    · have e1 : s.comes x.F = false := by unfold Ls.comes; simp [h2]
      have e2 : s.come x.F = s := by unfold Ls.come; rw [if_neg fun e => h2 e.2]
      rw [e1, e2]
      refine (refLCome_dst s dt A lm.length c B ks.length e lm ks x W rfl h.cg h.cm rfl h1 h2).mono ?_
      rintro en W9 ⟨v, rfl, hv⟩
      exact ⟨v, atP 0, lm, dt, ks, rfl, rfl, atP_X _ _ _, hv, h.fs, h.lx, h.dt1, h.dts, Nat.le_succ _⟩
  · have e1 : s.comes x.F = false := by unfold Ls.comes; simp [h1]
    have e2 : s.come x.F = s := by unfold Ls.come; rw [if_neg fun e => h1 e.1]
    rw [e1, e2]
    refine (refLCome_src s dt A lm.length c B ks.length e lm ks x W rfl h.cg h.cm rfl h1).mono ?_
    rintro en W9 ⟨v, rfl, hv⟩
    exact ⟨v, atP 0, lm, dt, ks, rfl, rfl, atP_X _ _ _, hv, h.fs, h.lx, h.dt1, h.dts, Nat.le_succ _⟩

/-- The two ticks agree where they are looked at. -/
theorem out_agree (s : Ls) (dt : Nat) (now : Int) (hs : s.sent ≤ s.last) (hd : firstN s.last s.fs.length ≤ s.sent → dt = s.tick) :
    ((s.ask now).told).chunkF = (if resend (s.ask now) dt then s.fs else s.fs.drop (sentN s)) ∧ (firstN (s.outS now).last (s.outS now).fs.length ≤ (s.outS now).sent → dtN (s.ask now) dt = (s.outS now).tick) := by
  by_cases h1 : firstN s.last s.fs.length ≤ s.sent
  · have hk : 0 < sentN (s.ask now) := by show 0 < s.sent + 1 - firstN s.last s.fs.length; omega
    have hk2 : decide (0 < sentN (s.ask now)) = true := by simpa using hk
    have hdt := hd h1
    subst hdt
    have hd1 : decide (firstN s.last s.fs.length ≤ s.sent) = true := by simpa using h1
    by_cases h2 : (s.again : Int) ≤ ((s.ask now).asked : Int) - (s.tick : Int)
    · have hl : ((s.ask now).told).late = false := by
        unfold Ls.late
        show (decide (firstN s.last s.fs.length ≤ s.sent) && decide (((s.ask now).asked : Int) - (s.tick : Int) < (s.again : Int))) = false
        rw [hd1, Bool.true_and]
        simp; omega
      have hr : resend (s.ask now) s.tick = true := by unfold resend; rw [hk2, Bool.true_and]; exact decide_eq_true (show ((s.ask now).again : Int) ≤ ((s.ask now).asked : Int) - (s.tick : Int) from h2)
      refine ⟨by unfold Ls.chunkF; rw [hl, hr]; rfl, fun _ => ?_⟩
      unfold dtN
      rw [if_pos hk, if_pos (show ((s.ask now).again : Int) ≤ ((s.ask now).asked : Int) - (s.tick : Int) from h2)]
      show _ = (if ((s.ask now).told).late then _ else _)
      rw [hl]
      rfl
    · have hl : ((s.ask now).told).late = true := by
        unfold Ls.late
        show (decide (firstN s.last s.fs.length ≤ s.sent) && decide (((s.ask now).asked : Int) - (s.tick : Int) < (s.again : Int))) = true
        rw [hd1, Bool.true_and]
        simp; omega
      have hr : resend (s.ask now) s.tick = false := by unfold resend; rw [hk2, Bool.true_and]; exact decide_eq_false (show ¬ ((s.ask now).again : Int) ≤ ((s.ask now).asked : Int) - (s.tick : Int) from h2)
      refine ⟨by unfold Ls.chunkF; rw [hl, hr]; rfl, fun _ => ?_⟩
      unfold dtN
      rw [if_pos hk, if_neg (show ¬ ((s.ask now).again : Int) ≤ ((s.ask now).asked : Int) - (s.tick : Int) from h2)]
      show _ = (if ((s.ask now).told).late then _ else _)
      rw [hl]
      rfl
  · have hk : ¬ 0 < sentN (s.ask now) := by show ¬ 0 < s.sent + 1 - firstN s.last s.fs.length; omega
    have hk2 : decide (0 < sentN (s.ask now)) = false := by simpa using hk
    have hd1 : decide (firstN s.last s.fs.length ≤ s.sent) = false := by simpa using h1
    have hl : ((s.ask now).told).late = false := by
      unfold Ls.late
      show (decide (firstN s.last s.fs.length ≤ s.sent) && _) = false
      rw [hd1]
      rfl
    have hr : resend (s.ask now) dt = false := by unfold resend; rw [hk2]; rfl
    have hz : sentN s = 0 := by show s.sent + 1 - firstN s.last s.fs.length = 0; omega
    refine ⟨by unfold Ls.chunkF; rw [hl, hr, hz]; rfl, fun h3 => ?_⟩
    have h3' : firstN s.last s.fs.length ≤ s.last := h3
    have hp : 0 < (s.ask now).fs.length := by
      show 0 < s.fs.length
      unfold firstN at h3'
      omega
    unfold dtN
    rw [if_neg hk, if_pos hp]
    show _ = (if ((s.ask now).told).late then _ else _)
    rw [hl]
    rfl

theorem LP.dout (h : LP w p pw pg q T l s D s dt A c lm B e ks W) (now : Int) :
    Calls Try.prog 18 #[.agg (dlCells s dt A lm.length c B ks.length e), .int .i64 now] W fun en W9 => ∃ v C k cc zs dt', en = .returned (.tuple #[v, .slice C k cc]) ∧ Hid (zs.length = k) ∧ W9.ownsRow W.heap.size 44 16 (.slice C k cc) k (flat encPf zs) ∧ zs.map Pf.F = s.outF now ∧ (∀ z ∈ zs, z.X W (fun k => w.heap.size ≤ k)) ∧
      DL W A lm B ks (s.outS now) dt' lm ks v W9 ∧ dt' ≤ 1099511627776 ∧ (firstN (s.outS now).last (s.outS now).fs.length ≤ (s.outS now).sent → dt' = (s.outS now).tick) := by
  have hf := h.fit
  have hl := h.len
  obtain ⟨h1, h2⟩ := out_agree s dt now h.link.sent1 h.dts
  have hdt : dtN (s.ask now) dt ≤ 1099511627776 := by
    have ht : (s.ask now).asked ≤ 1099511627776 := by show tickN now ≤ _; unfold tickN; omega
    have := h.dt1
    unfold dtN
    split <;> split <;> omega
  have hX : ∀ z ∈ (if resend (s.ask now) dt then lm else lm.drop (sentN s)), z.X W (fun k => w.heap.size ≤ k) := fun z hz => by
    split at hz
    · exact h.lx z hz
    · exact h.lx z (List.mem_of_mem_drop hz)
  have hM : (if resend (s.ask now) dt then lm else lm.drop (sentN s)).map Pf.F = ((s.ask now).told).chunkF := by
    rw [h1]
    split
    · exact h.fs
    · rw [List.map_drop, h.fs]
  cases hb : s.g.b
  · refine (refLOut_silent s dt A lm.length c B ks.length e lm ks now W rfl h.cg h.cm rfl hb h.lies.lies h.seqs hl.symm (by omega) (by omega) (by omega) h.link.sent1 h.dt1 h.link.again2).mono ?_
    rintro en W9 ⟨v, C, k, cc, rfl, hz, hO, hv⟩
    refine ⟨v, C, k, cc, _, _, rfl, hz, hO, ?_, ?_, hv, hdt, h2⟩
    · rw [List.nil_append, hM]
      unfold Ls.outF Ls.wordF
      rw [show (s.ask now).g.b = false from hb]
      rfl
    · rw [List.nil_append]
      exact hX
  · refine (refLOut_owes s dt A lm.length c B ks.length e lm ks now W rfl h.cg h.cm rfl hb h.lies.lies h.seqs hl.symm (by omega) (by omega) (by omega) h.link.sent1 h.dt1 h.link.again2).mono ?_
    rintro en W9 ⟨v, C, k, cc, rfl, hz, hO, hv⟩
    refine ⟨v, C, k, cc, _, _, rfl, hz, hO, ?_, ?_, hv, hdt, h2⟩
    · rw [List.map_append, hM]
      unfold Ls.outF Ls.wordF
      rw [show (s.ask now).g.b = true from hb]
      rfl
    · intro z hz'
      rcases List.mem_append.1 hz' with hz' | hz'
      · simp only [List.mem_cons, List.not_mem_nil, or_false] at hz'
        subst hz'
        exact ⟨LiesX.nil, LiesX.nil, LiesX.nil, LiesX.nil, LiesX.nil⟩
      · exact hX z hz'
end

end Go.Proofs.Ytbkkpimhoeagdaa
