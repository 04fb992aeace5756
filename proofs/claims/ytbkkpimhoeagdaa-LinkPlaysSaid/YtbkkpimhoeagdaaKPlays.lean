/- LinkPlays: between any two, of any width and span, for every list of acts the call returns true (any row of acts is answered as the document says), and changes nothing that was there. No conditions. -/
import Derived.Test.YtbkkpimhoeagdaaLpX
import Derived.ChangeOld
import Derived.Deep.CutBlock
namespace Go.Proofs.Ytbkkpimhoeagdaa
open Go.ChangeShapes Go.WideShapes Go.ChangeAt Go.RowKit

/-- What holds behind so many acts. -/
def PlAt (w : World) (p pw pg q N : Nat) (W : World) : Prop := ∃ T l s D dt A c lm B e ks, LP w p pw pg q T l s D s dt A c lm B e ks W ∧ s.last ≤ N ∧ s.g.sum ≤ N ∧ ks.length ≤ N

theorem LinkB.widen0 {W : World} {base p pw pg : Nat} {T : Value} {s : Ls} {D D' : Nat → Prop} (h : LinkB W base p pw pg T [] s D) (h1 : ∀ b, D b → D' b) (h2 : ∀ b, D' b → base ≤ b ∧ b < W.heap.size) : LinkB W base p pw pg T [] s D' :=
  { box := h.box
    win := { box := h.win.box, row := h.win.row, frs := by simp, oks := by simp, seqs := by simp, dw := fun b hb => h1 b (h.win.dw b hb), din := h2, fit := h.win.fit, fit2 := h.win.fit2, wid1 := h.win.wid1, wid2 := h.win.wid2, low := h.win.low }
    gate := h.gate, fs := h.fs, dp := h1 _ h.dp, dg := h1 _ h.dg, me8 := h.me8, peer8 := h.peer8, sent1 := h.sent1, tick1 := h.tick1, asked1 := h.asked1, again1 := h.again1, again2 := h.again2 }

theorem PlAt.start {w w1 w2 : World} {p pw pg me peer : Nat} {r again : Int} {D : Nat → Prop} (h : LinkB w1 w.heap.size p pw pg (.slice none 0 0) [] (newLs me peer r again) D) (hb : Below w1.heap.size w1 w2) (hB : Below w.heap.size w w1) :
    PlAt w p pw pg w2.heap.size 0 (w2.alloc (.cells (dlCells (newLs me peer r again) 0 none 0 0 none 0 0) 34)) := by
  have hbA : Below w1.heap.size w1 (w2.alloc (.cells (dlCells (newLs me peer r again) 0 none 0 0 none 0 0) 34)) := hb.alloc hb.size _
  have hs := hb.size
  have hsB := hB.size
  have hlt : ∀ b, LD p pw pg (.slice none 0 0) b → b < w1.heap.size := fun b hb => h.ldlt hb
  have hD : ∀ b, D b → w.heap.size ≤ b ∧ b < w1.heap.size := fun b hb => h.win.din b hb
  refine ⟨_, _, _, fun k => D k ∨ k = w2.heap.size, 0, none, 0, [], none, 0, [], ⟨(h.on hbA).widen0 (fun b hb => .inl hb) (fun b hb => ?_), heap_alloc_new w2 _, .inr rfl, fun e => by have := hlt _ e; omega, Nat.le_refl _, Nat.zero_le _, LiesX.nil, by simp, LiesX.nil, rfl, Nat.zero_le _, fun _ => rfl, hB.trans (hbA.mono hsB)⟩, Nat.le_refl _, Nat.le_refl _, Nat.le_refl _⟩
  rcases hb with e | e
  · have := hD b e
    simp only [World.alloc, Array.size_push]
    omega
  · subst e
    simp only [World.alloc, Array.size_push]
    omega

theorem store_L_new {ops : Array Oper} {rest : List Oper} {dst : Option Tmp} {ty : TypeId} {pos : String} {aft : Array Edge} {a : Act} {Q : Exit → Act → World → Prop} (x y : Operand) {w1 : World} {g : Nat} {old cs : Array Value} (hgw : g = w1.heap.size) (hx : a.eval x = .pointer (some ⟨g, 0, none⟩)) (hy : a.eval y = .agg cs) (ho : old.size = 12) (hs : cs.size = 12) (h1 : cs.all (·.oneCell') = true)
    (h : wpList Try.prog ops Q rest (a.put dst undef) (w1.alloc (.cells cs 34))) : wpList Try.prog ops Q (⟨dst, .store 34 x y, ty, pos, aft, none⟩ :: rest) a (w1.alloc (.cells old 34)) := by
  subst hgw
  refine wpList_store_row rfl _ x y rfl w1.heap.size cs hx hy _ old (heap_alloc_new _ _) (infoL hs) (by omega) h1 ?_
  rw [setRow_new]
  exact h

theorem DL.agg {w w' : World} {A B : Option Addr} {lm ys : List Pf} {ks ks' : List Nat} {s' : Ls} {dt' : Nat} {v : Value} (h : DL w A lm B ks s' dt' ys ks' v w') : ∃ vc, v = .agg vc ∧ vc.size = 12 ∧ vc.all (·.oneCell') = true ∧ Below w.heap.size w w' := by
  obtain ⟨A', c', B', e', rfl, -, -, -, -, hb⟩ := h
  exact ⟨_, rfl, rfl, dl_one _ _ _ _ _ _ _ _, hb⟩

/-- The document's link is stored into its box, out of another one. -/
theorem LP.stored {w W8 W9 W7 : World} {p pw pg q : Nat} {T : Value} {l : List Pf} {s : Ls} {D : Nat → Prop} {r : Ls} {dt : Nat} {A : Option Addr} {c : Nat} {lm : List Pf} {B : Option Addr} {e : Nat} {ks : List Nat} {r' : Ls} {dt' : Nat} {ys : List Pf} {ks' : List Nat} {vc : Array Value}
    (h : LP w p pw pg q T l s D r dt A c lm B e ks W8) (hv : DL W8 A lm B ks r' dt' ys ks' (.agg vc) W9) (hy : ∀ z ∈ ys, z.X W8 (fun k => w.heap.size ≤ k)) (hf : ys.map Pf.F = r'.fs) (hdt : dt' ≤ 1099511627776) (hts : firstN r'.last r'.fs.length ≤ r'.sent → dt' = r'.tick)
    (h7 : Below W9.heap.size W9 W7) : ∃ A' c' B' e', LP w p pw pg q T l s D r' dt' A' c' ys B' e' ks' (W7.setRow q vc) := by
  obtain ⟨-, -, -, -, -, -, -, -, -, hb⟩ := id hv
  have hrow := ((h.on hb).on h7).row
  obtain ⟨A', c', B', e', -, hP⟩ := h.mstep hv hy hf hdt hts (W10 := W7.setRow q vc) ((OnlyE.of_below h7).trans (onlyE_setRow (D := fun k => k = q) rfl _)) (fun vc' e => by
    injection e with e
    subst e
    exact setRow_heap _ _ _ _ _ _ hrow)
  exact ⟨A', c', B', e', hP⟩

theorem two_boxes (w6 : World) (vc : Array Value) {Wx : World} (h : ((w6.alloc (.cells dlZero 34)).alloc (.cells zeroF 44)).setRow w6.heap.size vc = Wx) :
    Hid (Wx.heap[w6.heap.size]? = some (.cells vc 34 (0, 0)) ∧ Wx.heap[w6.heap.size + 1]? = some (.cells zeroF 44 (0, 0)) ∧ Below w6.heap.size w6 Wx) := by
  show _ ∧ _
  obtain ⟨h1, h2, h3⟩ := alloc2_blocks w6 (.cells dlZero 34) (.cells zeroF 44) rfl
  rw [← h]
  refine ⟨setRow_heap _ _ _ _ _ _ h1, ?_, Below.setRow h3 (Nat.le_refl _) _⟩
  exact ((grown_setRow _ w6.heap.size vc).block (w6.heap.size + 1) (by simp) (fun e => by injection e with e; omega)).trans h2
theorem two_boxes2 {w6 Wx Wy : World} {vc ds : Array Value} (hx : Wx.heap[w6.heap.size]? = some (.cells vc 34 (0, 0)) ∧ Wx.heap[w6.heap.size + 1]? = some (.cells zeroF 44 (0, 0)) ∧ Below w6.heap.size w6 Wx) (h : Wx.setRow (w6.heap.size + 1) ds = Wy) :
    Wy.heap[w6.heap.size]? = some (.cells vc 34 (0, 0)) ∧ Wy.heap[w6.heap.size + 1]? = some (.cells ds 44 (0, 0)) ∧ Below w6.heap.size w6 Wy := by
  obtain ⟨h1, h2, h3⟩ := hx
  rw [← h]
  exact ⟨((grown_setRow _ (w6.heap.size + 1) ds).block w6.heap.size (Array.getElem?_eq_some_iff.1 h1).1 (fun e => by injection e with e; omega)).trans h1, setRow_heap _ _ _ _ _ _ h2, Below.setRow h3 (by omega) _⟩

theorem ackF_ok {s : Ls} (hm : s.me < 256) (hp : s.peer < 256) (hu : s.g.u < 18446744073709551616) : (ackF s).Ok := ⟨(by decide : 2 < 256), hm, hp, hu, (by decide : 0 < 4294967296), (by decide : 0 < 4294967296), (by decide : 0 < 4294967296), (by decide : 0 < 18446744073709551616), (by decide : 0 < 18446744073709551616), Nat.zero_le _, Nat.zero_le _, Nat.zero_le _, Nat.zero_le _, Nat.zero_le _, by simp [ackF], by simp [ackF]⟩
theorem outF_ok {W : World} {base p pw pg : Nat} {T : Value} {l : List Pf} {s : Ls} {D : Nat → Prop} (h : LinkB W base p pw pg T l s D) (hu : s.g.u < 18446744073709551616) (now : Int) : ∀ F ∈ s.outF now, F.Ok := fun F hF => by
  unfold Ls.outF at hF
  rcases List.mem_append.1 hF with hF | hF
  · unfold Ls.wordF at hF
    split at hF
    · simp only [List.mem_cons, List.not_mem_nil, or_false] at hF
      subst hF
      exact ackF_ok h.me8 h.peer8 hu
    · simp at hF
  · refine h.oks F ?_
    unfold Ls.chunkF at hF
    split at hF
    · exact List.mem_of_mem_drop hF
    · exact hF
theorem come_last (s : Ls) (F : Fr) : (s.come F).last = s.last ∧ (s.come F).g.sum ≤ s.g.sum + 1 := by
  unfold Ls.come
  split
  · split
    · exact ⟨rfl, Nat.le_succ _⟩
    · split
      · exact ⟨rfl, by show (s.g.step F.seq).sum ≤ _; rw [step_sum]; exact Nat.le_refl _⟩
      · exact ⟨rfl, Nat.le_succ _⟩
  · exact ⟨rfl, Nat.le_succ _⟩

set_option maxRecDepth 20000 in
set_option maxHeartbeats 51200000 in
theorem linkPlays_walk (me peer : Nat) (r again : Int) (A : Option Addr) (n c : Nat) (l : List La) (w : World) (hme : me < 256) (hpe : peer < 256) (h1 : -9223372036854775808 ≤ r) (h2 : r ≤ 9223372036854775807) (h3 : -9223372036854775808 ≤ again) (h4 : again ≤ 9223372036854775807) (hl : l.length = n) (hn : n ≤ 100) (hA : Lies w w.heap.size A (flat encLa l)) (hok : ∀ x ∈ l, LaOk w w.heap.size x) :
    Calls Try.prog 3 #[.int .u8 (me : Int), .int .u8 (peer : Int), .int .i64 r, .int .i64 again, .slice A n c] w fun e w' => e = .returned (.bool true) ∧ Below w.heap.size w w' := by
  have hd : decide (100 < (n : Int)) = false := by simp; omega
  have hN := link_new me peer r again w w.heap.size (fun _ => False) (Nat.le_refl _) (fun _ h => h.elim) h1 h2 h3 h4 hme hpe
  have HRN := Lib.hid (refLNew_any me peer r again)
  have HL := Lib.hid hl
  have HA := Lib.hid hA
  have HOK := Lib.hid hok
  clear hl hA hok h1 h2 h3 h4
  go_enter Try.func3, Try.ntmps3
  go_wp2_with fail
  refine hN.mono ?_
  rintro e w1 ⟨p, pw, pg, rfl, hLk, hb1, -, -, -⟩
  have HLK := Lib.hid hLk
  have HB1 := Lib.hid hb1
  clear hN hLk hb1
  go_wp2_with fail
  refine (HRN.out w1).mono ?_
  rintro e w2 ⟨rfl, hb2⟩
  have HS := Lib.hid (PlAt.start HLK.out hb2 HB1.out)
  clear hb2 HLK HB1 HRN
  go_upto_region 4 with (first | (refine store_L_new (.tmp 12) (.tmp 37) rfl rfl rfl rfl (dl_size _ _ _ _ _ _ _ _) (dl_one _ _ _ _ _ _ _ _) ?_) | fail)
  generalize World.alloc w2 (.cells (dlCells (newLs me peer r again) 0 none 0 0 none 0 0) 34) = w3 at HS ⊢
  generalize w2.heap.size = q at HS ⊢
  go_wp2_with fail
  go_loopw [13] (fun v wr => ∃ k : Nat, k ≤ n ∧ v = .int .i64 k ∧ PlAt w p pw pg q k wr) (fun v _ => n - (intOf v).toNat)
  case atStart => exact ⟨0, Nat.zero_le _, rfl, HS.out⟩
  case round =>
    clear HS
    obtain ⟨k, hk, rfl, T, l1, s, D, dt, Am, cm, lm, Bm, em, ks, hP, hlast, hsum, hks⟩ := hrel
    have HP := Lib.hid hP
    clear hP
    by_cases hlt : k < n
    · have hkl : k < l.length := by rw [HL.out]; exact hlt
      obtain ⟨bL, oL, rfl, hbL, hcL⟩ := la_at (HA.out.below HP.out.below) hkl
      have hox := (HOK.out l[k] (List.getElem_mem hkl)).on HP.out.below
      generalize l[k] = a at hcL hox
      have HX := Lib.hid hox
      have hq0 := HP.out.qlt
      have hbA : Below wr.heap.size wr (wr.alloc (.cells (laCs a) 46)) := (Below.refl _ _).alloc (Nat.le_refl _) _
      have HA4 := Lib.hid (ActB.new wr a)
      have HP4 := Lib.hid (HP.out.on hbA)
      have HX4 := Lib.hid (hox.x.on hbA)
      clear hox hbA hkl HP
      go_upto_region 8 with (first | (refine load_act (.tmp 46) rfl hcL ?_) | (refine store_act_new (.tmp 14) (.tmp 47) rfl rfl rfl rfl (laCs_size a) (laCs_one a) ?_) | fail)
      generalize hw4 : World.alloc wr (.cells (laCs a) 46) = w4 at HA4 HP4 HX4 ⊢
      clear hw4 hcL
      have HGR : Hid (Calls Try.prog 12 #[.agg a.x.cs] w4 fun e w' => e = .returned (.bool (greatB a.x.F)) ∧ Below w4.heap.size w4 w') := refGreat_any a.x.F a.x.cs w4 HX4.out.frl
      have HGQ : Hid (wr.heap.size ≠ q) := fun e => by have := hq0; omega
      generalize wr.heap.size = ga at HA4 HGQ ⊢
      clear hq0
      have hf := HA4.out.f
      by_cases hg : greatB a.x.F = true
      · rw [hg] at HGR
        go_wp2_with (first | (refine load_elem (.tmp 48) rfl hf ?_) | fail)
        refine HGR.out.mono ?_
        rintro e w5 ⟨rfl, hb5⟩
        have HB5 : Hid (Below w.heap.size w w5) := HP4.out.below.trans (hb5.mono HP4.out.below.size)
        clear hb5 hf
        go_wp2_with (go_at_call 9; refine (awake_any _).mono ?_; rintro e w' ⟨rfl, hb⟩)
        go_ret
        exact ⟨rfl, HB5.out.trans (hb.mono HB5.out.size)⟩
      · have hgf : greatB a.x.F = false := by simpa using hg
        have HXO : Hid (a.x.F.Ok) := great_ok hgf HX.out.wf
        rw [hgf] at HGR
        clear hg hgf
        go_wp2_with (first | (refine load_elem (.tmp 48) rfl hf ?_) | fail)
        refine HGR.out.mono ?_
        rintro e w5 ⟨rfl, hb5⟩
        have HP5 := Lib.hid (HP4.out.on hb5)
        have HA5 := Lib.hid (HA4.out.below hb5)
        have HX5 := Lib.hid (HX4.out.on hb5)
        have hc0 := HA5.out.c0
        have hf := HA5.out.f
        clear hb5 HP4 HA4 HX4 HGR
        have hrow := HP5.out.row
        have hsum2 : s.g.sum ≤ 100 := by omega
        have HDT : Hid (∀ F, firstN (s.send F).last (s.send F).fs.length ≤ (s.send F).sent → dt = (s.send F).tick) := fun F h => by
          have h0 := HP5.out.dts
          have h1 := HP5.out.fit
          have h1l := HP5.out.len
          unfold Ls.send at h ⊢
          split at h
          · rename_i hlt
            rw [if_pos hlt]
            refine h0 ?_
            have h2 : firstN (s.last + 1) (s.fs ++ num s.last [headed s 1 F]).length ≤ s.sent := h
            rw [List.length_append, num_length] at h2
            unfold firstN at h2 ⊢
            simp only [List.length_cons, List.length_nil] at h2
            omega
          · rename_i hlt
            rw [if_neg hlt]
            exact h0 h
        have HNL : Hid (∀ {r2 dt2 A2 c2 lm2 B2 e2 ks2 W2}, LP w p pw pg q T l1 s D r2 dt2 A2 c2 lm2 B2 e2 ks2 W2 → ∀ b, w5.heap.size ≤ b → ¬ LD p pw pg T b) := fun _ b hb e => by have := HP5.out.link.ldlt e; omega
        go_upto_block 2 with fail
        go_cut [15, 16, 17, 18, 19, 20, 21, 22, 23] from 38 to 140 (fun _ _ _ _ _ _ _ _ _ wx => PlAt w p pw pg q (k + 1) wx)
        case first =>
          by_cases hk0 : a.k = 0
          · have d0 : (a.k == 0) = true := by simpa using hk0
            have hds := HP5.out.dsend a.x HX5.out
            have HSN : Hid (s.last ≤ k ∧ s.g.sum ≤ k ∧ ks.length ≤ k) := And.intro hlast (And.intro hsum hks)
            clear hk0
            go_wp2_with (first | (refine load_L (.tmp 12) rfl hrow (dl_size _ _ _ _ _ _ _ _) ?_) | (refine load_elem (.tmp 73) rfl hf ?_) | fail)
            refine hds.mono ?_
            rintro e w6 ⟨v, ys, rfl, hv, hm, hx⟩
            obtain ⟨vc, rfl, hs12, h1c, hb6⟩ := hv.agg
            have HV := Lib.hid hv
            have HM := Lib.hid hm
            have HXS := Lib.hid hx
            have HB6 := Lib.hid hb6
            have HA6 := Lib.hid (HA5.out.below hb6)
            have HX6 := Lib.hid (HX5.out.on hb6)
            clear hds hv hm hx hb6 hrow hf hc0
            go_upto_region 17 with (first | (refine store_L_new (.tmp 15) (.tmp 76) rfl rfl rfl rfl hs12 h1c ?_) | fail)
            have hb7 : Below w6.heap.size w6 (w6.alloc (.cells vc 34)) := (Below.refl _ _).alloc (Nat.le_refl _) _
            have hrow7 := heap_alloc_new w6 (.cells vc 34)
            have hrowq := ((HP5.out.on HB6.out).on hb7).row
            obtain ⟨A7, c7, B7, e7, hP8⟩ := HP5.out.stored HV.out HXS.out HM.out HP5.out.dt1 (HDT.out a.x.F) hb7
            have HP8 := Lib.hid hP8
            have HA8 := Lib.hid ((HA6.out.below hb7).on (onlyE_setRow (D := fun k => k = q) (g := q) rfl vc) HGQ.out)
            have HX8 := Lib.hid ((HX6.out.on hb7).kept (onlyE_setRow (D := fun k => w.heap.size ≤ k) (g := q) HP5.out.hq vc))
            generalize w6.alloc (.cells vc 34) = W7 at hrow7 hrowq HP8 HA8 HX8 ⊢
            clear hb7 hP8
            go_upto_region 18 with (first | (refine load_L (.tmp 15) rfl hrow7 hs12 ?_) | (refine store_L (.tmp 12) (.tmp 78) rfl rfl hrowq (dl_size _ _ _ _ _ _ _ _) hs12 h1c ?_) | fail)
            clear hrow7 hrowq
            generalize W7.setRow q vc = W8 at HP8 HA8 HX8 ⊢
            have hf := HA8.out.f
            have hbA : Below W8.heap.size W8 (W8.alloc (.cells a.x.cs 44)) := (Below.refl _ _).alloc (Nat.le_refl _) _
            have hsd := lsend_any (HP8.out.link.on hbA) ⟨W8.heap.size, 0, none⟩ 1 a.x (by rw [flat_single]; exact lies_new1 W8 a.x.cs 44) ((HX8.out.on hbA).mono fun k hk => HP8.out.hD k (HP8.out.link.win.dw k hk)) HXO.out (Nat.le_refl _) (by omega)
            have HP9 := Lib.hid (HP8.out.on hbA)
            clear hs12 h1c hbA
            go_wp2_with (first | (refine load_elem (.tmp 80) rfl hf ?_) | (refine wpList_build1 rfl (x := .tmp 81) (y := a.x) rfl rfl ?_) | fail)
            refine hsd.mono ?_
            rintro e U ⟨rfl, ht⟩
            obtain ⟨T9, l9, D9, hPU⟩ := HP9.out.wstep ht
            have HPU := Lib.hid hPU
            have HNUM : Hid ((s.send a.x.F).last ≤ k + 1 ∧ (s.send a.x.F).g.sum ≤ k + 1 ∧ ks.length ≤ k + 1) := by
              have h1 := HSN.out
              refine ⟨?_, ?_, by omega⟩
              · unfold Ls.send; split
                · show s.last + 1 ≤ k + 1; omega
                · omega
              · unfold Ls.send; split
                · show s.g.sum ≤ k + 1; omega
                · omega
            clear hsd ht hPU hf HP8 HP9 HA8 HX8 HV HM HXS HP5 HA5 HX5 HB6 HA6 HX6 HSN HDT
            go_wp2_with fail
            go_meet
            exact ⟨_, _, _, _, _, _, _, _, _, _, _, HPU.out, HNUM.out.1, HNUM.out.2.1, HNUM.out.2.2⟩
          · by_cases hk1 : a.k = 1
            · have d0 : (a.k == 0) = false := by simpa using hk0
              have d1 : (a.k == 1) = true := by simpa using hk1
              have hds := HP5.out.dcome a.x HX5.out (by unfold Gt.sum at hsum2; omega) (by omega)
              have HSN : Hid (s.last ≤ k ∧ s.g.sum ≤ k ∧ ks.length ≤ k) := And.intro hlast (And.intro hsum hks)
              clear hk1 hk0
              go_wp2_with (first | (refine load_L (.tmp 12) rfl hrow (dl_size _ _ _ _ _ _ _ _) ?_) | (refine load_elem (.tmp 90) rfl hf ?_) | fail)
              refine hds.mono ?_
              rintro e w6 ⟨v, y, ys, dt', ks', rfl, hyF, hyX, hv, hm, hx, hdt, hts, hkl⟩
              obtain ⟨vc, rfl, hs12, h1c, hb6⟩ := hv.agg
              have HV := Lib.hid hv
              have HM := Lib.hid hm
              have HXS := Lib.hid hx
              have HYF := Lib.hid hyF
              have HYX := Lib.hid hyX
              have HTS := Lib.hid hts
              have HDD := Lib.hid hdt
              clear hdt
              have HB6 := Lib.hid hb6
              have HA6 := Lib.hid (HA5.out.below hb6)
              have HX6 := Lib.hid (HX5.out.on hb6)
              have HQ6 : Hid (q < w6.heap.size) := Nat.lt_of_lt_of_le HP5.out.qlt hb6.size
              have HKL : Hid (ks'.length ≤ k + 1) := by show _ ≤ _; have := HSN.out; omega
              have hrowL := (alloc2_blocks w6 (.cells dlZero 34) (.cells zeroF 44) rfl).1
              clear hds hv hm hx hb6 hrow hf hc0 hyF hyX hts hkl
              generalize hcm : s.comes a.x.F = ok at HYF ⊢
              have HOKC := Lib.hid hcm
              clear hcm
              go_upto_region 22 with (first | (refine store_L (.tmp 17) (.tmp 93) rfl rfl hrowL rfl hs12 h1c ?_; generalize hWx : World.setRow _ _ _ = Wx; have HWX := two_boxes w6 vc hWx; clear hWx; refine store_frame (.tmp 18) (.tmp 94) rfl rfl HWX.out.2.1 rfl (Pf.size y) (Pf.one y) ?_) | fail)
              generalize hWy : World.setRow _ _ _ = W7
              obtain ⟨hrow7, hrow8, hb7⟩ := two_boxes2 HWX.out hWy
              clear hWy hrowL
              have hrowq := ((HP5.out.on HB6.out).on hb7).row
              obtain ⟨A7, c7, B7, e7, hP8⟩ := HP5.out.stored HV.out HXS.out HM.out HDD.out HTS.out hb7
              have HP8 := Lib.hid hP8
              have HA8 := Lib.hid ((HA6.out.below hb7).on (onlyE_setRow (D := fun k => k = q) (g := q) rfl vc) HGQ.out)
              have HX8 := Lib.hid ((HX6.out.on hb7).kept (onlyE_setRow (D := fun k => w.heap.size ≤ k) (g := q) HP5.out.hq vc))
              have HY8 := Lib.hid (((HYX.out.on HB6.out).on hb7).kept (onlyE_setRow (D := fun k => w.heap.size ≤ k) (g := q) HP5.out.hq vc))
              have HR8 : Hid ((W7.setRow q vc).heap[w6.heap.size + 1]? = some (.cells y.cs 44 (0, 0))) := ((grown_setRow W7 q vc).block (w6.heap.size + 1) (Array.getElem?_eq_some_iff.1 hrow8).1 (fun e => by injection e with e; have := HQ6.out; omega)).trans hrow8
              clear hb7 hP8 hrow8
              go_upto_region 23 with (first | (refine load_L (.tmp 17) rfl hrow7 hs12 ?_) | (refine store_L (.tmp 12) (.tmp 96) rfl rfl hrowq (dl_size _ _ _ _ _ _ _ _) hs12 h1c ?_) | fail)
              clear hrow7 hrowq
              generalize W7.setRow q vc = W8 at HP8 HA8 HX8 HY8 HR8 ⊢
              have hf := HA8.out.f
              have hsd := lcome_any HP8.out.link a.x (HX8.out.mono fun k hk => HP8.out.hD k (HP8.out.link.ld k hk)) HXO.out (by omega)
              rw [HOKC.out] at hsd
              clear hs12 h1c
              go_wp2_with (first | (refine load_elem (.tmp 99) rfl hf ?_) | fail)
              refine hsd.mono ?_
              rintro e w9 ⟨y2, rfl, hy2F, hy2O, hdn⟩
              obtain ⟨T9, l9, D9, hP9⟩ := HP8.out.wstep hdn.to
              have ho9 := hdn.to.only
              have hld8 : ∀ k, LD p pw pg _ k → w.heap.size ≤ k := fun k hk => HP8.out.hD k (HP8.out.link.ld k hk)
              have hY9 := HY8.out.kept (ho9.mono hld8)
              have hR9 : w9.heap[w6.heap.size + 1]? = some (.cells y.cs 44 (0, 0)) := (ho9.same _ (Array.getElem?_eq_some_iff.1 HR8.out).1 (fun e => HNL.out HP8.out _ (by have := HB6.out.size; omega) e)).trans HR8.out
              have hbA : Below w9.heap.size w9 (w9.alloc (.cells y2.cs 44)) := (Below.refl _ _).alloc (Nat.le_refl _) _
              have hsame := refSame_any (if ok = true then a.x.F else atF 0) y2.cs y.cs (w9.alloc (.cells y2.cs 44)) (by split; exact HXO.out; exact atF_ok (by decide)) (by rw [← hy2F]; exact ((hy2O.toX (D := fun _ => False) fun _ h => h.elim).on hbA).frl) (by rw [← HYF.out]; exact (hY9.on hbA).frl)
              have hr20 := heap_alloc_new w9 (.cells y2.cs 44)
              have hr18 := (hbA.block (w6.heap.size + 1) (Array.getElem?_eq_some_iff.1 hR9).1).trans hR9
              have HPA := Lib.hid (hP9.on hbA)
              have HNUM : Hid ((s.come a.x.F).last ≤ k + 1 ∧ (s.come a.x.F).g.sum ≤ k + 1 ∧ ks'.length ≤ k + 1) := by
                have h1 := HSN.out
                obtain ⟨h2, h3⟩ := come_last s a.x.F
                exact ⟨by omega, by omega, HKL.out⟩
              have HSM := Lib.hid hsame
              have HR20 := Lib.hid hr20
              have HR18 := Lib.hid hr18
              clear hsd hf hsame hP9 hR9 hY9 hy2F hy2O hdn ho9 hld8 hbA HP8 HA8 HX8 HY8 HR8 HV HM HXS HP5 HA5 HX5 HB6 HA6 HX6 HSN HWX HYF HYX HTS HOKC hr20 hr18 HDT HNL
              go_upto_region 24 with (first | (refine store_frame_new (.tmp 20) (.tmp 102) rfl rfl rfl rfl (Pf.size y2) (Pf.one y2) ?_) | fail)
              generalize w9.alloc (.cells y2.cs 44) = WA at HPA HSM HR20 HR18 ⊢
              have hbb : (ok != ok) = false := by cases ok <;> rfl
              have hbd : decide (ok = ok) = true := by simp
              go_wp2_with (first | (refine load_frame_on (.tmp 20) rfl rfl HR20.out (Pf.size y2) ?_) | (refine load_frame_on (.tmp 18) rfl rfl HR18.out (Pf.size y) ?_) | fail)
              refine HSM.out.mono ?_
              rintro e U ⟨rfl, hbU⟩
              have HPU := Lib.hid (HPA.out.on hbU)
              clear hbU HPA HSM HR20 HR18
              go_wp2_with fail
              go_meet
              exact ⟨_, _, _, _, _, _, _, _, _, _, _, HPU.out, HNUM.out.1, HNUM.out.2.1, HNUM.out.2.2⟩
            · have d0 : (a.k == 0) = false := by simpa using hk0
              have d1 : (a.k == 1) = false := by simpa using hk1
              have hc17 := HA5.out.n
              have hds := HP5.out.dout a.n
              have HSN : Hid (s.last ≤ k ∧ s.g.sum ≤ k ∧ ks.length ≤ k) := And.intro hlast (And.intro hsum hks)
              clear hk0 hk1
              go_wp2_with (first | (refine load_L (.tmp 12) rfl hrow (dl_size _ _ _ _ _ _ _ _) ?_) | fail)
              refine hds.mono ?_
              rintro e w6 ⟨v, C, kz, cc, zs, dt', rfl, hz, hO, hzm, hzx, hv, hdt, hts⟩
              obtain ⟨vc, rfl, hs12, h1c, hb6⟩ := hv.agg
              have HV := Lib.hid hv
              have HZM := Lib.hid hzm
              have HZX := Lib.hid hzx
              have HTS := Lib.hid hts
              have HDD := Lib.hid hdt
              clear hdt
              have HO := Lib.hid hO
              have HB6 := Lib.hid hb6
              have HA6 := Lib.hid (HA5.out.below hb6)
              clear hds hv hb6 hrow hf hc0 hc17 hzm hzx hts hO d0 d1
              go_upto_region 12 with (first | (refine store_L_new (.tmp 22) (.tmp 59) rfl rfl rfl rfl hs12 h1c ?_) | fail)
              have hb7 : Below w6.heap.size w6 (w6.alloc (.cells vc 34)) := (Below.refl _ _).alloc (Nat.le_refl _) _
              have hrow7 := heap_alloc_new w6 (.cells vc 34)
              have hrowq := ((HP5.out.on HB6.out).on hb7).row
              obtain ⟨A7, c7, B7, e7, hP8⟩ := HP5.out.stored HV.out HP5.out.lx HP5.out.fs HDD.out HTS.out hb7
              have HP8 := Lib.hid hP8
              have HA8 := Lib.hid ((HA6.out.below hb7).on (onlyE_setRow (D := fun k => k = q) (g := q) rfl vc) HGQ.out)
              have HO8 := Lib.hid (own_only (own_below HO.out hb7) (onlyE_setRow (D := fun k => k = q) (g := q) rfl vc) (fun b hb e => by have := (HO.out.lt b hb).1; have := HP5.out.qlt; omega))
              have HZ8 : Hid (∀ z ∈ zs, z.X ((w6.alloc (.cells vc 34)).setRow q vc) (fun k => w.heap.size ≤ k)) := fun z hz' => (((HZX.out z hz').on HB6.out).on hb7).kept (onlyE_setRow (D := fun k => w.heap.size ≤ k) (g := q) HP5.out.hq vc)
              have HLT : Hid (∀ k, LD p pw pg T k → k < w5.heap.size) := fun k hk => HP5.out.link.ldlt hk
              generalize w6.alloc (.cells vc 34) = W7 at hrow7 hrowq HP8 HA8 HO8 HZ8 ⊢
              clear hb7 hP8
              go_upto_region 13 with (first | (refine load_L (.tmp 22) rfl hrow7 hs12 ?_) | (refine store_L (.tmp 12) (.tmp 61) rfl rfl hrowq (dl_size _ _ _ _ _ _ _ _) hs12 h1c ?_) | fail)
              clear hrow7 hrowq
              generalize W7.setRow q vc = W8 at HP8 HA8 HO8 HZ8 ⊢
              have hc17 := HA8.out.n
              have hsd := lout_any HP8.out.link a.n
              clear hs12 h1c
              go_wp2_with fail
              refine hsd.mono ?_
              rintro e w9 ⟨A9, n9, c9, rfl, hn9, hO9, hI9⟩
              obtain ⟨T9, l9, D9, hP9⟩ := HP8.out.wstep hI9.to
              have hld8 : ∀ k, LD p pw pg T k → w.heap.size ≤ k := fun k hk => HP8.out.hD k (HP8.out.link.ld k hk)
              have hO10 := own_only HO8.out hI9.2 (fun b hb e => by have := (HO8.out.lt b hb).1; have := HLT.out b e; omega)
              obtain ⟨ys9, hy9, hr9, hw9⟩ := hO9
              have hzl : zs.length = n9 := by rw [← hn9.out, ← HZM.out, List.length_map]
              have hyl : ys9.length = n9 := by rw [← hn9.out, ← hy9, List.length_map]
              have hkz : n9 = kz := by rw [← hz.out]; exact hzl.symm
              rw [hn9.out] at hr9
              subst hkz
              have hle : n9 ≤ 100 := by
                have h1 := HP8.out.link.fit3
                have h2 : n9 ≤ 1 + s.fs.length := by
                  rw [← hn9.out]
                  unfold Ls.outF
                  rw [List.length_append]
                  have h3 := wordF_len (s.ask a.n)
                  have h4 := chunkF_len ((s.ask a.n).told)
                  have h5 : ((s.ask a.n).told).fs.length = s.fs.length := rfl
                  omega
                omega
              have hsame := refSameL_any A9 C n9 c9 cc ys9 zs w9 hyl hzl (by rw [hy9, HZM.out]) (fun y hy => outF_ok HP8.out.link (by unfold Gt.sum at hsum2; omega) a.n _ (hy9 ▸ List.mem_map_of_mem hy)) (Lies.of_ownK hr9) (Lies.of_ownK hO10) (fun y hy => ((hw9 y hy).toX (D := fun _ => False) fun _ h => h.elim).frl) (fun z hz' => ((HZ8.out z hz').kept (hI9.2.mono hld8)).frl) (by omega)
              have HP9 := Lib.hid hP9
              have HNUM : Hid ((s.outS a.n).last ≤ k + 1 ∧ (s.outS a.n).g.sum ≤ k + 1 ∧ ks.length ≤ k + 1) := by
                have h1 := HSN.out
                refine ⟨?_, ?_, by omega⟩
                · show s.last ≤ k + 1; omega
                · show s.g.sum ≤ k + 1; omega
              clear hsd hP9 hld8 hO10 hr9 hw9 hy9 hzl hyl hn9 hI9 hle HP8 HA8 HO8 HZ8 HLT HV HZM HZX HTS HO HP5 HA5 HX5 HB6 HA6 HSN HDT HNL hc17
              go_wp2_with fail
              refine hsame.mono ?_
              rintro e U ⟨rfl, hbU⟩
              have HPU := Lib.hid (HP9.out.on hbU)
              clear hbU HP9 hsame
              go_wp2_with fail
              go_meet
              exact ⟨_, _, _, _, _, _, _, _, _, _, _, HPU.out, HNUM.out.1, HNUM.out.2.1, HNUM.out.2.2⟩
        case rest =>
          clear hrow hf hc0 HX HGQ HXO HP5 HA5 HX5 HDT HNL
          obtain ⟨T9, l9, sN, D9, dt9, AN, cN, lmN, BN, eN, ksN, hPU, hlN, hsN, hkN⟩ := hcut
          have HPU := Lib.hid hPU
          have HNUM := Lib.hid (And.intro hlN (And.intro hsN hkN))
          clear hPU hlN hsN hkN
          generalize wc = U at HPU ⊢
          go_upto_region 26 with fail
          have hln := HPU.out.len
          have hfit := HPU.out.fit
          have hql := HPU.out.qlt
          have CRO : Hid (∀ V, Below U.heap.size U V → Calls Try.prog 21 #[.pointer (some ⟨p, 0, none⟩)] V fun e w' => e = .returned (.int .i64 ((sN.width : Int) - (lmN.length : Int))) ∧ Below V.heap.size V w') := fun V hV => by
            have h1 := lroom_any (HPU.out.on hV).link
            rw [show ((sN.width - sN.fs.length : Nat) : Int) = (sN.width : Int) - (lmN.length : Int) by omega] at h1
            exact h1
          have CWA : Hid (∀ V, Below U.heap.size U V → Calls Try.prog 22 #[.pointer (some ⟨p, 0, none⟩)] V fun e w' => e = .returned (.int .i64 (lmN.length : Int)) ∧ w' = V) := fun V hV => by
            have h1 := lwaits_any (HPU.out.on hV).link
            rw [← hln] at h1
            exact h1
          have CUP : Hid (∀ V, Below U.heap.size U V → Calls Try.prog 23 #[.pointer (some ⟨p, 0, none⟩)] V fun e w' => e = .returned (.int .u64 (sN.g.u : Int)) ∧ w' = V) := fun V hV => lupto_any (HPU.out.on hV).link
          have y2 : ∀ V, Below U.heap.size U V → V.cell? ⟨q, 2, none⟩ = some (.int .i64 (sN.width : Int)) := fun V hV => (hV.cell (p := ⟨q, 2, none⟩) hql).trans (cell_of_row U q 2 _ _ _ HPU.out.row)
          have y3 : ∀ V, Below U.heap.size U V → V.cell? ⟨q, 3, none⟩ = some (.slice AN lmN.length cN) := fun V hV => (hV.cell (p := ⟨q, 3, none⟩) hql).trans (cell_of_row U q 3 _ _ _ HPU.out.row)
          have y6 : ∀ V, Below U.heap.size U V → V.cell? ⟨q, 6, none⟩ = some (.int .u64 (sN.g.u : Int)) := fun V hV => (hV.cell (p := ⟨q, 6, none⟩) hql).trans (cell_of_row U q 6 _ _ _ HPU.out.row)
          have HN8 : Hid (∀ V, Below U.heap.size U V → PlAt w p pw pg q (k + 1) V) := fun V hV => ⟨_, _, _, _, _, _, _, _, _, _, _, HPU.out.on hV, HNUM.out.1, HNUM.out.2.1, HNUM.out.2.2⟩
          have hwr : IntKind.i64.wrap ((sN.width : Int) - (lmN.length : Int)) = (sN.width : Int) - (lmN.length : Int) := IntWalk.i64_in _ (by omega)
          generalize sN.width = wdN at CRO y2 hwr
          generalize sN.g.u = uN at CUP y6
          generalize lmN.length = nmN at CRO CWA y3 hwr
          clear hln hfit hql HPU HNUM
          have hHD : Below U.heap.size U U.drew := (Below.refl _ _).drew
          refine wp_region_held_drew (S := fun V => Below U.heap.size U V) (by kernel_rfl) hHD (fun hHeld => ?_)
          clear hHD
          have hHeld : Below U.heap.size U U.drew := (Below.refl _ _).drew
          generalize U.drew = X0 at hHeld ⊢
          refine wpAnyH_takeAt (i := 0) (d := 113) (v := ?_) rfl rfl (by kernel_rfl) (by kernel_rfl) (by kernel_rfl) (fun _ _ _ h => h) (Or.inl ⟨by rfl, ?_⟩) hHeld ?_
          rotate_left
          · (intro _ hSw; go_simp; try with_reducible rfl)
          simp only [List.setIfInBounds_toArray, List.set_cons_zero, List.set_cons_succ]
          refine wpAnyH_takeAt (i := 2) (d := 115) (v := ?_) rfl rfl (by kernel_rfl) (by kernel_rfl) (by kernel_rfl) (fun _ _ _ h => h) (Or.inl ⟨by rfl, ?_⟩) hHeld ?_
          rotate_left
          · (intro _ hSw; go_simp; try with_reducible rfl)
          simp only [List.setIfInBounds_toArray, List.set_cons_zero, List.set_cons_succ]
          refine wpAnyH_takeAt (i := 3) (d := 116) (v := ?_) rfl rfl (by kernel_rfl) (by kernel_rfl) (by kernel_rfl) (fun _ _ _ h => h) (Or.inl ⟨by rfl, ?_⟩) hHeld ?_
          rotate_left
          · (intro _ hSw; go_simp; try with_reducible rfl)
          simp only [List.setIfInBounds_toArray, List.set_cons_zero, List.set_cons_succ]
          refine wpAnyH_takeAt (i := 4) (d := 117) (v := ?_) rfl rfl (by kernel_rfl) (by kernel_rfl) (by kernel_rfl) (fun _ _ _ h => h) (Or.inl ⟨by rfl, ?_⟩) hHeld ?_
          rotate_left
          · (intro _ hSw; have z := y2 _ hSw; go_simp; try with_reducible rfl)
          simp only [List.setIfInBounds_toArray, List.set_cons_zero, List.set_cons_succ]
          refine wpAnyH_takeAt (i := 5) (d := 118) (v := ?_) rfl rfl (by kernel_rfl) (by kernel_rfl) (by kernel_rfl) (fun _ _ _ h => h) (Or.inl ⟨by rfl, ?_⟩) hHeld ?_
          rotate_left
          · (intro _ hSw; go_simp; try with_reducible rfl)
          simp only [List.setIfInBounds_toArray, List.set_cons_zero, List.set_cons_succ]
          refine wpAnyH_takeAt (i := 6) (d := 119) (v := ?_) rfl rfl (by kernel_rfl) (by kernel_rfl) (by kernel_rfl) (fun _ _ _ h => h) (Or.inl ⟨by rfl, ?_⟩) hHeld ?_
          rotate_left
          · (intro _ hSw; go_simp; try with_reducible rfl)
          simp only [List.setIfInBounds_toArray, List.set_cons_zero, List.set_cons_succ]
          refine wpAnyH_takeAt (i := 7) (d := 120) (v := ?_) rfl rfl (by kernel_rfl) (by kernel_rfl) (by kernel_rfl) (fun _ _ _ h => h) (Or.inl ⟨by rfl, ?_⟩) hHeld ?_
          rotate_left
          · (intro _ hSw; have z := y3 _ hSw; go_simp; try with_reducible rfl)
          simp only [List.setIfInBounds_toArray, List.set_cons_zero, List.set_cons_succ]
          refine wpAnyH_takeAt (i := 8) (d := 121) (v := ?_) rfl rfl (by kernel_rfl) (by kernel_rfl) (by kernel_rfl) (fun _ _ _ h => h) (Or.inl ⟨by rfl, ?_⟩) hHeld ?_
          rotate_left
          · (intro _ hSw; go_simp; try with_reducible rfl)
          simp only [List.setIfInBounds_toArray, List.set_cons_zero, List.set_cons_succ]
          refine wpAnyH_takeAt (i := 9) (d := 122) (v := ?_) rfl rfl (by kernel_rfl) (by kernel_rfl) (by kernel_rfl) (fun _ _ _ h => h) (Or.inl ⟨by rfl, ?_⟩) hHeld ?_
          rotate_left
          · (intro _ hSw; go_simp; try with_reducible rfl)
          simp only [List.setIfInBounds_toArray, List.set_cons_zero, List.set_cons_succ]
          refine wpAnyH_ready (rs := [1]) (by kernel_rfl) (by simp) ?_
          refine AllReadyH.cons rfl (fun K hK => ?_) AllReadyH.nil
          go_simp
          refine (CRO.out _ hHeld).mono ?_
          rintro e V' ⟨rfl, hb'⟩
          have hHeld2 : Below U.heap.size U V' := hHeld.trans (hb'.mono hHeld.size)
          refine hK.out _ _ hHeld2 (fun _ => ?_)
          clear hK K hHeld hb'
          have hHeld := hHeld2
          clear hHeld2
          refine wpAnyH_takeAt (i := 10) (d := 123) (v := ?_) rfl rfl (by kernel_rfl) (by kernel_rfl) (by kernel_rfl) (fun _ _ _ h => h) (Or.inl ⟨by rfl, ?_⟩) hHeld ?_
          rotate_left
          · (intro _ hSw; go_simp; try with_reducible rfl)
          simp only [List.setIfInBounds_toArray, List.set_cons_zero, List.set_cons_succ]
          refine wpAnyH_takeAt (i := 11) (d := 124) (v := ?_) rfl rfl (by kernel_rfl) (by kernel_rfl) (by kernel_rfl) (fun _ _ _ h => h) (Or.inl ⟨by rfl, ?_⟩) hHeld ?_
          rotate_left
          · (intro _ hSw; go_simp; try with_reducible rfl)
          simp only [List.setIfInBounds_toArray, List.set_cons_zero, List.set_cons_succ]
          refine wpAnyH_takeAt (i := 12) (d := 125) (v := ?_) rfl rfl (by kernel_rfl) (by kernel_rfl) (by kernel_rfl) (fun _ _ _ h => h) (Or.inl ⟨by rfl, ?_⟩) hHeld ?_
          rotate_left
          · (intro _ hSw; go_simp; try with_reducible rfl)
          simp only [List.setIfInBounds_toArray, List.set_cons_zero, List.set_cons_succ]
          refine wpAnyH_takeAt (i := 14) (d := 127) (v := ?_) rfl rfl (by kernel_rfl) (by kernel_rfl) (by kernel_rfl) (fun _ _ _ h => h) (Or.inl ⟨by rfl, ?_⟩) hHeld ?_
          rotate_left
          · (intro _ hSw; go_simp; try with_reducible rfl)
          simp only [List.setIfInBounds_toArray, List.set_cons_zero, List.set_cons_succ]
          refine wpAnyH_takeAt (i := 15) (d := 128) (v := ?_) rfl rfl (by kernel_rfl) (by kernel_rfl) (by kernel_rfl) (fun _ _ _ h => h) (Or.inl ⟨by rfl, ?_⟩) hHeld ?_
          rotate_left
          · (intro _ hSw; go_simp; try with_reducible rfl)
          simp only [List.setIfInBounds_toArray, List.set_cons_zero, List.set_cons_succ]
          refine wpAnyH_takeAt (i := 16) (d := 129) (v := ?_) rfl rfl (by kernel_rfl) (by kernel_rfl) (by kernel_rfl) (fun _ _ _ h => h) (Or.inl ⟨by rfl, ?_⟩) hHeld ?_
          rotate_left
          · (intro _ hSw; have z := y3 _ hSw; go_simp; try with_reducible rfl)
          simp only [List.setIfInBounds_toArray, List.set_cons_zero, List.set_cons_succ]
          refine wpAnyH_takeAt (i := 17) (d := 130) (v := ?_) rfl rfl (by kernel_rfl) (by kernel_rfl) (by kernel_rfl) (fun _ _ _ h => h) (Or.inl ⟨by rfl, ?_⟩) hHeld ?_
          rotate_left
          · (intro _ hSw; go_simp; try with_reducible rfl)
          simp only [List.setIfInBounds_toArray, List.set_cons_zero, List.set_cons_succ]
          refine wpAnyH_ready (rs := [13]) (by kernel_rfl) (by simp) ?_
          refine AllReadyH.cons rfl (fun K hK => ?_) AllReadyH.nil
          go_simp
          refine (CWA.out _ hHeld).mono ?_
          rintro e V2 ⟨rfl, he⟩
          subst he
          refine hK.out _ _ hHeld (fun _ => ?_)
          clear hK K
          refine wpAnyH_takeAt (i := 18) (d := 131) (v := ?_) rfl rfl (by kernel_rfl) (by kernel_rfl) (by kernel_rfl) (fun _ _ _ h => h) (Or.inl ⟨by rfl, ?_⟩) hHeld ?_
          rotate_left
          · (intro _ hSw; go_simp; try with_reducible rfl)
          simp only [List.setIfInBounds_toArray, List.set_cons_zero, List.set_cons_succ]
          refine wpAnyH_takeAt (i := 19) (d := 132) (v := ?_) rfl rfl (by kernel_rfl) (by kernel_rfl) (by kernel_rfl) (fun _ _ _ h => h) (Or.inl ⟨by rfl, ?_⟩) hHeld ?_
          rotate_left
          · (intro _ hSw; go_simp; try with_reducible rfl)
          simp only [List.setIfInBounds_toArray, List.set_cons_zero, List.set_cons_succ]
          refine wpAnyH_takeAt (i := 20) (d := 133) (v := ?_) rfl rfl (by kernel_rfl) (by kernel_rfl) (by kernel_rfl) (fun _ _ _ h => h) (Or.inl ⟨by rfl, ?_⟩) hHeld ?_
          rotate_left
          · (intro _ hSw; go_simp; try with_reducible rfl)
          simp only [List.setIfInBounds_toArray, List.set_cons_zero, List.set_cons_succ]
          refine wpAnyH_takeAt (i := 21) (d := 134) (v := ?_) rfl rfl (by kernel_rfl) (by kernel_rfl) (by kernel_rfl) (fun _ _ _ h => h) (Or.inl ⟨by rfl, ?_⟩) hHeld ?_
          rotate_left
          · (intro _ hSw; go_simp; try with_reducible rfl)
          simp only [List.setIfInBounds_toArray, List.set_cons_zero, List.set_cons_succ]
          refine wpAnyH_takeAt (i := 23) (d := 136) (v := ?_) rfl rfl (by kernel_rfl) (by kernel_rfl) (by kernel_rfl) (fun _ _ _ h => h) (Or.inl ⟨by rfl, ?_⟩) hHeld ?_
          rotate_left
          · (intro _ hSw; go_simp; try with_reducible rfl)
          simp only [List.setIfInBounds_toArray, List.set_cons_zero, List.set_cons_succ]
          refine wpAnyH_takeAt (i := 24) (d := 137) (v := ?_) rfl rfl (by kernel_rfl) (by kernel_rfl) (by kernel_rfl) (fun _ _ _ h => h) (Or.inl ⟨by rfl, ?_⟩) hHeld ?_
          rotate_left
          · (intro _ hSw; go_simp; try with_reducible rfl)
          simp only [List.setIfInBounds_toArray, List.set_cons_zero, List.set_cons_succ]
          refine wpAnyH_takeAt (i := 25) (d := 138) (v := ?_) rfl rfl (by kernel_rfl) (by kernel_rfl) (by kernel_rfl) (fun _ _ _ h => h) (Or.inl ⟨by rfl, ?_⟩) hHeld ?_
          rotate_left
          · (intro _ hSw; have z := y6 _ hSw; go_simp; try with_reducible rfl)
          simp only [List.setIfInBounds_toArray, List.set_cons_zero, List.set_cons_succ]
          refine wpAnyH_ready (rs := [22]) (by kernel_rfl) (by simp) ?_
          refine AllReadyH.cons rfl (fun K hK => ?_) AllReadyH.nil
          go_simp
          refine (CUP.out _ hHeld).mono ?_
          rintro e V3 ⟨rfl, he⟩
          subst he
          refine hK.out _ _ hHeld (fun _ => ?_)
          clear hK K
          refine wpAnyH_takeAt (i := 26) (d := 139) (v := ?_) rfl rfl (by kernel_rfl) (by kernel_rfl) (by kernel_rfl) (fun _ _ _ h => h) (Or.inl ⟨by rfl, ?_⟩) hHeld ?_
          rotate_left
          · (intro _ hSw; go_simp; try with_reducible rfl)
          simp only [List.setIfInBounds_toArray, List.set_cons_zero, List.set_cons_succ]
          refine wpAnyH_takeAt (i := 27) (d := 140) (v := ?_) rfl rfl (by kernel_rfl) (by kernel_rfl) (by kernel_rfl) (fun _ _ _ h => h) (Or.inl ⟨by rfl, ?_⟩) hHeld ?_
          rotate_left
          · (intro _ hSw; go_simp; try with_reducible rfl)
          simp only [List.setIfInBounds_toArray, List.set_cons_zero, List.set_cons_succ]
          refine wpAnyH_done (by kernel_rfl) ?_ _
          have HN9 := Lib.hid (HN8.out _ hHeld)
          clear hHeld
          go_wp2
          go_roundw
          case rel => exact ⟨k + 1, by omega, by go_num, HN9.out⟩
          case measure => simp [intOf]; omega
    · obtain rfl : k = n := by omega
      have HB := Lib.hid HP.out.below
      clear HP hlt
      go_wp2_with (go_at_call 9; refine (awake_any _).mono ?_; rintro e w' ⟨rfl, hb'⟩)
      go_ret
      exact ⟨rfl, HB.out.trans (hb'.mono HB.out.size)⟩

theorem linkPlays_many (v0 v1 v2 v3 : Value) (A : Option Addr) (n c : Nat) (w : World) (hn : 100 < n) :
    Calls Try.prog 3 #[v0, v1, v2, v3, .slice A n c] w fun e w' => e = .returned (.bool true) ∧ Below w.heap.size w w' := by
  have hd : decide (100 < (n : Int)) = true := by simp; omega
  go_enter Try.func3, Try.ntmps3
  go_wp2_with (go_at_call 9; refine (awake_any _).mono ?_; rintro e w' ⟨rfl, hb⟩)
  go_ret
  exact ⟨rfl, hb⟩

theorem own : ownKnob Try.prog.godebug = none := by kernel_rfl
theorem laidOut : laidOutB Try.prog = true := by kernel_rfl

set_option maxRecDepth 100000 in
theorem linkPlays_lifted (os : Os) (started : os.Started) (H : Type) (enc : TypeId × Value → H) :
    ReturnsInHanded {} Try.checked os 3 .any (Rows.linkPlaysSpec.pre6 enc Try.prog Try.f3 Rows.linkPlaysRow.domain false) (Rows.linkPlaysSpec.post enc Try.prog Try.f3 false true false false) := by
  refine returnsInHanded_of_change (C := Try.checked) own started (by kernel_rfl) Try.func3
    (ChangeSpec.witness6 (enc := enc) (C := Try.checked) false ⟨#[], #[.int .u8 0, .int .u8 0, .int .i64 0, .int .i64 0, .slice none 0 0], []⟩ 8 (by kernel_rfl) (by kernel_rfl) (by kernel_rfl) (by kernel_rfl)) ?_
  intro W base args ds gs before hval0 hW _ _
  have hval : ∀ (j : Nat) t v, Try.f3.params[j]? = some t → args[j]? = some v → Value.okWide Try.prog W .any base t v := hval0
  have hW' := hW
  obtain ⟨p, q, hA0, hV, rfl, _, _⟩ := hW
  have hA : DataW.TrodAll enc Try.prog W 0 (fun _ => true) true Try.f3.params.toList args.toList ds p := hA0
  rw [Try.params3] at hA hval
  obtain ⟨v0, vs0, d0, ds0, p0, q0, hargs, rfl, rfl, h0, r0⟩ := trodAll_cons hA
  obtain ⟨v1, vs1, d1, ds1, p1, q1, rfl, rfl, rfl, h1, r1⟩ := trodAll_cons r0
  obtain ⟨v2, vs2, d2, ds2, p2, q2, rfl, rfl, rfl, h2, r2⟩ := trodAll_cons r1
  obtain ⟨v3, vs3, d3, ds3, p3, q3, rfl, rfl, rfl, h3, r3⟩ := trodAll_cons r2
  obtain ⟨v4, vs4, d4, ds4, p4, q4, rfl, rfl, rfl, h4, r4⟩ := trodAll_cons r3
  obtain ⟨rfl, rfl, rfl⟩ := trodAll_nil r4
  obtain rfl : args = #[v0, v1, v2, v3, v4] := by cases args; simp_all
  obtain ⟨rfl, rfl⟩ := trodVars_none hV
  have k0 := h0
  have lt0 : ∀ x ∈ p0, x.block < W.heap.size := by obtain ⟨m, hm⟩ := k0; exact DataW.trod_lt m _ _ _ hm
  have k1 := h1
  have lt1 : ∀ x ∈ p1, x.block < W.heap.size := by obtain ⟨m, hm⟩ := k1; exact DataW.trod_lt m _ _ _ hm
  have k2 := h2
  have lt2 : ∀ x ∈ p2, x.block < W.heap.size := by obtain ⟨m, hm⟩ := k2; exact DataW.trod_lt m _ _ _ hm
  have k3 := h3
  have lt3 : ∀ x ∈ p3, x.block < W.heap.size := by obtain ⟨m, hm⟩ := k3; exact DataW.trod_lt m _ _ _ hm
  have k4 := h4
  have lt4 : ∀ x ∈ p4, x.block < W.heap.size := by obtain ⟨m, hm⟩ := k4; exact DataW.trod_lt m _ _ _ hm
  obtain ⟨a0, rfl, _, _, wf0⟩ := open_int Try.underlying5 (hval 0 5 v0 rfl rfl) h0
  obtain ⟨a1, rfl, _, _, wf1⟩ := open_int Try.underlying5 (hval 1 5 v1 rfl rfl) h1
  obtain ⟨a2, rfl, _, _, wf2⟩ := open_int Try.underlying3 (hval 2 3 v2 rfl rfl) h2
  obtain ⟨a3, rfl, _, _, wf3⟩ := open_int Try.underlying2 (hval 3 2 v3 rfl rfl) h3
  have hwalk : Calls Try.prog 3 #[.int .u8 a0, .int .u8 a1, .int .i64 a2, .int .i64 a3, v4] W fun e w' => e = .returned (.bool true) ∧ Below W.heap.size W w' := by
    obtain ⟨x4, len4, cap4, rfl⟩ := okWide_slice Try.underlying22 (hval 4 22 v4 rfl rfl)
    obtain ⟨fuel4, hf4⟩ := h4
    obtain ⟨l, A, n, c, hv, hl, hc, hcm, hL, hok⟩ := open_las (by simpa [Value.cells] using hf4)
    injection hv with e1 e2 e3
    subst e1 e2 e3
    by_cases hn : 100 < len4
    · exact linkPlays_many _ _ _ _ x4 len4 cap4 W hn
    · have b0 := bounds_u8 wf0
      have b1 := bounds_u8 wf1
      have b2 := bounds_i64 wf2
      have b3 := bounds_i64 wf3
      obtain ⟨me, rfl⟩ : ∃ k : Nat, a0 = (k : Int) := ⟨a0.toNat, by omega⟩
      obtain ⟨pe, rfl⟩ : ∃ k : Nat, a1 = (k : Int) := ⟨a1.toNat, by omega⟩
      exact linkPlays_walk me pe a2 a3 x4 len4 cap4 l W (by omega) (by omega) (by omega) (by omega) (by omega) (by omega) hl (by omega) hL hok
  clear hA0 hval0
  refine hwalk.mono fun e W' ⟨he, bel⟩ => ?_
  subst he
  exact ⟨_, rfl, _, _, _, [], _, [], hW', trodAll_mk1 (shut_bool Try.underlying4 _), (trodAll_cons_mk (Below.trod laidOut (by kernel_rfl) (of_decide_eq_true (by kernel_rfl)) k0 bel lt0) (trodAll_cons_mk (Below.trod laidOut (by kernel_rfl) (of_decide_eq_true (by kernel_rfl)) k1 bel lt1) (trodAll_cons_mk (Below.trod laidOut (by kernel_rfl) (of_decide_eq_true (by kernel_rfl)) k2 bel lt2) (trodAll_cons_mk (Below.trod laidOut (by kernel_rfl) (of_decide_eq_true (by kernel_rfl)) k3 bel lt3) (trodAll_cons_mk (Below.trod laidOut (by kernel_rfl) (of_decide_eq_true (by kernel_rfl)) k4 bel lt4) trodAll_mk0))))), rfl, bel.frame _, fun h => by cases h⟩

theorem linkPlays_proved : Rows.LinkPlaysSaid :=
  OpenClaim.holds_of_wide 3 Try.f3 rfl rfl rfl rfl rfl rfl rfl ⟨rfl, rfl, rfl, rfl, rfl⟩ rfl rfl rfl rfl rfl (by kernel_rfl) Try.func3 (by kernel_rfl)
    (of_decide_eq_true (by kernel_rfl)) (by unfold Func.isWrapper; first | (rw [if_pos (by decide +kernel)]; kernel_rfl) | (rw [if_neg (by decide +kernel)]; exact ⟨rfl, rfl⟩))
    (fun os started H enc _ => linkPlays_lifted os started H enc)

end Go.Proofs.Ytbkkpimhoeagdaa
