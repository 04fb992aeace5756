/- BatchOrders: for every vector and every list of runs the call returns true (in order each id of a batch comes once, each sender's by their numbers, none left out), and changes nothing that was there. No conditions. -/
import Derived.Test.YtfkpffkickicmaaBtS
import Derived.Test.YtfkpffkickicmaaBtU
import Derived.Test.YtfkpffkickicmaaBtT
import Derived.ChangeOld
namespace Go.Proofs.Ytfkpffkickicmaa
open Go.ChangeShapes Go.WideShapes Go.ChangeAt Go.RowKit

theorem own_blkO {b n c g : Nat} (h : (Value.slice (some ⟨b, 0, none⟩) n c).ownBlock = some g) : b = g := by simpa [Value.ownBlock] using h

theorem afterL_length (base : List Nat) (l : List Rn) : (afterL base l).length = base.length := by
  unfold afterL
  split
  · exact addTo_length _ _ _
  · rfl
theorem orderL_length (l : List Rn) (h : l.length ≤ 100) : (orderL l).length ≤ 1000000 := by
  unfold orderL
  split
  · next hc => exact Nat.le_trans (ordTo_len rfl h (longR_le hc.1 hc.2)) (by omega)
  · simp

theorem batchOrders_long (A : Option Addr) (n c : Nat) (A3 : Option Addr) (k c3 : Nat) (w : World) (hn : 64 < n) :
    Calls Try.prog 6 #[.slice A n c, .slice A3 k c3] w fun e w' => e = .returned (.bool true) ∧ RowKit.Below w.heap.size w w' := by
  have hd : decide (64 < (n : Int)) = true := by simp; omega
  go_enter Try.func6, Try.ntmps6
  go_wp2_with (go_at_call 7; refine (awake_any _).mono ?_; rintro e w' ⟨rfl, hb⟩)
  go_ret
  exact ⟨rfl, hb⟩

theorem batchOrders_long2 (A : Option Addr) (n c : Nat) (A3 : Option Addr) (k c3 : Nat) (w : World) (hn : n ≤ 64) (hk : 64 < k) :
    Calls Try.prog 6 #[.slice A n c, .slice A3 k c3] w fun e w' => e = .returned (.bool true) ∧ RowKit.Below w.heap.size w w' := by
  have hd : decide (64 < (n : Int)) = false := by simp; omega
  have hd2 : decide (64 < (k : Int)) = true := by simp; omega
  go_enter Try.func6, Try.ntmps6
  go_wp2_with (go_at_call 7; refine (awake_any _).mono ?_; rintro e w' ⟨rfl, hb⟩)
  go_ret
  exact ⟨rfl, hb⟩

set_option maxHeartbeats 3200000 in
theorem batchOrders_walk (A : Option Addr) (n c : Nat) (base : List Nat) (A3 : Option Addr) (k c3 : Nat) (l : List Rn) (w : World) (hn : n ≤ 64) (hk : k ≤ 64)
    (hl : base.length = n) (h : Lies w w.heap.size A (uvs base)) (hu : ∀ x ∈ base, x < 18446744073709551616) (hl3 : l.length = k) (h3 : Lies w w.heap.size A3 (flat encRn l)) :
    Calls Try.prog 6 #[.slice A n c, .slice A3 k c3] w fun e w' => e = .returned (.bool true) ∧ RowKit.Below w.heap.size w w' := by
  have mixed := mixedOrders
  have hd : decide (64 < (n : Int)) = false := by simp; omega
  have hd2 : decide (64 < (k : Int)) = false := by simp; omega
  have hmay := refMayB_any A n c base 4096 A3 k c3 l w (by omega) hl h hu (by decide) (by omega) hl3 h3
  rw [show roomN 4096 = 4096 from rfl] at hmay
  have J1 : Hid (∀ W, RowKit.Below w.heap.size w W → Calls Try.prog 16 #[.slice A3 k c3] W (OwnIds W W.heap.size (orderL l))) := fun W hW => order_any A3 k c3 l W hl3 (by omega) (h3.on hW)
  have J2 : Hid (∀ W, RowKit.Below w.heap.size w W → Calls Try.prog 8 #[.slice A n c, .slice A3 k c3] W (OwnedV W W.heap.size (afterL base l))) := fun W hW => after_any A n c base A3 k c3 l W (by omega) hl (h.on hW) hu (by omega) hl3 (h3.on hW)
  have HWK : Hid (batB base 4096 l = true → Walks base (orderL l) (afterL base l)) := fun hb => batch_order hb
  have HAL : Hid ((afterL base l).length = n) := by show _ = _; rw [afterL_length]; exact hl
  have HOL : Hid ((orderL l).length ≤ 1000000) := orderL_length l (by omega)
  have HL := Lib.hid hl
  generalize batB base 4096 l = B at hmay HWK
  clear hl hl3 h3 hu
  cases B with
  | false =>
    clear HWK J1 J2 HAL HOL
    go_enter Try.func6, Try.ntmps6
    go_wp2_with fail
    refine hmay.mono ?_
    rintro e w1 ⟨rfl, hb1⟩
    clear hmay
    go_wp2_with fail
    refine (awake_any _).mono ?_
    rintro e w2 ⟨rfl, hb2⟩
    go_wp2
    go_ret
    exact ⟨rfl, hb1.trans (hb2.mono hb1.size)⟩
  | true =>
    have hwk := HWK.out rfl
    obtain ⟨hend, hall⟩ := hwk.all
    generalize afterL base l = aft at J2 HAL hend
    generalize orderL l = ids at J1 HOL hend hall
    have HEND := Lib.hid hend
    have HALL := Lib.hid hall
    have HH := Lib.hid h
    have HHU : Hid (∀ i (hi : i < ids.length), ids[i].s < 18446744073709551616) := fun i hi => ids[i].hs
    clear HWK hwk hend hall h
    go_enter Try.func6, Try.ntmps6
    go_wp2_with fail
    refine hmay.mono ?_
    rintro e w1 ⟨rfl, hb1⟩
    clear hmay
    have hLb := HH.out.on hb1
    go_wp2_with (at_builtin; refine wpList_anew rfl (.tmp 23) (.tmp 24) rfl rfl A n c _ base rfl HL.out hLb (Nat.le_refl _) (by omega) ?_)
    intro v2 w2 hown hb12
    obtain ⟨A1, c1, rfl, _, _⟩ := own_slice hown
    have hb2 : RowKit.Below w.heap.size w w2 := hb1.trans (hb12.mono hb1.size)
    clear hLb
    go_wp2_with fail
    refine (J1.out w2 hb2).mono ?_
    rintro e w3 ⟨A4, n4, c4, rfl, hn4, _, _, hown4, hb23⟩
    have hb3 : RowKit.Below w.heap.size w w3 := hb2.trans (hb23.mono hb2.size)
    have hL4 := Lies.of_ownK hown4
    have H0 := Lib.hid (own_below hown hb23)
    have HOF : Hid (0 < n4 → ∃ g, A4 = some ⟨g, 0, none⟩) := fun hp => by
      obtain ⟨g, cap, hv, _, _⟩ := hown4.form hp
      injection hv with e1
      exact ⟨g, e1⟩
    have hn4b : n4 ≤ 1000000 := by have := hn4.out; have := HOL.out; omega
    have hne : 0 < n → 0 < n4 → ∀ g, A4 = some ⟨g, 0, none⟩ → some g ≠ (Value.slice A1 n c1).ownBlock := fun hp hp4 g hg => by
      obtain ⟨g', cap, hv, _, hlt⟩ := hown.form hp
      obtain ⟨g4, cap4, hv4, hbg4, _⟩ := hown4.form hp4
      rw [hv]
      injection hv4 with e1
      rw [hg] at e1
      injection e1 with e1
      injection e1 with e1
      intro h0
      have := own_blkO h0.symm
      omega
    have HNE := Lib.hid hne
    have hB0 : w.heap.size ≤ w1.heap.size := hb1.size
    have hw13 : w1.heap.size ≤ w3.heap.size := Nat.le_trans hb12.size hb23.size
    generalize w1.heap.size = B0 at H0 hB0 hw13
    clear hown hown4 J1 hb12 hne hb1 hb2 hb23
    go_wp2
    go_loopw [7] (fun s7 wr => ∃ i : Nat, i ≤ n4 ∧ s7 = .int .i64 i ∧ wr.ownsRow B0 40 1 (.slice A1 n c1) n (uvs (goTo base ids i)) ∧ w3.grownBy wr (Value.slice A1 n c1).ownBlock) (fun s7 _ => n4 - (intOf s7).toNat)
    case atStart => exact ⟨0, Nat.zero_le _, rfl, H0.out, World.grownBy.refl _ _⟩
    case round =>
      clear H0
      obtain ⟨i, hi, rfl, hown, hg⟩ := hrel
      have hbr : RowKit.Below w.heap.size w wr := hb3.grown hg hb3.size (fun q hq => by have := (hown.lt q hq).1; omega)
      by_cases hlt : i < n4
      · have hil : i < ids.length := by rw [hn4.out]; exact hlt
        obtain ⟨hfb, hsx⟩ := HALL.out i hil
        have hss := HHU.out i hil
        have HNX := Lib.hid (goTo_next base hil)
        have hlen : (goTo base ids i).length = n := by rw [goTo_length]; exact HL.out
        obtain ⟨g4, off4, hA4, hbl4, c0, c1'⟩ := hL4.id hil
        have hoff : ∃ g, A4 = some ⟨g, 0, none⟩ := HOF.out (by omega)
        obtain ⟨g5, hA5⟩ := hoff
        obtain ⟨rfl, rfl⟩ : g4 = g5 ∧ off4 = 0 := by rw [hA5] at hA4; injection hA4 with e1; injection e1 with e1 e2; exact ⟨e1.symm, e2.symm⟩
        subst hA4
        have hfn : ids[i].f < n := by rw [← HL.out]; exact hfb
        have hneq := HNE.out (by omega) (by omega) g4 rfl
        have d0 := hg.cell c0 hneq
        have d1 := hg.cell c1' hneq
        have hg4 : g4 < wr.heap.size := Nat.lt_of_lt_of_le hbl4 hg.size
        generalize ids[i] = x at d0 d1 hsx hss HNX hfn
        generalize goTo base ids i = b at hown hsx HNX hlen
        have hfb' : x.f < b.length := by rw [hlen]; exact hfn
        rw [num_in hfb'] at hsx
        have HNX2 : Hid (goTo base ids (i + 1) = b.set x.f x.s) := by show _ = _; rw [HNX.out, goStep, num_in hfb', hsx]
        have HGR := Lib.hid hg
        obtain ⟨gg, cap, hv, hbg, hgl⟩ := hown.form (by omega)
        obtain ⟨rfl, rfl⟩ : A1 = some ⟨gg, 0, none⟩ ∧ c1 = cap := by injection hv with e1 _ e3; exact ⟨e1, e3⟩
        have hcn := hown.cellAt x.f (by omega)
        rw [uvs_at hfb'] at hcn
        generalize b[x.f] = y at hcn hsx
        have es : IntKind.u64.wrap ((y : Int) + 1) = (x.s : Int) := by rw [IntKind.wrap_u64]; omega
        generalize x.s = z at es HNX2 d1 hsx hss
        have hd3 : decide (n ≤ x.f) = false := decide_eq_false (by omega)
        have hxf := x.hf
        have HOWN := Lib.hid hown
        have hiz : (i : Int) < (n4 : Int) := by omega
        have hfz : (x.f : Int) < (n : Int) := by omega
        simp only [Nat.zero_add] at d0 d1
        have p0 := later_cell (w0 := wr) (b := g4) hg4 d0
        have p1 := later_cell (w0 := wr) (b := g4) hg4 d1
        have p2 := later_cell (w0 := wr) (b := gg) hgl hcn
        have hb0 := hbr
        clear hv hown hg c0 c1' d0 d1 hcn hsx hss HNX hlen hneq hfb hfb'
        go_wp2_with fail
        refine wp_region_later mixed (by kernel_rfl) ?_
        repeat (go_big_quiet_step (fail))
        refine wpQuiet_nil ?_
        intro _ hw'
        obtain ⟨p, rfl⟩ := hw'
        have hbp : RowKit.Below w.heap.size w p.w := hb0.trans (p.hb.mono hb0.size)
        have hown2 := own_below HOWN.out p.hb
        have q0 := p0 p
        have q2 := p2 p
        have hf2 := hown2.frozenAt x.f
        obtain ⟨hst, hgs⟩ := hown2.stored x.f (.int .u64 (z : Int))
        rw [← uvs_set, ← HNX2.out] at hst
        have hgg : wr.grownBy p.w (some gg) := ⟨p.hb.os, p.hb.tape, p.hb.output, p.hb.size, fun k hk _ => p.hb.block k hk⟩
        have HM := Lib.hid (And.intro hst (HGR.out.trans (hgg.trans hgs)))
        generalize p.w = w6 at q0 q2 hf2 HM ⊢
        clear hown2 hst hgs hgg p0 p1 p2 hbp
        go_wp2
        go_roundw
        case rel => exact ⟨i + 1, by omega, by go_num, HM.out.1, HM.out.2⟩
        case measure => simp [intOf]; omega
      · have hii : i = ids.length := by rw [hn4.out]; omega
        rw [hii, HEND.out] at hown
        have hL1 := Lies.of_own hown
        have haft := J2.out wr hbr
        clear hown hg hii J2
        go_wp2_with fail
        refine haft.mono ?_
        intro e w5 ho
        obtain ⟨A5, n5, c5, rfl, hn5, _, _, hL5, hb45⟩ := ho.use
        have hb5 : RowKit.Below w.heap.size w w5 := hbr.trans (hb45.mono hbr.size)
        have heq := refEqual_same A1 n c1 aft A5 n5 c5 w5 (by omega) HAL.out (hL1.on hb45) hn5.out hL5
        clear ho haft hL1 hL5 hn5
        go_wp2_with fail
        refine heq.mono ?_
        rintro e w6 ⟨rfl, hb56⟩
        have hb6 : RowKit.Below w.heap.size w w6 := hb5.trans (hb56.mono hb5.size)
        clear heq
        go_wp2_with fail
        refine (awake_any _).mono ?_
        rintro e w7 ⟨rfl, hb67⟩
        go_wp2
        go_ret
        exact ⟨rfl, hb6.trans (hb67.mono hb6.size)⟩


theorem own : ownKnob Try.prog.godebug = none := by kernel_rfl
theorem laidOut : laidOutB Try.prog = true := by kernel_rfl

set_option maxRecDepth 100000 in
theorem batchOrders_lifted (os : Os) (started : os.Started) (H : Type) (enc : TypeId × Value → H) :
    ReturnsInHanded {} Try.checked os 6 .any (Rows.batchOrdersSpec.pre6 enc Try.prog Try.f6 Rows.batchOrdersRow.domain false) (Rows.batchOrdersSpec.post enc Try.prog Try.f6 false true false false) := by
  refine returnsInHanded_of_change (C := Try.checked) own started (by kernel_rfl) Try.func6
    (ChangeSpec.witness6 (enc := enc) (C := Try.checked) false ⟨#[], #[.slice none 0 0, .slice none 0 0], []⟩ 8 (by kernel_rfl) (by kernel_rfl) (by kernel_rfl) (by kernel_rfl)) ?_
  intro W base args ds gs before hval0 hW _ _
  have hval : ∀ (j : Nat) t v, Try.f6.params[j]? = some t → args[j]? = some v → Value.okWide Try.prog W .any base t v := hval0
  have hW' := hW
  obtain ⟨p, q, hA0, hV, rfl, _, _⟩ := hW
  have hA : DataW.TrodAll enc Try.prog W 0 (fun _ => true) true Try.f6.params.toList args.toList ds p := hA0
  rw [Try.params6] at hA hval
  obtain ⟨v0, vs0, d0, ds0, p0, q0, hargs, rfl, rfl, h0, r0⟩ := trodAll_cons hA
  obtain ⟨v1, vs1, d1, ds1, p1, q1, rfl, rfl, rfl, h1, r1⟩ := trodAll_cons r0
  obtain ⟨rfl, rfl, rfl⟩ := trodAll_nil r1
  obtain rfl : args = #[v0, v1] := by cases args; simp_all
  obtain ⟨rfl, rfl⟩ := trodVars_none hV
  have k0 := h0
  have lt0 : ∀ x ∈ p0, x.block < W.heap.size := by obtain ⟨m, hm⟩ := k0; exact DataW.trod_lt m _ _ _ hm
  have k1 := h1
  have lt1 : ∀ x ∈ p1, x.block < W.heap.size := by obtain ⟨m, hm⟩ := k1; exact DataW.trod_lt m _ _ _ hm
  have hwalk : Calls Try.prog 6 #[v0, v1] W fun e w' => e = .returned (.bool true) ∧ Below W.heap.size W w' := by
    obtain ⟨a0, len0, cap0, rfl⟩ := okWide_slice Try.underlying22 (hval 0 22 v0 rfl rfl)
    obtain ⟨a1, len1, cap1, rfl⟩ := okWide_slice Try.underlying23 (hval 1 23 v1 rfl rfl)
    obtain ⟨fuel, hf⟩ := h0
    obtain ⟨fuel1, hf1⟩ := h1
    obtain ⟨a, A, n, c, hv, hl, hc1, hc2, hL, hu⟩ := open_nums Try.underlying22 Try.underlying40 (by kernel_rfl) (by simpa [Value.cells] using hf)
    obtain ⟨A3, k, c3, l, hv3, hl3, hc5, hc6, hL3⟩ := open_rns (by simpa [Value.cells] using hf1)
    rw [hv, hv3]
    by_cases hn : n ≤ 64
    · by_cases hk : k ≤ 64
      · exact batchOrders_walk A n c a A3 k c3 l W hn hk hl hL hu hl3 hL3
      · exact batchOrders_long2 A n c A3 k c3 W hn (by omega)
    · exact batchOrders_long A n c A3 k c3 W (by omega)
  clear hA0 hval0
  refine hwalk.mono fun e W' ⟨he, bel⟩ => ?_
  subst he
  exact ⟨_, rfl, _, _, _, [], _, [], hW', trodAll_mk1 (shut_bool Try.underlying4 _), (trodAll_cons_mk (Below.trod laidOut (by kernel_rfl) (of_decide_eq_true (by kernel_rfl)) k0 bel lt0) (trodAll_cons_mk (Below.trod laidOut (by kernel_rfl) (of_decide_eq_true (by kernel_rfl)) k1 bel lt1) trodAll_mk0)), rfl, bel.frame _, fun h => by cases h⟩

theorem batchOrders_proved : Rows.BatchOrdersSaid :=
  OpenClaim.holds_of_wide 6 Try.f6 rfl rfl rfl rfl rfl rfl rfl ⟨rfl, rfl, rfl, rfl, rfl⟩ rfl rfl rfl rfl rfl (by kernel_rfl) Try.func6 (by kernel_rfl)
    (of_decide_eq_true (by kernel_rfl)) (by unfold Func.isWrapper; first | (rw [if_pos (by decide +kernel)]; kernel_rfl) | (rw [if_neg (by decide +kernel)]; exact ⟨rfl, rfl⟩))
    (fun os started H enc _ => batchOrders_lifted os started H enc)

end Go.Proofs.Ytfkpffkickicmaa
