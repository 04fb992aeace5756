/- VecFolds: for every vector and every list of vectors the call returns true (the least and the greatest numbers of them, and whether one covers, or is the same as, all of them, are the document's), and changes nothing that was there. No conditions. -/
import Derived.Test.YtjhdaddemeegmaaVcN
import Derived.Test.YtjhdaddemeegmaaVcJ
import Derived.ChangeOld
namespace Go.Proofs.Ytjhdaddemeegmaa
open Go.ChangeShapes Go.WideShapes Go.ChangeAt Go.RowKit

noncomputable def covTo (a : List Nat) (ls : List (List Nat)) (k : Nat) : Bool := (ls.take k).all fun b => coversB a [b]
noncomputable def samTo (a : List Nat) (ls : List (List Nat)) (k : Nat) : Bool := (ls.take k).all fun b => sameB a [b]

theorem covTo_next (a : List Nat) (ls : List (List Nat)) (k : Nat) (h : k < ls.length) : covTo a ls (k + 1) = (covTo a ls k && coversB a [ls[k]]) := by
  unfold covTo
  rw [List.take_succ_eq_append_getElem h, List.all_append]
  simp
theorem samTo_next (a : List Nat) (ls : List (List Nat)) (k : Nat) (h : k < ls.length) : samTo a ls (k + 1) = (samTo a ls k && sameB a [ls[k]]) := by
  unfold samTo
  rw [List.take_succ_eq_append_getElem h, List.all_append]
  simp
theorem covTo_end (a : List Nat) (ls : List (List Nat)) (k : Nat) (h : ls.length ≤ k) : covTo a ls k = coversB a ls := by
  refine bool_ext ?_
  unfold covTo
  rw [List.take_of_length_le h, List.all_eq_true, coversB_iff]
  refine forall₂_congr fun b _ => ?_
  rw [coversB_iff]
  simp
theorem samTo_end (a : List Nat) (ls : List (List Nat)) (k : Nat) (h : ls.length ≤ k) : samTo a ls k = sameB a ls := by
  refine bool_ext ?_
  unfold samTo
  rw [List.take_of_length_le h, List.all_eq_true, sameB_iff]
  refine forall₂_congr fun b _ => ?_
  rw [sameB_iff]
  simp

set_option maxHeartbeats 3200000 in
theorem vecFolds_walk (A : Option Addr) (n c : Nat) (a : List Nat) (A2 : Option Addr) (m c2 : Nat) (vs : List Value) (ls : List (List Nat)) (w : World) (hn : n ≤ 100) (hm : m ≤ 30) (hva : Vec w w.heap.size (.slice A n c) a)
    (hl2 : vs.length = m) (hc3 : m ≤ c2) (hc4 : c2 ≤ maxLen) (h2 : Lies w w.heap.size A2 vs) (hr : VecRows w w.heap.size vs ls) (hls : (ls.any fun x => decide (100 < x.length)) = false) :
    Calls Try.prog 4 #[.slice A n c, .slice A2 m c2] w fun e w' => e = .returned (.bool true) ∧ Below w.heap.size w w' := by
  have hd : decide (100 < (n : Int)) = false := by simp; omega
  have hg := great_few A2 m c2 vs ls w hm hl2 h2 hr
  rw [hls] at hg
  have hsh := great_says hls
  have hlong : longN ls ≤ 100 := (long_le _ _).2 hsh
  obtain ⟨hl, _, _, h⟩ := hva.parts
  have HL2 := Lib.hid hl2
  have HSH := Lib.hid hsh
  have HLM := Lib.hid (foldV_length max ls)
  have HLm := Lib.hid (foldV_length min ls)
  -- the calls, in every later world
  have J1 : Hid (∀ W : World, Below w.heap.size w W → Calls Try.prog 20 #[.slice A2 m c2] W (OwnedV W W.heap.size (foldV min ls))) := fun W hW => min_any A2 m c2 vs ls W (by omega) hc3 hc4 (by omega) hl2 (h2.later hW) (hr.later hW)
  have J2 : Hid (∀ W : World, Below w.heap.size w W → Calls Try.prog 22 #[.slice A2 m c2] W (OwnedV W W.heap.size (foldV max ls))) := fun W hW => max_any A2 m c2 vs ls W (by omega) hc3 hc4 (by omega) hl2 (h2.later hW) (hr.later hW)
  have J3 : Hid (∀ W : World, Below w.heap.size w W → Calls Try.prog 21 #[.bool false, .slice A2 m c2] W (OwnedV W W.heap.size (foldV min ls))) := fun W hW => refOf_min A2 m c2 vs ls W (by omega) (by omega) hl2 (h2.later hW) (hr.later hW)
  have J4 : Hid (∀ W : World, Below w.heap.size w W → Calls Try.prog 21 #[.bool true, .slice A2 m c2] W (OwnedV W W.heap.size (foldV max ls))) := fun W hW => refOf_max A2 m c2 vs ls W (by omega) (by omega) hl2 (h2.later hW) (hr.later hW)
  have J5 : Hid (∀ W : World, Below w.heap.size w W → Calls Try.prog 23 #[.slice A n c, .slice A2 m c2] W fun e w' => e = .returned (.bool (coversB a ls)) ∧ W = w') := fun W hW =>
    covers_any A n c W.heap.size a A2 m c2 vs ls W (by omega) (by omega) (fun b hb => by have := hsh b hb; omega) hl (h.later hW) hl2 (h2.later hW) (hr.later hW)
  have J6 : Hid (∀ W : World, Below w.heap.size w W → Calls Try.prog 24 #[.slice A n c, .slice A2 m c2] W fun e w' => e = .returned (.bool (sameB a ls)) ∧ W = w') := fun W hW =>
    same_any A n c W.heap.size a A2 m c2 vs ls W (by omega) (by omega) (fun b hb => by have := hsh b hb; omega) hl (h.later hW) hl2 (h2.later hW) (hr.later hW)
  have J7 : Hid (∀ W : World, Below w.heap.size w W → ∀ (b : List Nat) (Ar : Option Addr) (nr cr : Nat), b.length ≤ 100 → Vec w w.heap.size (.slice Ar nr cr) b → Calls Try.prog 18 #[.slice A n c, .slice Ar nr cr] W fun e w' => e = .returned (.bool (coversB a [b])) ∧ Below W.heap.size W w') := fun W hW b Ar nr cr hb hv => by
    obtain ⟨e1, _, _, e4⟩ := (hv.later hW).parts
    exact refCovers_any A n c a Ar nr cr b W (by omega) hl (h.later hW) e1 e4
  have J8 : Hid (∀ W : World, Below w.heap.size w W → ∀ (b : List Nat) (Ar : Option Addr) (nr cr : Nat), b.length ≤ 100 → Vec w w.heap.size (.slice Ar nr cr) b → Calls Try.prog 19 #[.slice A n c, .slice Ar nr cr] W fun e w' => e = .returned (.bool (sameB a [b])) ∧ Below W.heap.size W w') := fun W hW b Ar nr cr hb hv => by
    obtain ⟨e1, _, _, e4⟩ := (hv.later hW).parts
    exact refSame_any A n c a Ar nr cr b W (by omega) (by omega) hl (h.later hW) e1 e4
  have HR := Lib.hid hr
  have H2 := Lib.hid h2
  clear hls hsh hr hl2 hva h2 hc4 hl h
  go_enter Try.func4, Try.ntmps4
  go_wp2_with fail
  refine hg.mono ?_
  rintro e w1 ⟨rfl, rfl⟩
  clear hg
  go_wp2
  go_loopw [5, 6, 7] (fun s5 s6 i wr => ∃ k : Nat, k ≤ m ∧ i = .int .i64 k ∧ s5 = .bool (covTo a ls k) ∧ s6 = .bool (samTo a ls k) ∧ Below w.heap.size w wr) (fun _ _ i _ => m - (intOf i).toNat)
  case atStart => exact ⟨0, Nat.zero_le _, rfl, by unfold covTo; simp, by unfold samTo; simp, Below.refl _ _⟩
  case round =>
    obtain ⟨k, hk, rfl, rfl, rfl, hb⟩ := hrel
    by_cases hlt : k < m
    · have hk1 : k < vs.length := by rw [HL2.out]; exact hlt
      have hk2 : k < ls.length := by rw [← HR.out.1]; exact hk1
      have HN1 := Lib.hid (covTo_next a ls k hk2)
      have HN2 := Lib.hid (samTo_next a ls k hk2)
      have hvr0 := HR.out.2 k hk1 hk2
      obtain ⟨Ar, nr, cr, hvr, hlr, _, _, hLr⟩ := id hvr0
      rw [hvr] at hvr0
      have hlen := HSH.out _ (List.getElem_mem hk2)
      obtain ⟨b, off, rfl, hbl, hc1⟩ := H2.out.at_ (List.getElem?_eq_getElem hk1)
      rw [hvr] at hc1
      have hcell : ∀ W : World, Below w.heap.size w W → W.cell? ⟨b, off + k, none⟩ = some (.slice Ar nr cr) := fun W hW => (hW.cell (p := ⟨b, off + k, none⟩) hbl).trans hc1
      have C1 : Hid (∀ W : World, Below w.heap.size w W → Calls Try.prog 18 #[.slice A n c, .slice Ar nr cr] W fun e w' => e = .returned (.bool (coversB a [ls[k]])) ∧ Below W.heap.size W w') := fun W hW => J7.out W hW ls[k] Ar nr cr hlen hvr0
      have C2 : Hid (∀ W : World, Below w.heap.size w W → Calls Try.prog 19 #[.slice A n c, .slice Ar nr cr] W fun e w' => e = .returned (.bool (sameB a [ls[k]])) ∧ Below W.heap.size W w') := fun W hW => J8.out W hW ls[k] Ar nr cr hlen hvr0
      generalize coversB a [ls[k]] = x at C1 HN1
      generalize sameB a [ls[k]] = y at C2 HN2
      generalize covTo a ls k = p at HN1 ⊢
      generalize samTo a ls k = q at HN2 ⊢
      have HC := Lib.hid hcell
      clear hcell hc1 hvr0 hvr hlr hLr hlen J1 J2 J3 J4 J5 J6 J7 J8 H2
      have hc := HC.out wr hb
      cases p with
      | true =>
        cases q with
        | true =>
          simp only [Bool.true_and] at HN1
          simp only [Bool.true_and] at HN2
          go_wp2_with fail
          refine (C1.out wr hb).mono ?_
          rintro e w1 ⟨rfl, hb1⟩
          have hb01 : Below w.heap.size w w1 := hb.trans (hb1.mono hb.size)
          have hc' := HC.out w1 hb01
          clear hc C1
          go_wp2_with fail
          refine (C2.out w1 hb01).mono ?_
          rintro e w2 ⟨rfl, hb2⟩
          have hb02 : Below w.heap.size w w2 := hb01.trans (hb2.mono hb01.size)
          clear C2
          go_wp2
          go_roundw
          case rel => exact ⟨k + 1, by omega, by go_num, by rw [HN1.out], by rw [HN2.out], hb02⟩
          case measure => simp [intOf]; omega
        | false =>
          simp only [Bool.true_and] at HN1
          simp only [Bool.false_and] at HN2
          go_wp2_with fail
          refine (C1.out wr hb).mono ?_
          rintro e w1 ⟨rfl, hb1⟩
          have hb01 : Below w.heap.size w w1 := hb.trans (hb1.mono hb.size)
          have hc' := HC.out w1 hb01
          clear hc C1
          go_wp2
          go_roundw
          case rel => exact ⟨k + 1, by omega, by go_num, by rw [HN1.out], by rw [HN2.out], hb01⟩
          case measure => simp [intOf]; omega
      | false =>
        cases q with
        | true =>
          simp only [Bool.false_and] at HN1
          simp only [Bool.true_and] at HN2
          go_wp2_with fail
          refine (C2.out wr hb).mono ?_
          rintro e w2 ⟨rfl, hb2⟩
          have hb02 : Below w.heap.size w w2 := hb.trans (hb2.mono hb.size)
          clear C2
          go_wp2
          go_roundw
          case rel => exact ⟨k + 1, by omega, by go_num, by rw [HN1.out], by rw [HN2.out], hb02⟩
          case measure => simp [intOf]; omega
        | false =>
          simp only [Bool.false_and] at HN1
          simp only [Bool.false_and] at HN2
          go_wp2
          go_roundw
          case rel => exact ⟨k + 1, by omega, by go_num, by rw [HN1.out], by rw [HN2.out], hb⟩
          case measure => simp [intOf]; omega
    · have HE1 := Lib.hid (covTo_end a ls k (by rw [← HR.out.1, HL2.out]; omega))
      have HE2 := Lib.hid (samTo_end a ls k (by rw [← HR.out.1, HL2.out]; omega))
      rw [HE1.out, HE2.out]
      generalize coversB a ls = p at J5 ⊢
      generalize sameB a ls = q at J6 ⊢
      clear J7 J8 HE1 HE2 H2 HR
      go_wp2_with fail
      refine (J1.out wr hb).mono ?_
      intro e w1 ho
      obtain ⟨A3, n3, c3, rfl, hn3, _, _, hL3, hb1⟩ := ho.use
      have hb01 : Below w.heap.size w w1 := hb.trans (hb1.mono hb.size)
      have hn3b : n3 ≤ 1000 := by have := hn3.out; rw [HLm.out] at this; omega
      clear ho J1
      go_wp2_with fail
      refine (J3.out w1 hb01).mono ?_
      intro e w2 ho
      obtain ⟨A4, n4, c4, rfl, hn4, _, _, hL4, hb2⟩ := ho.use
      have hb02 : Below w.heap.size w w2 := hb01.trans (hb2.mono hb01.size)
      have heq := refEqual_same A3 n3 c3 (foldV min ls) A4 n4 c4 w2 hn3b hn3.out (hL3.later hb2) hn4.out hL4
      clear ho J3 hL3 hL4 hb01 hb1 hb2
      go_wp2_with fail
      refine heq.mono ?_
      rintro e w3 ⟨rfl, hb3⟩
      have hb03 : Below w.heap.size w w3 := hb02.trans (hb3.mono hb02.size)
      clear heq hb02 hb3
      go_wp2_with fail
      refine (J2.out w3 hb03).mono ?_
      intro e w4 ho
      obtain ⟨A5, n5, c5, rfl, hn5, _, _, hL5, hb4⟩ := ho.use
      have hb04 : Below w.heap.size w w4 := hb03.trans (hb4.mono hb03.size)
      have hn5b : n5 ≤ 1000 := by have := hn5.out; rw [HLM.out] at this; omega
      clear ho J2 hb03
      go_wp2_with fail
      refine (J4.out w4 hb04).mono ?_
      intro e w5 ho
      obtain ⟨A6, n6, c6, rfl, hn6, _, _, hL6, hb5⟩ := ho.use
      have hb05 : Below w.heap.size w w5 := hb04.trans (hb5.mono hb04.size)
      have heq := refEqual_same A5 n5 c5 (foldV max ls) A6 n6 c6 w5 hn5b hn5.out (hL5.later hb5) hn6.out hL6
      clear ho J4 hL5 hL6 hb04 hb4 hb5
      go_wp2_with fail
      refine heq.mono ?_
      rintro e w6 ⟨rfl, hb6⟩
      have hb06 : Below w.heap.size w w6 := hb05.trans (hb6.mono hb05.size)
      clear heq hb05 hb6
      go_wp2_with fail
      refine (J5.out w6 hb06).mono ?_
      rintro e w7 ⟨rfl, rfl⟩
      clear J5
      go_wp2_with fail
      refine (J6.out w6 hb06).mono ?_
      rintro e w7 ⟨rfl, rfl⟩
      clear J6
      go_wp2_with fail
      refine (awake_any _).mono ?_
      rintro e w7 ⟨rfl, hb7⟩
      go_wp2
      go_ret
      exact ⟨by simp, hb06.trans (hb7.mono hb06.size)⟩

set_option maxHeartbeats 400000 in
theorem vecFolds_any (A : Option Addr) (n c : Nat) (a : List Nat) (A2 : Option Addr) (m c2 : Nat) (vs : List Value) (ls : List (List Nat)) (w : World) (hva : Vec w w.heap.size (.slice A n c) a)
    (hl2 : vs.length = m) (hc3 : m ≤ c2) (hc4 : c2 ≤ maxLen) (h2 : Lies w w.heap.size A2 vs) (hr : VecRows w w.heap.size vs ls) :
    Calls Try.prog 4 #[.slice A n c, .slice A2 m c2] w fun e w' => e = .returned (.bool true) ∧ Below w.heap.size w w' := by
  by_cases hm : m ≤ 30
  · have hg := great_few A2 m c2 vs ls w hm hl2 h2 hr
    cases hls : (ls.any fun x => decide (100 < x.length)) with
    | true =>
      rw [hls] at hg
      clear hva hl2 h2 hr hc4 hls
      go_enter Try.func4, Try.ntmps4
      go_wp2_with (first
        | (go_at_call 17; refine hg.mono ?_; rintro e w' ⟨rfl, rfl⟩)
        | (go_at_call 9; refine (awake_any _).mono ?_; rintro e w' ⟨rfl, hb⟩))
      go_ret
      exact ⟨rfl, hb⟩
    | false =>
      by_cases hn : n ≤ 100
      · exact vecFolds_walk A n c a A2 m c2 vs ls w hn hm hva hl2 hc3 hc4 h2 hr hls
      · rw [hls] at hg
        have hd : decide (100 < (n : Int)) = true := by simp; omega
        clear hva hl2 h2 hr hc4 hls
        go_enter Try.func4, Try.ntmps4
        go_wp2_with (first
          | (go_at_call 17; refine hg.mono ?_; rintro e w' ⟨rfl, rfl⟩)
          | (go_at_call 9; refine (awake_any _).mono ?_; rintro e w' ⟨rfl, hb⟩))
        go_ret
        exact ⟨rfl, hb⟩
  · have hg := great_many A2 m c2 w (by omega)
    clear hva hl2 h2 hr hc4
    go_enter Try.func4, Try.ntmps4
    go_wp2_with (first
      | (go_at_call 17; refine hg.mono ?_; rintro e w' ⟨rfl, rfl⟩)
      | (go_at_call 9; refine (awake_any _).mono ?_; rintro e w' ⟨rfl, hb⟩))
    go_ret
    exact ⟨rfl, hb⟩

theorem own : ownKnob Try.prog.godebug = none := by kernel_rfl
theorem laidOut : laidOutB Try.prog = true := by kernel_rfl

set_option maxRecDepth 100000 in
theorem vecFolds_lifted (os : Os) (started : os.Started) (H : Type) (enc : TypeId × Value → H) :
    ReturnsInHanded {} Try.checked os 4 .any (Rows.vecFoldsSpec.pre6 enc Try.prog Try.f4 Rows.vecFoldsRow.domain false) (Rows.vecFoldsSpec.post enc Try.prog Try.f4 false true false false) := by
  refine returnsInHanded_of_change (C := Try.checked) own started (by kernel_rfl) Try.func4
    (ChangeSpec.witness6 (enc := enc) (C := Try.checked) false ⟨#[], #[.slice none 0 0, .slice none 0 0], []⟩ 8 (by kernel_rfl) (by kernel_rfl) (by kernel_rfl) (by kernel_rfl)) ?_
  intro W base args ds gs before hval0 hW _ _
  have hval : ∀ (j : Nat) t v, Try.f4.params[j]? = some t → args[j]? = some v → Value.okWide Try.prog W .any base t v := hval0
  have hW' := hW
  obtain ⟨p, q, hA0, hV, rfl, _, _⟩ := hW
  have hA : DataW.TrodAll enc Try.prog W 0 (fun _ => true) true Try.f4.params.toList args.toList ds p := hA0
  rw [Try.params4] at hA hval
  obtain ⟨v0, vs0, d0, ds0, p0, q0, hargs, rfl, rfl, h0, r0⟩ := trodAll_cons hA
  obtain ⟨v1, vs1, d1, ds1, p1, q1, rfl, rfl, rfl, h1, r1⟩ := trodAll_cons r0
  obtain ⟨rfl, rfl, rfl⟩ := trodAll_nil r1
  obtain rfl : args = #[v0, v1] := by cases args; simp_all
  obtain ⟨rfl, rfl⟩ := trodVars_none hV
  have k0 := h0
  have lt0 : ∀ x ∈ p0, x.block < W.heap.size := by obtain ⟨m, hm⟩ := k0; exact DataW.trod_lt m _ _ _ hm
  have k1 := h1
  have lt1 : ∀ x ∈ p1, x.block < W.heap.size := by obtain ⟨m, hm⟩ := k1; exact DataW.trod_lt m _ _ _ hm
  have hwalk : Calls Try.prog 4 #[v0, v1] W fun e w' => e = .returned (.bool true) ∧ Below W.heap.size W w' := by
    obtain ⟨a0, len0, cap0, rfl⟩ := okWide_slice Try.underlying22 (hval 0 22 v0 rfl rfl)
    obtain ⟨a1, len1, cap1, rfl⟩ := okWide_slice Try.underlying30 (hval 1 30 v1 rfl rfl)
    obtain ⟨fuel, hf⟩ := h0
    obtain ⟨fuel1, hf1⟩ := h1
    obtain ⟨a, A, n, c, hv, hl, hc1, hc2, hL, _⟩ := open_nums Try.underlying22 Try.underlying23 (by kernel_rfl) (by simpa [Value.cells] using hf)
    obtain ⟨ls, vs, A2, m, c2, hv2, hl2, hc3, hc4, hL2, hR⟩ := open_numRows Try.underlying30 (by kernel_rfl) Try.underlying22 Try.underlying23 (by kernel_rfl) (by simpa [Value.cells] using hf1)
    rw [hv, hv2]
    exact vecFolds_any A n c a A2 m c2 vs ls W ⟨A, n, c, rfl, hl, hc1, hc2, hL⟩ hl2 hc3 hc4 hL2 hR
  clear hA0 hval0
  refine hwalk.mono fun e W' ⟨he, bel⟩ => ?_
  subst he
  exact ⟨_, rfl, _, _, _, [], _, [], hW', trodAll_mk1 (shut_bool Try.underlying4 _), (trodAll_cons_mk (Below.trod laidOut (by kernel_rfl) (of_decide_eq_true (by kernel_rfl)) k0 bel lt0) (trodAll_cons_mk (Below.trod laidOut (by kernel_rfl) (of_decide_eq_true (by kernel_rfl)) k1 bel lt1) trodAll_mk0)), rfl, bel.frame _, fun h => by cases h⟩

theorem vecFolds_proved : Rows.VecFoldsSaid :=
  OpenClaim.holds_of_wide 4 Try.f4 rfl rfl rfl rfl rfl rfl rfl ⟨rfl, rfl, rfl, rfl, rfl⟩ rfl rfl rfl rfl rfl (by kernel_rfl) Try.func4 (by kernel_rfl)
    (of_decide_eq_true (by kernel_rfl)) (by unfold Func.isWrapper; first | (rw [if_pos (by decide +kernel)]; kernel_rfl) | (rw [if_neg (by decide +kernel)]; exact ⟨rfl, rfl⟩))
    (fun os started H enc _ => vecFolds_lifted os started H enc)

end Go.Proofs.Ytjhdaddemeegmaa
