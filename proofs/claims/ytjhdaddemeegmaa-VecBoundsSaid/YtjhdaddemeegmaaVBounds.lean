/- VecBounds: for every vector and every list of vectors the call returns true (what covers all of them covers their greatest numbers, and the other way round; what all of them cover their least ones cover), and changes nothing that was there. No conditions. -/
import Derived.Test.YtjhdaddemeegmaaVcN
import Derived.ChangeOld
namespace Go.Proofs.Ytjhdaddemeegmaa
open Go.ChangeShapes Go.WideShapes Go.ChangeAt Go.RowKit

/-- All of the first k cover a. -/
noncomputable def allTo (a : List Nat) (ls : List (List Nat)) (k : Nat) : Bool := (ls.take k).all fun b => coversB b [a]

theorem allTo_next (a : List Nat) (ls : List (List Nat)) (k : Nat) (h : k < ls.length) : allTo a ls (k + 1) = (allTo a ls k && coversB ls[k] [a]) := by
  unfold allTo
  rw [List.take_succ_eq_append_getElem h, List.all_append]
  simp
theorem allTo_end (a : List Nat) (ls : List (List Nat)) (k : Nat) (h : ls.length ≤ k) (hne : ls ≠ []) : coversB (foldV min ls) [a] = allTo a ls k := by
  refine bool_ext ?_
  unfold allTo
  rw [List.take_of_length_le h, List.all_eq_true]
  exact least_most a ls hne

set_option maxHeartbeats 1600000 in
theorem vecBounds_walk (A : Option Addr) (n c : Nat) (a : List Nat) (A2 : Option Addr) (m c2 : Nat) (vs : List Value) (ls : List (List Nat)) (w : World) (hn : n ≤ 100) (hm : m ≤ 30) (hm0 : 0 < m) (hva : Vec w w.heap.size (.slice A n c) a)
    (hl2 : vs.length = m) (hc3 : m ≤ c2) (hc4 : c2 ≤ maxLen) (h2 : Lies w w.heap.size A2 vs) (hr : VecRows w w.heap.size vs ls) (hls : (ls.any fun x => decide (100 < x.length)) = false) :
    Calls Try.prog 5 #[.slice A n c, .slice A2 m c2] w fun e w' => e = .returned (.bool true) ∧ Below w.heap.size w w' := by
  have hd : decide (100 < (n : Int)) = false := by simp; omega
  have hd2 : ((m : Int) == 0) = false := by simp; omega
  have hg := great_few A2 m c2 vs ls w hm hl2 h2 hr
  rw [hls] at hg
  have hsh := great_says hls
  have hlong : longN ls ≤ 100 := (long_le _ _).2 hsh
  have hne : ls ≠ [] := by intro h0; have := hr.1; rw [h0] at this; simp at this; rw [this] at hl2; simp at hl2; omega
  have HL2 := Lib.hid hl2
  have HSH := Lib.hid hsh
  have HNE := Lib.hid hne
  have hmax := max_any A2 m c2 vs ls w (by omega) hc3 hc4 (by omega) hl2 h2 hr
  have HMIN : Hid (∀ W : World, Below w.heap.size w W → Calls Try.prog 20 #[.slice A2 m c2] W (OwnedV W W.heap.size (foldV min ls))) := fun W hW => min_any A2 m c2 vs ls W (by omega) hc3 hc4 (by omega) hl2 (h2.later hW) (hr.later hW)
  have HLM := Lib.hid (foldV_length max ls)
  have HLm := Lib.hid (foldV_length min ls)
  have HR := Lib.hid hr
  have HVA := Lib.hid hva
  have H2 := Lib.hid h2
  clear hls hsh hne hr hl2 hva h2 hc4
  go_enter Try.func5, Try.ntmps5
  go_wp2_with fail
  refine hg.mono ?_
  rintro e w1 ⟨rfl, rfl⟩
  clear hg
  go_wp2_with fail
  refine hmax.mono ?_
  intro e w1 ho
  obtain ⟨AM, nM, cM, rfl, hnM, hcM, hcM2, hLM, hb1⟩ := ho.use
  clear ho hmax
  go_wp2_with fail
  refine (HMIN.out w1 hb1).mono ?_
  intro e w2 ho
  obtain ⟨Am, nm, cm, rfl, hnm, hcm, hcm2, hLm, hb12⟩ := ho.use
  clear ho HMIN
  have hb2 : Below w.heap.size w w2 := hb1.trans (hb12.mono hb1.size)
  have hvM : Vec w2 w2.heap.size (.slice AM nM cM) (foldV max ls) := ⟨AM, nM, cM, rfl, hnM.out, hcM, hcM2, hLM.later hb12⟩
  have hvm : Vec w2 w2.heap.size (.slice Am nm cm) (foldV min ls) := ⟨Am, nm, cm, rfl, hnm.out, hcm, hcm2, hLm⟩
  have hnM1 : nM ≤ 1000 := by have := hnM.out; rw [HLM.out] at this; omega
  have hnm1 : nm ≤ 1000 := by have := hnm.out; rw [HLm.out] at this; omega
  have HVA2 := Lib.hid (HVA.out.later hb2)
  have HR2 := Lib.hid (HR.out.later hb2)
  have H22 := Lib.hid (H2.out.later hb2)
  -- the calls, in every later world
  have J1 : Hid (∀ (W : World), Below w2.heap.size w2 W → ∀ (k : Nat) (Ar : Option Addr) (nr cr : Nat), (hk : k < ls.length) → Vec w2 w2.heap.size (.slice Ar nr cr) ls[k] → Calls Try.prog 23 #[.slice AM nM cM, .slice (some ⟨W.heap.size, 0, none⟩) 1 1] (W.alloc (.cells #[.slice Ar nr cr] 22)) fun e w' => e = .returned (.bool true) ∧ W.alloc (.cells #[.slice Ar nr cr] 22) = w') := fun W hW k Ar nr cr hk hv => by
    have := covers_one hW hvM hv hnM1 (by have := hv.parts.1; have := HSH.out _ (List.getElem_mem hk); omega)
    rw [covers_most (List.getElem_mem hk)] at this
    exact this
  have J2 : Hid (∀ (W : World), Below w2.heap.size w2 W → ∀ (k : Nat) (Ar : Option Addr) (nr cr : Nat), (hk : k < ls.length) → Vec w2 w2.heap.size (.slice Ar nr cr) ls[k] → Calls Try.prog 23 #[.slice Ar nr cr, .slice (some ⟨W.heap.size, 0, none⟩) 1 1] (W.alloc (.cells #[.slice Am nm cm] 22)) fun e w' => e = .returned (.bool true) ∧ W.alloc (.cells #[.slice Am nm cm] 22) = w') := fun W hW k Ar nr cr hk hv => by
    have := covers_one hW hv hvm (by have := hv.parts.1; have := HSH.out _ (List.getElem_mem hk); omega) hnm1
    rw [covers_least (List.getElem_mem hk)] at this
    exact this
  have J3 : Hid (∀ (W : World), Below w2.heap.size w2 W → ∀ (k : Nat) (Ar : Option Addr) (nr cr : Nat), (hk : k < ls.length) → Vec w2 w2.heap.size (.slice Ar nr cr) ls[k] → Calls Try.prog 23 #[.slice Ar nr cr, .slice (some ⟨W.heap.size, 0, none⟩) 1 1] (W.alloc (.cells #[.slice A n c] 22)) fun e w' => e = .returned (.bool (coversB ls[k] [a])) ∧ W.alloc (.cells #[.slice A n c] 22) = w') := fun W hW k Ar nr cr hk hv =>
    covers_one hW hv HVA2.out (by have := hv.parts.1; have := HSH.out _ (List.getElem_mem hk); omega) (by omega)
  have J4 : Hid (∀ (W : World), Below w2.heap.size w2 W → Calls Try.prog 23 #[.slice A n c, .slice (some ⟨W.heap.size, 0, none⟩) 1 1] (W.alloc (.cells #[.slice AM nM cM] 22)) fun e w' => e = .returned (.bool (coversB a ls)) ∧ W.alloc (.cells #[.slice AM nM cM] 22) = w') := fun W hW => by
    have := covers_one hW HVA2.out hvM (by omega) hnM1
    rw [most_least] at this
    exact this
  have J5 : Hid (∀ (W : World), Below w2.heap.size w2 W → Calls Try.prog 23 #[.slice A n c, .slice A2 m c2] W fun e w' => e = .returned (.bool (coversB a ls)) ∧ W = w') := fun W hW =>
    covers_any A n c W.heap.size a A2 m c2 vs ls W (by omega) (by omega) (fun b hb => by have := HSH.out b hb; omega) HVA2.out.parts.1 (HVA2.out.parts.2.2.2.later hW) HL2.out (H22.out.later hW) (HR2.out.later hW)
  have J6 : Hid (∀ (W : World), Below w2.heap.size w2 W → Calls Try.prog 23 #[.slice Am nm cm, .slice (some ⟨W.heap.size, 0, none⟩) 1 1] (W.alloc (.cells #[.slice A n c] 22)) fun e w' => e = .returned (.bool (coversB (foldV min ls) [a])) ∧ W.alloc (.cells #[.slice A n c] 22) = w') := fun W hW =>
    covers_one hW hvm HVA2.out hnm1 (by omega)
  clear hvM hvm hLM hLm hnM hnm hcM hcM2 hcm hcm2 HLM HLm HVA HR H2 hb1 hb12
  go_wp2
  go_loopw [7, 8] (fun s7 i wr => ∃ k : Nat, k ≤ m ∧ i = .int .i64 k ∧ s7 = .bool (allTo a ls k) ∧ Below w2.heap.size w2 wr) (fun _ i _ => m - (intOf i).toNat)
  case atStart => exact ⟨0, Nat.zero_le _, rfl, by unfold allTo; simp, Below.refl _ _⟩
  case round =>
    obtain ⟨k, hk, rfl, rfl, hb⟩ := hrel
    by_cases hlt : k < m
    · have hk1 : k < vs.length := by rw [HL2.out]; exact hlt
      have hk2 : k < ls.length := by rw [← HR2.out.1]; exact hk1
      have HN := Lib.hid (allTo_next a ls k hk2)
      have hvr0 := HR2.out.2 k hk1 hk2
      obtain ⟨Ar, nr, cr, hvr, hlr, _, _, hLr⟩ := id hvr0
      rw [hvr] at hvr0
      have hcell : ∀ W : World, Below w2.heap.size w2 W → ∃ b off, A2 = some ⟨b, off, none⟩ ∧ W.cell? ⟨b, off + k, none⟩ = some (.slice Ar nr cr) := fun W hW => by
        obtain ⟨b, off, e, _, hc⟩ := (H22.out.below hW).at_ (List.getElem?_eq_getElem hk1)
        rw [hvr] at hc
        exact ⟨b, off, e, hc⟩
      obtain ⟨b, off, rfl, hc1⟩ := hcell _ hb
      have hb' := vec_alloc (.cells #[.slice Ar nr cr] 22) hb
      have hc2 : (wr.alloc (.cells #[.slice Ar nr cr] 22)).cell? ⟨b, off + k, none⟩ = some (.slice Ar nr cr) := by
        obtain ⟨b2, off2, e, hc⟩ := hcell _ hb'
        injection e with e; injection e with e1 e2; subst e1 e2; exact hc
      have hb'' := vec_alloc (.cells #[.slice Am nm cm] 22) hb'
      have hc3' : ((wr.alloc (.cells #[.slice Ar nr cr] 22)).alloc (.cells #[.slice Am nm cm] 22)).cell? ⟨b, off + k, none⟩ = some (.slice Ar nr cr) := by
        obtain ⟨b2, off2, e, hc⟩ := hcell _ hb''
        injection e with e; injection e with e1 e2; subst e1 e2; exact hc
      have c1 := J1.out wr hb k Ar nr cr hk2 hvr0
      have c2' := J2.out _ hb' k Ar nr cr hk2 hvr0
      have c3 := J3.out _ hb'' k Ar nr cr hk2 hvr0
      have hb3 := vec_alloc (.cells #[.slice A n c] 22) hb''
      generalize coversB ls[k] [a] = y at c3 HN
      generalize allTo a ls k = z at HN ⊢
      clear hcell hvr0 hvr hlr hLr J1 J2 J3 J4 J5 J6
      generalize hwa : wr.alloc (.cells #[.slice Ar nr cr] 22) = wa at c1 c2' c3 hb' hb'' hb3 hc2 hc3'
      generalize hwb : wa.alloc (.cells #[.slice Am nm cm] 22) = wb at c2' c3 hb'' hb3 hc3'
      generalize hwc : wb.alloc (.cells #[.slice A n c] 22) = wc at c3 hb3
      go_wp2_with fail
      refine c1.mono ?_
      rintro e w5 ⟨rfl, rfl⟩
      go_wp2_with fail
      refine c2'.mono ?_
      rintro e w5 ⟨rfl, rfl⟩
      clear c1 c2'
      cases z with
      | true =>
        simp only [Bool.true_and] at HN
        go_wp2_with fail
        refine c3.mono ?_
        rintro e w5 ⟨rfl, rfl⟩
        go_wp2
        go_roundw
        case rel => exact ⟨k + 1, by omega, by go_num, by rw [HN.out], hb3⟩
        case measure => simp [intOf]; omega
      | false =>
        simp only [Bool.false_and] at HN
        clear c3 hwc
        go_wp2
        go_roundw
        case rel => exact ⟨k + 1, by omega, by go_num, by rw [HN.out], hb''⟩
        case measure => simp [intOf]; omega
    · have HE := Lib.hid (allTo_end a ls k (by rw [← HR2.out.1, HL2.out]; omega) HNE.out)
      have hb' := vec_alloc (.cells #[.slice AM nM cM] 22) hb
      have hb'' := vec_alloc (.cells #[.slice A n c] 22) hb'
      have c1 := J4.out wr hb
      have c2' := J5.out _ hb'
      have c3 := J6.out _ hb'
      rw [HE.out] at c3
      have hbb := hb2.trans (hb''.mono hb2.size)
      generalize coversB a ls = y at c1 c2'
      generalize allTo a ls k = z at c3 ⊢
      clear J1 J2 J3 J4 J5 J6 HE
      generalize hwa : wr.alloc (.cells #[.slice AM nM cM] 22) = wa at c1 c2' c3 hb' hb'' hbb
      generalize hwb : wa.alloc (.cells #[.slice A n c] 22) = wb at c3 hb'' hbb
      go_wp2_with fail
      refine c1.mono ?_
      rintro e w5 ⟨rfl, rfl⟩
      go_wp2_with fail
      refine c2'.mono ?_
      rintro e w5 ⟨rfl, rfl⟩
      clear c1 c2'
      go_wp2_with fail
      refine c3.mono ?_
      rintro e w5 ⟨rfl, rfl⟩
      go_wp2_with fail
      refine (awake_any _).mono ?_
      rintro e w5 ⟨rfl, hb5⟩
      go_wp2
      go_ret
      exact ⟨by simp, hbb.trans (hb5.mono hbb.size)⟩

set_option maxHeartbeats 400000 in
theorem vecBounds_any (A : Option Addr) (n c : Nat) (a : List Nat) (A2 : Option Addr) (m c2 : Nat) (vs : List Value) (ls : List (List Nat)) (w : World) (hva : Vec w w.heap.size (.slice A n c) a)
    (hl2 : vs.length = m) (hc3 : m ≤ c2) (hc4 : c2 ≤ maxLen) (h2 : Lies w w.heap.size A2 vs) (hr : VecRows w w.heap.size vs ls) :
    Calls Try.prog 5 #[.slice A n c, .slice A2 m c2] w fun e w' => e = .returned (.bool true) ∧ Below w.heap.size w w' := by
  by_cases hm : m ≤ 30
  · have hg := great_few A2 m c2 vs ls w hm hl2 h2 hr
    cases hls : (ls.any fun x => decide (100 < x.length)) with
    | true =>
      rw [hls] at hg
      clear hva hl2 h2 hr hc4 hls
      go_enter Try.func5, Try.ntmps5
      go_wp2_with (first
        | (go_at_call 17; refine hg.mono ?_; rintro e w' ⟨rfl, rfl⟩)
        | (go_at_call 9; refine (awake_any _).mono ?_; rintro e w' ⟨rfl, hb⟩))
      go_ret
      exact ⟨rfl, hb⟩
    | false =>
      by_cases hn : n ≤ 100
      · by_cases hm0 : 0 < m
        · exact vecBounds_walk A n c a A2 m c2 vs ls w hn hm hm0 hva hl2 hc3 hc4 h2 hr hls
        · rw [hls] at hg
          obtain rfl : m = 0 := by omega
          have hd : decide (100 < (n : Int)) = false := by simp; omega
          clear hva hl2 h2 hr hc4 hls
          go_enter Try.func5, Try.ntmps5
          go_wp2_with (first
            | (go_at_call 17; refine hg.mono ?_; rintro e w' ⟨rfl, rfl⟩)
            | (go_at_call 9; refine (awake_any _).mono ?_; rintro e w' ⟨rfl, hb⟩))
          go_ret
          exact ⟨rfl, hb⟩
      · rw [hls] at hg
        have hd : decide (100 < (n : Int)) = true := by simp; omega
        clear hva hl2 h2 hr hc4 hls
        go_enter Try.func5, Try.ntmps5
        go_wp2_with (first
          | (go_at_call 17; refine hg.mono ?_; rintro e w' ⟨rfl, rfl⟩)
          | (go_at_call 9; refine (awake_any _).mono ?_; rintro e w' ⟨rfl, hb⟩))
        go_ret
        exact ⟨rfl, hb⟩
  · have hg := great_many A2 m c2 w (by omega)
    clear hva hl2 h2 hr hc4
    go_enter Try.func5, Try.ntmps5
    go_wp2_with (first
      | (go_at_call 17; refine hg.mono ?_; rintro e w' ⟨rfl, rfl⟩)
      | (go_at_call 9; refine (awake_any _).mono ?_; rintro e w' ⟨rfl, hb⟩))
    go_ret
    exact ⟨rfl, hb⟩

theorem own : ownKnob Try.prog.godebug = none := by kernel_rfl
theorem laidOut : laidOutB Try.prog = true := by kernel_rfl

set_option maxRecDepth 100000 in
theorem vecBounds_lifted (os : Os) (started : os.Started) (H : Type) (enc : TypeId × Value → H) :
    ReturnsInHanded {} Try.checked os 5 .any (Rows.vecBoundsSpec.pre6 enc Try.prog Try.f5 Rows.vecBoundsRow.domain false) (Rows.vecBoundsSpec.post enc Try.prog Try.f5 false true false false) := by
  refine returnsInHanded_of_change (C := Try.checked) own started (by kernel_rfl) Try.func5
    (ChangeSpec.witness6 (enc := enc) (C := Try.checked) false ⟨#[], #[.slice none 0 0, .slice none 0 0], []⟩ 8 (by kernel_rfl) (by kernel_rfl) (by kernel_rfl) (by kernel_rfl)) ?_
  intro W base args ds gs before hval0 hW _ _
  have hval : ∀ (j : Nat) t v, Try.f5.params[j]? = some t → args[j]? = some v → Value.okWide Try.prog W .any base t v := hval0
  have hW' := hW
  obtain ⟨p, q, hA0, hV, rfl, _, _⟩ := hW
  have hA : DataW.TrodAll enc Try.prog W 0 (fun _ => true) true Try.f5.params.toList args.toList ds p := hA0
  rw [Try.params5] at hA hval
  obtain ⟨v0, vs0, d0, ds0, p0, q0, hargs, rfl, rfl, h0, r0⟩ := trodAll_cons hA
  obtain ⟨v1, vs1, d1, ds1, p1, q1, rfl, rfl, rfl, h1, r1⟩ := trodAll_cons r0
  obtain ⟨rfl, rfl, rfl⟩ := trodAll_nil r1
  obtain rfl : args = #[v0, v1] := by cases args; simp_all
  obtain ⟨rfl, rfl⟩ := trodVars_none hV
  have k0 := h0
  have lt0 : ∀ x ∈ p0, x.block < W.heap.size := by obtain ⟨m, hm⟩ := k0; exact DataW.trod_lt m _ _ _ hm
  have k1 := h1
  have lt1 : ∀ x ∈ p1, x.block < W.heap.size := by obtain ⟨m, hm⟩ := k1; exact DataW.trod_lt m _ _ _ hm
  have hwalk : Calls Try.prog 5 #[v0, v1] W fun e w' => e = .returned (.bool true) ∧ Below W.heap.size W w' := by
    obtain ⟨a0, len0, cap0, rfl⟩ := okWide_slice Try.underlying22 (hval 0 22 v0 rfl rfl)
    obtain ⟨a1, len1, cap1, rfl⟩ := okWide_slice Try.underlying30 (hval 1 30 v1 rfl rfl)
    obtain ⟨fuel, hf⟩ := h0
    obtain ⟨fuel1, hf1⟩ := h1
    obtain ⟨a, A, n, c, hv, hl, hc1, hc2, hL, _⟩ := open_nums Try.underlying22 Try.underlying23 (by kernel_rfl) (by simpa [Value.cells] using hf)
    obtain ⟨ls, vs, A2, m, c2, hv2, hl2, hc3, hc4, hL2, hR⟩ := open_numRows Try.underlying30 (by kernel_rfl) Try.underlying22 Try.underlying23 (by kernel_rfl) (by simpa [Value.cells] using hf1)
    rw [hv, hv2]
    exact vecBounds_any A n c a A2 m c2 vs ls W ⟨A, n, c, rfl, hl, hc1, hc2, hL⟩ hl2 hc3 hc4 hL2 hR
  clear hA0 hval0
  refine hwalk.mono fun e W' ⟨he, bel⟩ => ?_
  subst he
  exact ⟨_, rfl, _, _, _, [], _, [], hW', trodAll_mk1 (shut_bool Try.underlying4 _), (trodAll_cons_mk (Below.trod laidOut (by kernel_rfl) (of_decide_eq_true (by kernel_rfl)) k0 bel lt0) (trodAll_cons_mk (Below.trod laidOut (by kernel_rfl) (of_decide_eq_true (by kernel_rfl)) k1 bel lt1) trodAll_mk0)), rfl, bel.frame _, fun h => by cases h⟩

theorem vecBounds_proved : Rows.VecBoundsSaid :=
  OpenClaim.holds_of_wide 5 Try.f5 rfl rfl rfl rfl rfl rfl rfl ⟨rfl, rfl, rfl, rfl, rfl⟩ rfl rfl rfl rfl rfl (by kernel_rfl) Try.func5 (by kernel_rfl)
    (of_decide_eq_true (by kernel_rfl)) (by unfold Func.isWrapper; first | (rw [if_pos (by decide +kernel)]; kernel_rfl) | (rw [if_neg (by decide +kernel)]; exact ⟨rfl, rfl⟩))
    (fun os started H enc _ => vecBounds_lifted os started H enc)

end Go.Proofs.Ytjhdaddemeegmaa
