/- StoreTurns: for every number of processes and every list of ids the call returns true (in which order payloads are put in plays no part in what is held, if there is room for all), and changes nothing that was there. No conditions. -/
import Derived.Test.YtnpdjlcekmpmoaaSoS
import Derived.ChangeOld
namespace Go.Proofs.Ytnpdjlcekmpmoaa
open Go.ChangeShapes Go.WideShapes Go.ChangeAt Go.RowKit

theorem turns_many (a : Int) (A : Option Addr) (n c : Nat) (w : World) (hn : 50 < n) : Calls Try.prog 7 #[.int .i64 a, .slice A n c] w fun e w' => e = .returned (.bool true) ∧ Below w.heap.size w w' := by
  have hd : decide (50 < n) = true := decide_eq_true hn
  go_enter Try.func7, Try.ntmps7
  go_wp2_with (go_at_call 8; refine (awake_any _).mono ?_; rintro e w' ⟨rfl, hb⟩)
  go_ret
  exact ⟨rfl, hb⟩

set_option maxRecDepth 20000 in
set_option maxHeartbeats 3200000 in
theorem turns_few (a : Int) (A : Option Addr) (n c : Nat) (l : List Id) (w : World) (hn : n ≤ 50) (hl : l.length = n) (hL : Lies w w.heap.size A (flat encId l)) : Calls Try.prog 7 #[.int .i64 a, .slice A n c] w fun e w' => e = .returned (.bool true) ∧ Below w.heap.size w w' := by
  have HLen := Lib.hid hl
  have HL := Lib.hid hL
  have HM0 : Hid ((Sm.new a 50).l = [] ∧ (Sm.new a 50).room = 50 ∧ ∀ i, num (Sm.new a 50).fl i = 0) := ⟨rfl, rfl, fun i => by
    have := num_le (fl := (Sm.new a 50).fl) (B := 0) (fun x hx => by rw [List.eq_of_mem_replicate hx]; exact Nat.le_refl _) i
    omega⟩
  have hd : decide (50 < n) = false := decide_eq_false (by omega)
  have HN : ∀ W, Calls Try.prog 9 #[.int .i64 a, .int .i64 50] W fun e w' => ∃ g mb fb, e = .returned (sptr g) ∧ StAt w' W.heap.size g mb fb (Sm.new a 50) (own3 g mb fb) ∧ Below W.heap.size W w' := fun W => new_any a 50 (by omega) W
  generalize Sm.new a 50 = m0 at HM0 HN
  have HNh := Lib.hid HN
  clear hl hL HN
  go_enter Try.func7, Try.ntmps7
  go_wp2_with fail
  refine (HNh.out w).mono ?_
  rintro e w1 ⟨g, mb, fb, rfl, h1, hb1⟩
  have H1 := Lib.hid h1
  have HB1 := Lib.hid hb1
  clear h1 hb1
  unfold sptr
  go_wp2_with fail
  refine (HNh.out w1).mono ?_
  rintro e w2 ⟨g2, mb2, fb2, rfl, h2, hb2⟩
  have T0 : Hid (TwoS w g mb fb g2 mb2 fb2 m0 m0 m0 [] [] w2) := TwoS.start H1.out HB1.out h2 hb2 HM0.out.1
  clear h2 hb2 H1 HB1 HNh
  unfold sptr
  go_wp2
  go_loopw [7] (fun s7 wr => ∃ k : Nat, k ≤ n ∧ s7 = .int .i64 (k : Int) ∧ ∃ m1 m2, Hid (TwoS w g mb fb g2 mb2 fb2 m0 m1 m2 (l.take k) (l.reverse.take k) wr)) (fun s7 _ => n - (intOf s7).toNat)
  case atStart => exact ⟨0, Nat.zero_le _, rfl, m0, m0, T0⟩
  case round =>
    obtain ⟨k, hk, rfl, m1, m2, HT⟩ := hrel
    clear T0
    by_cases hlt : k < n
    · have hkl : k < l.length := by rw [HLen.out]; exact hlt
      have hjl : n - 1 - k < l.length := by rw [HLen.out]; omega
      have t1 : Hid (l.take (k + 1) = l.take k ++ [l[k]]) := List.take_succ_eq_append_getElem hkl
      have t2 : Hid (l.reverse.take (k + 1) = l.reverse.take k ++ [l[n - 1 - k]]) := by
        show _ = _
        rw [List.take_succ_eq_append_getElem (by rw [List.length_reverse]; exact hkl), List.getElem_reverse]
        congr 2
        congr 1
        rw [HLen.out]
      obtain ⟨bb, off, eA, hbl, c0, c1⟩ := HL.out.id hkl
      obtain ⟨bb', off', eA', -, d0, d1⟩ := HL.out.id hjl
      obtain ⟨rfl, rfl⟩ : bb = bb' ∧ off = off' := by
        rw [eA] at eA'
        injection eA' with eA'
        injection eA' with q1 q2
        exact ⟨q1, q2⟩
      obtain ⟨j, hj⟩ : ∃ j, n - 1 - k = j := ⟨_, rfl⟩
      have hix : (n : Int) - 1 - (k : Int) = (j : Int) := by omega
      simp only [hj] at d0 d1 t2
      have hjn : j < n := by omega
      subst eA
      generalize l[k] = x at c0 c1 t1
      generalize l[j]'(by omega) = y at d0 d1 t2
      have hlk : Hid ((l.take k).length < m0.room ∧ (l.reverse.take k).length < m0.room) := by
        show _ ∧ _
        rw [HM0.out.2.1, List.length_take, List.length_take]
        omega
      have z0 := (HT.out.below.cell (p := ⟨bb, off + k * 2, none⟩) hbl).trans c0
      have z1 := (HT.out.below.cell (p := ⟨bb, off + k * 2 + 1, none⟩) hbl).trans c1
      clear hjl hkl hj eA' c0 c1
      go_wp2_with fail
      have P1 := put_any (HT.out.s1.on (alloc_below wr (.cells #[bv 1] 5))) x [1] (n := 1) (c := 1) rfl (by omega) (bytes_new wr 1) (by have := HT.out.o1.len; have := hlk.out.1; rw [HM0.out.2.1] at this; omega)
      refine (show Calls Try.prog 19 #[.pointer (some ⟨g, 0, none⟩), .agg #[.int .u8 (x.f : Int), .int .u64 (x.s : Int)], .slice (some ⟨wr.heap.size, 0, none⟩) 1 1] (wr.alloc (.cells #[.int .u8 1] 5)) _ from P1).mono ?_
      rintro e w3 ⟨rfl, hs3, ho3⟩
      have T3 := Lib.hid ((HT.out.on (alloc_below wr (.cells #[bv 1] 5))).put1 x hlk.out.1 HM0.out.2.2 hs3 ho3)
      have y0 := (T3.out.below.cell (p := ⟨bb, off + j * 2, none⟩) hbl).trans d0
      have y1 := (T3.out.below.cell (p := ⟨bb, off + j * 2 + 1, none⟩) hbl).trans d1
      clear P1 hs3 ho3 HT z0 z1 d0 d1
      go_wp2_with fail
      have P2 := put_any (T3.out.s2.on (alloc_below w3 (.cells #[bv 1] 5))) y [1] (n := 1) (c := 1) rfl (by omega) (bytes_new w3 1) (by have := T3.out.o2.len; have := hlk.out.2; rw [HM0.out.2.1] at this; omega)
      refine (show Calls Try.prog 19 #[.pointer (some ⟨g2, 0, none⟩), .agg #[.int .u8 (y.f : Int), .int .u64 (y.s : Int)], .slice (some ⟨w3.heap.size, 0, none⟩) 1 1] (w3.alloc (.cells #[.int .u8 1] 5)) _ from P2).mono ?_
      rintro e w4 ⟨rfl, hs4, ho4⟩
      have T4 := Lib.hid ((T3.out.on (alloc_below w3 (.cells #[bv 1] 5))).put2 y hlk.out.2 HM0.out.2.2 hs4 ho4)
      clear P2 hs4 ho4 T3 y0 y1
      go_wp2
      go_roundw
      case rel => exact ⟨k + 1, by omega, by go_num, _, _, by rw [t1.out, t2.out]; exact T4⟩
      case measure => simp [intOf]; omega
    · have hkn : k = l.length := by rw [HLen.out]; omega
      have hS : Hid (m2.held = m1.held ∧ m2.l.length = m1.l.length) := by
        have h1 := HT.out.o1
        have h2 := HT.out.o2
        rw [hkn, List.take_length] at h1
        rw [hkn, ← List.length_reverse, List.take_length] at h2
        exact h1.same h2 HT.out.s1.ok HT.out.s2.ok fun y => by rw [List.any_reverse]
      have U1 : Hid (useL m1.l = m1.l.length) := HT.out.o1.use
      have U2 : Hid (useL m2.l = m1.l.length) := by show _ = _; rw [HT.out.o2.use, hS.out.2]
      have hn1 := HT.out.s1.ok.n2
      have hml : m1.l.length ≤ 50 := by have := HT.out.o1.len; rw [List.length_take] at this; omega
      clear hkn
      go_wp2_with fail
      refine (held_any HT.out.s1).mono ?_
      rintro e w3 ⟨A3, n3, c3, rfl, hl3, hnc3, hcm3, ho3, hb3⟩
      have T3 := Lib.hid (HT.out.on hb3)
      have L3 := Lib.hid (Lies.of_own ho3)
      clear ho3 hb3 HT
      go_wp2_with fail
      refine (held_any T3.out.s2).mono ?_
      rintro e w4 ⟨A4, n4, c4, rfl, hl4, hnc4, hcm4, ho4, hb4⟩
      rw [hS.out.1] at hl4 ho4
      have T4 := Lib.hid (T3.out.on hb4)
      have L4 := Lib.hid (Lies.of_own ho4)
      have L34 := Lib.hid (L3.out.later hb4)
      clear ho4 hb4 T3 L3
      have hn3 : n3 ≤ 1000 := by rw [← hl3.out, Sm.held_length]; omega
      go_wp2_with fail
      refine (refEqual_same A3 n3 c3 m1.held A4 n4 c4 w4 hn3 hl3.out L34.out hl4.out L4.out).mono ?_
      rintro e w5 ⟨rfl, hb5⟩
      have T5 := T4.out.on hb5
      have l1 := len_any T5.s1
      have l2 := len_any T5.s2
      have u1 := used_any T5.s1
      have u2 := used_any T5.s2
      rw [hS.out.2] at l2
      rw [U1.out] at u1
      rw [U2.out] at u2
      have HB5 := Lib.hid T5.below
      clear T5 T4 hb5 L4 L34
      unfold sptr at l1 l2 u1 u2
      generalize m1.l.length = ml at l1 l2 u1 u2 hml
      have heq : ((ml : Int) == (ml : Int)) = true := beq_iff_eq.2 rfl
      by_cases hgg : g = g2
      · subst hgg
        go_wp2_with (first
          | (go_at_call 14; refine l1.mono ?_; rintro e w' ⟨rfl, rfl⟩)
          | (go_at_call 12; refine u1.mono ?_; rintro e w' ⟨rfl, rfl⟩)
          | (go_at_call 8; refine (awake_any _).mono ?_; rintro e w' ⟨rfl, hb⟩))
        go_ret
        exact ⟨rfl, HB5.out.trans (hb.mono HB5.out.size)⟩
      · go_wp2_with (first
          | (go_at_call_of 14 g; refine l1.mono ?_; rintro e w' ⟨rfl, rfl⟩)
          | (go_at_call_of 14 g2; refine l2.mono ?_; rintro e w' ⟨rfl, rfl⟩)
          | (go_at_call_of 12 g; refine u1.mono ?_; rintro e w' ⟨rfl, rfl⟩)
          | (go_at_call_of 12 g2; refine u2.mono ?_; rintro e w' ⟨rfl, rfl⟩)
          | (go_at_call 8; refine (awake_any _).mono ?_; rintro e w' ⟨rfl, hb⟩))
        go_ret
        exact ⟨rfl, HB5.out.trans (hb.mono HB5.out.size)⟩

theorem own : ownKnob Try.prog.godebug = none := by kernel_rfl
theorem laidOut : laidOutB Try.prog = true := by kernel_rfl

set_option maxRecDepth 100000 in
theorem storeTurns_lifted (os : Os) (started : os.Started) (H : Type) (enc : TypeId × Value → H) :
    ReturnsInHanded {} Try.checked os 7 .any (Rows.storeTurnsSpec.pre6 enc Try.prog Try.f7 Rows.storeTurnsRow.domain false) (Rows.storeTurnsSpec.post enc Try.prog Try.f7 false true false false) := by
  refine returnsInHanded_of_change (C := Try.checked) own started (by kernel_rfl) Try.func7
    (ChangeSpec.witness6 (enc := enc) (C := Try.checked) false ⟨#[], #[.int .i64 0, .slice none 0 0], []⟩ 8 (by kernel_rfl) (by kernel_rfl) (by kernel_rfl) (by kernel_rfl)) ?_
  intro W base args ds gs before hval0 hW _ _
  have hval : ∀ (j : Nat) t v, Try.f7.params[j]? = some t → args[j]? = some v → Value.okWide Try.prog W .any base t v := hval0
  have hW' := hW
  obtain ⟨p, q, hA0, hV, rfl, _, _⟩ := hW
  have hA : DataW.TrodAll enc Try.prog W 0 (fun _ => true) true Try.f7.params.toList args.toList ds p := hA0
  rw [Try.params7] at hA hval
  obtain ⟨v0, vs0, d0, ds0, p0, q0, hargs, rfl, rfl, h0, r0⟩ := trodAll_cons hA
  obtain ⟨v1, vs1, d1, ds1, p1, q1, rfl, rfl, rfl, h1, r1⟩ := trodAll_cons r0
  obtain ⟨rfl, rfl, rfl⟩ := trodAll_nil r1
  obtain rfl : args = #[v0, v1] := by cases args; simp_all
  obtain ⟨rfl, rfl⟩ := trodVars_none hV
  have k0 := h0
  have lt0 : ∀ x ∈ p0, x.block < W.heap.size := by obtain ⟨m, hm⟩ := k0; exact DataW.trod_lt m _ _ _ hm
  have k1 := h1
  have lt1 : ∀ x ∈ p1, x.block < W.heap.size := by obtain ⟨m, hm⟩ := k1; exact DataW.trod_lt m _ _ _ hm
  obtain ⟨a0, rfl, _, _, wf0⟩ := open_int Try.underlying3 (hval 0 3 v0 rfl rfl) h0
  obtain ⟨fuel1, hf1⟩ := h1
  obtain ⟨x1, len1, cap1, rfl⟩ := okWide_slice Try.underlying46 (hval 1 46 v1 rfl rfl)
  obtain ⟨A, n, c, l, hv, hl, hc, hcm, hL⟩ := open_ids (by simpa [Value.cells] using hf1)
  injection hv with e1 e2 e3
  subst e1 e2 e3
  have hwalk : Calls Try.prog 7 #[.int .i64 a0, .slice x1 len1 cap1] W fun e w' => e = .returned (.bool true) ∧ Below W.heap.size W w' := by
    by_cases hn : 50 < len1
    · exact turns_many _ _ _ _ W hn
    · exact turns_few a0 x1 len1 cap1 l W (by omega) hl hL
  clear hA0 hval0
  refine hwalk.mono fun e W' ⟨he, bel⟩ => ?_
  subst he
  exact ⟨_, rfl, _, _, _, [], _, [], hW', trodAll_mk1 (shut_bool Try.underlying4 _), (trodAll_cons_mk (Below.trod laidOut (by kernel_rfl) (of_decide_eq_true (by kernel_rfl)) k0 bel lt0) (trodAll_cons_mk (Below.trod laidOut (by kernel_rfl) (of_decide_eq_true (by kernel_rfl)) k1 bel lt1) trodAll_mk0)), rfl, bel.frame _, fun h => by cases h⟩

theorem storeTurns_proved : Rows.StoreTurnsSaid :=
  OpenClaim.holds_of_wide 7 Try.f7 rfl rfl rfl rfl rfl rfl rfl ⟨rfl, rfl, rfl, rfl, rfl⟩ rfl rfl rfl rfl rfl (by kernel_rfl) Try.func7 (by kernel_rfl)
    (of_decide_eq_true (by kernel_rfl)) (by unfold Func.isWrapper; first | (rw [if_pos (by decide +kernel)]; kernel_rfl) | (rw [if_neg (by decide +kernel)]; exact ⟨rfl, rfl⟩))
    (fun os started H enc _ => storeTurns_lifted os started H enc)

end Go.Proofs.Ytnpdjlcekmpmoaa
