/- GrantTurns: for every two ints and every list of acts the call returns true (in which order processes tell, and are gone, plays no part), and changes nothing that was there. No conditions. -/
import Derived.Test.YtenaoinkjdaoeaaGrH
import Derived.ChangeOld
import Derived.Deep.Cut
namespace Go.Proofs.Ytenaoinkjdaoeaa
open Go.ChangeShapes Go.WideShapes Go.ChangeAt Go.RowKit

theorem turns_many (n me : Int) (A : Option Addr) (m c : Nat) (w : World) (hm : 100 < m) : Calls Try.prog 5 #[.int .i64 n, .int .i64 me, .slice A m c] w fun e w' => e = .returned (.bool true) ∧ Below w.heap.size w w' := by
  have hd : decide (100 < m) = true := decide_eq_true hm
  go_enter Try.func5, Try.ntmps5
  go_wp2_with (go_at_call 7; refine (awake_any _).mono ?_; rintro e w' ⟨rfl, hb⟩)
  go_ret
  exact ⟨rfl, hb⟩

set_option maxRecDepth 20000 in
set_option maxHeartbeats 6400000 in
theorem turns_few (n me : Int) (hn : -9223372036854775808 ≤ n ∧ n ≤ 9223372036854775807) (A : Option Addr) (m c : Nat) (ls : List Ac) (w : World) (hm : m ≤ 100) (hl : ls.length = m) (hL : Lies w w.heap.size A (flat encAc ls)) :
    Calls Try.prog 5 #[.int .i64 n, .int .i64 me, .slice A m c] w fun e w' => e = .returned (.bool true) ∧ Below w.heap.size w w' := by
  have mixed := mixedOrders
  have HLen := Lib.hid hl
  have HL := Lib.hid hL
  have hd : decide (100 < m) = false := decide_eq_false (by omega)
  have hNP := clampN_pos n
  have HN : Hid (∀ W : World, w.heap.size ≤ W.heap.size → Calls Try.prog 8 #[.int .i64 n, .int .i64 me] W fun e w' => ∃ g q, e = .returned (gptr g) ∧ GrAt w' w.heap.size g q (clampM n me) (List.replicate (clampN n) zeroW) ∧ W.heap.size ≤ g ∧ W.heap.size ≤ q ∧ RowKit.Below W.heap.size W w') := fun W h => new_any n me hn W w.heap.size h
  generalize clampM n me = M at HN
  generalize clampN n = N at HN hNP
  clear hl hL hn
  go_enter Try.func5, Try.ntmps5
  go_wp2_with fail
  refine (HN.out w (Nat.le_refl _)).mono ?_
  rintro e w1 ⟨g, q, rfl, hG, -, hq, hb1⟩
  have HG := Lib.hid hG
  have HB1 := Lib.hid hb1
  clear hG hb1 hq
  go_wp2_with fail
  refine (HN.out w1 HB1.out.size).mono ?_
  rintro e w2 ⟨h, s, rfl, hH, -, hs, hb2⟩
  have HS0 : Hid (TwS w g q h s M N (runL M (List.replicate N zeroW) (ls.take 0)) (runL M (List.replicate N zeroW) (ls.reverse.take 0)) w2) :=
    ⟨HB1.out.trans (hb2.mono HB1.out.size), HG.out.on hb2, hH, by have := HG.out.qlt.2; omega, by rw [runL_len]; simp, by rw [runL_len]; simp⟩
  generalize List.replicate N zeroW = l0 at HS0
  unfold gptr
  clear HN HG hH hs hb2 HB1
  go_wp2
  go_loopw [9] (fun s9 wr => ∃ i : Nat, i ≤ m ∧ s9 = .int .i64 (i : Int) ∧ Hid (TwS w g q h s M N (runL M l0 (ls.take i)) (runL M l0 (ls.reverse.take i)) wr)) (fun s9 _ => m - (intOf s9).toNat)
  case atStart => exact ⟨0, Nat.zero_le _, rfl, HS0⟩
  case round =>
    clear HS0
    obtain ⟨i, hi, rfl, HR⟩ := hrel
    by_cases hlt : i < m
    · have hil : i < ls.length := by rw [HLen.out]; exact hlt
      have hjl : m - 1 - i < ls.length := by rw [HLen.out]; omega
      obtain ⟨bb, off, hA, hbl, c0, c1, c2⟩ := acts_at HL.out hil
      obtain ⟨bb', off', hA', -, e0, e1, e2⟩ := acts_at HL.out hjl
      rw [hA] at hA'
      injection hA' with hA'
      injection hA' with q1 q2
      subst q1 q2 hA
      have HX1 : Hid (runL M l0 (ls.take (i + 1)) = actL (runL M l0 (ls.take i)) M ls[i]) := runL_next M l0 hil
      have HX2 : Hid (runL M l0 (ls.reverse.take (i + 1)) = actL (runL M l0 (ls.reverse.take i)) M ls[m - 1 - i]) := by
        show _ = _
        rw [runL_next M l0 (by rw [List.length_reverse]; exact hil), List.getElem_reverse]
        congr 2
        rw [HLen.out]
      generalize ls[i] = y at c0 c1 c2 HX1
      generalize ls[m - 1 - i] = z at e0 e1 e2 HX2
      have z0 := (HR.out.below.cell (p := ⟨bb, off + i * 3, none⟩) hbl).trans c0
      have z1 := (HR.out.below.cell (p := ⟨bb, off + i * 3 + 1, none⟩) hbl).trans c1
      have z2 := (HR.out.below.cell (p := ⟨bb, off + i * 3 + 2, none⟩) hbl).trans c2
      have y0 := (HR.out.below.cell (p := ⟨bb, off + (m - 1 - i) * 3, none⟩) hbl).trans e0
      have y1 := (HR.out.below.cell (p := ⟨bb, off + (m - 1 - i) * 3 + 1, none⟩) hbl).trans e1
      have y2 := (HR.out.below.cell (p := ⟨bb, off + (m - 1 - i) * 3 + 2, none⟩) hbl).trans e2
      have hji : (m : Int) - 1 - (i : Int) = ((m - 1 - i : Nat) : Int) := by omega
      have hjm : m - 1 - i < m := by omega
      have hbr : bb < wr.heap.size := Nat.lt_of_lt_of_le hbl HR.out.below.size
      clear c0 c1 c2 e0 e1 e2 hil hjl
      generalize m - 1 - i = j at y0 y1 y2 hji hjm
      go_upto_region 7 with fail
      go_cut [10, 11] from 28 to 39 (fun s10 s11 wx => ∃ a b, s10 = .pointer (some ⟨a, 0, none⟩) ∧ s11 = .pointer (some ⟨b, 0, none⟩) ∧ Hid (TwS w g q h s M N (runL M l0 (ls.take i)) (runL M l0 (ls.reverse.take i)) wx) ∧ Hid (ABox a y wx) ∧ Hid (ABox b z wx))
      case first =>
        go_region
        · obtain ⟨t1, t2, t3⟩ := two_acts wr y z
          generalize World.drew _ = W5 at t1 t2 t3 ⊢
          go_wp2_with fail
          go_meet
          exact ⟨_, _, rfl, rfl, HR.out.on t1, t2, t3⟩
        · obtain ⟨t1, t2, t3⟩ := two_acts wr z y
          generalize World.drew _ = W5 at t1 t2 t3 ⊢
          go_wp2_with fail
          go_meet
          exact ⟨_, _, rfl, rfl, HR.out.on t1, t3, t2⟩
      case rest =>
        clear z0 z1 z2 y0 y1 y2 HR hbr hbl
        obtain ⟨a, b, rfl, rfl, HR, HA, HB⟩ := hcut
        have a0 := HA.out.c0
        have a1 := HA.out.c1
        have a2 := HA.out.c2
        go_upto_if 41 with fail
        go_cut [10] from 41 to 52 (fun _ wx => Hid (TwS w g q h s M N (actL (runL M l0 (ls.take i)) M y) (runL M l0 (ls.reverse.take i)) wx) ∧ Hid (ABox b z wx))
        case first =>
          cases hyg : y.g
          · have HC := Lib.hid (tell_act HR.out.g hyg)
            rw [hyg] at a0
            clear hyg
            go_wp2_with fail
            refine HC.out.mono ?_
            rintro e w5 ⟨rfl, h1, h2⟩
            have HR5 := Lib.hid (HR.out.gact y h1 h2)
            have HB5 : Hid (ABox b z w5) := HB.out.only h2 (HB.out.ne HR.out.g)
            clear HC h1 h2 a0 a1 a2 HR HA HB
            go_wp2
            go_meet
            exact ⟨HR5, HB5⟩
          · have HC := Lib.hid (gone_act HR.out.g hyg)
            rw [hyg] at a0
            clear hyg
            go_wp2_with fail
            refine HC.out.mono ?_
            rintro e w5 ⟨rfl, h1, h2⟩
            have HR5 := Lib.hid (HR.out.gact y h1 h2)
            have HB5 : Hid (ABox b z w5) := HB.out.only h2 (HB.out.ne HR.out.g)
            clear HC h1 h2 a0 a1 a2 HR HA HB
            go_wp2
            go_meet
            exact ⟨HR5, HB5⟩
        case rest =>
          clear a0 a1 a2 HR HA HB
          obtain ⟨HR, HB⟩ := hcut
          have a0 := HB.out.c0
          have a1 := HB.out.c1
          have a2 := HB.out.c2
          cases hzg : z.g
          · have HC := Lib.hid (tell_act HR.out.h hzg)
            rw [hzg] at a0
            clear hzg
            go_wp2_with fail
            refine HC.out.mono ?_
            rintro e w5 ⟨rfl, h1, h2⟩
            have HR5 : Hid (TwS w g q h s M N (runL M l0 (ls.take (i + 1))) (runL M l0 (ls.reverse.take (i + 1))) w5) := by
              have := HR.out.hact z h1 h2
              rwa [← HX1.out, ← HX2.out] at this
            clear HC h1 h2 a0 a1 a2 HR HB HX1 HX2
            go_wp2
            exact ⟨⟨i + 1, by omega, by go_num, HR5⟩, by simp [intOf]; omega⟩
          · have HC := Lib.hid (gone_act HR.out.h hzg)
            rw [hzg] at a0
            clear hzg
            go_wp2_with fail
            refine HC.out.mono ?_
            rintro e w5 ⟨rfl, h1, h2⟩
            have HR5 : Hid (TwS w g q h s M N (runL M l0 (ls.take (i + 1))) (runL M l0 (ls.reverse.take (i + 1))) w5) := by
              have := HR.out.hact z h1 h2
              rwa [← HX1.out, ← HX2.out] at this
            clear HC h1 h2 a0 a1 a2 HR HB HX1 HX2
            go_wp2
            exact ⟨⟨i + 1, by omega, by go_num, HR5⟩, by simp [intOf]; omega⟩
    · obtain rfl : i = m := by omega
      have HX : Hid (lim (runL M l0 (ls.reverse.take i)) = lim (runL M l0 (ls.take i))) := by
        show _ = _
        rw [List.take_of_length_le (by rw [List.length_reverse, HLen.out]; exact Nat.le_refl _), List.take_of_length_le (by rw [HLen.out]; exact Nat.le_refl _), runL_reverse]
      have hq1 := limit_any HR.out.g (by rw [HR.out.lg]; exact hNP.2)
      go_wp2_with fail
      refine hq1.mono ?_
      rintro e w5 ⟨rfl, hb5⟩
      have HR5 := Lib.hid (HR.out.on hb5)
      have hq2 := limit_any HR5.out.h (by rw [HR5.out.lh]; exact hNP.2)
      rw [HX.out] at hq2
      clear hq1 HR hb5 HX
      generalize lim (runL M l0 (ls.take i)) = L at hq2 ⊢
      go_wp2_with fail
      refine hq2.mono ?_
      rintro e w6 ⟨rfl, hb6⟩
      have HB6 : Hid (Below w.heap.size w w6) := HR5.out.below.trans (hb6.mono HR5.out.below.size)
      clear hq2 HR5 hb6
      go_wp2_with fail
      refine (awake_any w6).mono ?_
      rintro e w9 ⟨rfl, hb9⟩
      go_wp2
      go_ret
      exact ⟨rfl, HB6.out.trans (hb9.mono HB6.out.size)⟩

theorem own : ownKnob Try.prog.godebug = none := by kernel_rfl
theorem laidOut : laidOutB Try.prog = true := by kernel_rfl

set_option maxRecDepth 100000 in
theorem grantTurns_lifted (os : Os) (started : os.Started) (H : Type) (enc : TypeId × Value → H) :
    ReturnsInHanded {} Try.checked os 5 .any (Rows.grantTurnsSpec.pre6 enc Try.prog Try.f5 Rows.grantTurnsRow.domain false) (Rows.grantTurnsSpec.post enc Try.prog Try.f5 false true false false) := by
  refine returnsInHanded_of_change (C := Try.checked) own started (by kernel_rfl) Try.func5
    (ChangeSpec.witness6 (enc := enc) (C := Try.checked) false ⟨#[], #[.int .i64 0, .int .i64 0, .slice none 0 0], []⟩ 8 (by kernel_rfl) (by kernel_rfl) (by kernel_rfl) (by kernel_rfl)) ?_
  intro W base args ds gs before hval0 hW _ _
  have hval : ∀ (j : Nat) t v, Try.f5.params[j]? = some t → args[j]? = some v → Value.okWide Try.prog W .any base t v := hval0
  have hW' := hW
  obtain ⟨p, q, hA0, hV, rfl, _, _⟩ := hW
  have hA : DataW.TrodAll enc Try.prog W 0 (fun _ => true) true Try.f5.params.toList args.toList ds p := hA0
  rw [Try.params5] at hA hval
  obtain ⟨v0, vs0, d0, ds0, p0, q0, hargs, rfl, rfl, h0, r0⟩ := trodAll_cons hA
  obtain ⟨v1, vs1, d1, ds1, p1, q1, rfl, rfl, rfl, h1, r1⟩ := trodAll_cons r0
  obtain ⟨v2, vs2, d2, ds2, p2, q2, rfl, rfl, rfl, h2, r2⟩ := trodAll_cons r1
  obtain ⟨rfl, rfl, rfl⟩ := trodAll_nil r2
  obtain rfl : args = #[v0, v1, v2] := by cases args; simp_all
  obtain ⟨rfl, rfl⟩ := trodVars_none hV
  have k0 := h0
  have lt0 : ∀ x ∈ p0, x.block < W.heap.size := by obtain ⟨m, hm⟩ := k0; exact DataW.trod_lt m _ _ _ hm
  have k1 := h1
  have lt1 : ∀ x ∈ p1, x.block < W.heap.size := by obtain ⟨m, hm⟩ := k1; exact DataW.trod_lt m _ _ _ hm
  have k2 := h2
  have lt2 : ∀ x ∈ p2, x.block < W.heap.size := by obtain ⟨m, hm⟩ := k2; exact DataW.trod_lt m _ _ _ hm
  obtain ⟨a0, rfl, _, _, wf0⟩ := open_int Try.underlying3 (hval 0 3 v0 rfl rfl) h0
  obtain ⟨a1, rfl, _, _, _⟩ := open_int Try.underlying3 (hval 1 3 v1 rfl rfl) h1
  have hwalk : Calls Try.prog 5 #[.int .i64 a0, .int .i64 a1, v2] W fun e w' => e = .returned (.bool true) ∧ Below W.heap.size W w' := by
    obtain ⟨fuel2, hf2⟩ := h2
    obtain ⟨x2, len2, cap2, rfl⟩ := okWide_slice Try.underlying22 (hval 2 22 v2 rfl rfl)
    obtain ⟨l, A, n, c, hv, hl, hc, hm, hL, hO⟩ := open_acts (by simpa [Value.cells] using hf2)
    injection hv with e1 e2 e3
    subst e1 e2 e3
    by_cases hn : 100 < len2
    · exact turns_many a0 a1 _ _ _ W hn
    · exact turns_few a0 a1 (bounds_i64 wf0) x2 len2 cap2 l W (by omega) hl hL
  clear hA0 hval0
  refine hwalk.mono fun e W' ⟨he, bel⟩ => ?_
  subst he
  exact ⟨_, rfl, _, _, _, [], _, [], hW', trodAll_mk1 (shut_bool Try.underlying4 _), (trodAll_cons_mk (Below.trod laidOut (by kernel_rfl) (of_decide_eq_true (by kernel_rfl)) k0 bel lt0) (trodAll_cons_mk (Below.trod laidOut (by kernel_rfl) (of_decide_eq_true (by kernel_rfl)) k1 bel lt1) (trodAll_cons_mk (Below.trod laidOut (by kernel_rfl) (of_decide_eq_true (by kernel_rfl)) k2 bel lt2) trodAll_mk0))), rfl, bel.frame _, fun h => by cases h⟩

theorem grantTurns_proved : Rows.GrantTurnsSaid :=
  OpenClaim.holds_of_wide 5 Try.f5 rfl rfl rfl rfl rfl rfl rfl ⟨rfl, rfl, rfl, rfl, rfl⟩ rfl rfl rfl rfl rfl (by kernel_rfl) Try.func5 (by kernel_rfl)
    (of_decide_eq_true (by kernel_rfl)) (by unfold Func.isWrapper; first | (rw [if_pos (by decide +kernel)]; kernel_rfl) | (rw [if_neg (by decide +kernel)]; exact ⟨rfl, rfl⟩))
    (fun os started H enc _ => grantTurns_lifted os started H enc)

end Go.Proofs.Ytenaoinkjdaoeaa
