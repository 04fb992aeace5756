/- StoreHas: for every list of ids that are put in, and every list of ids that are asked for, the call returns true (all of these are there just if each one is), and changes nothing that was there. No conditions. -/
import Derived.Test.YtnpdjlcekmpmoaaSoS
import Derived.ChangeOld
namespace Go.Proofs.Ytnpdjlcekmpmoaa
open Go.ChangeShapes Go.WideShapes Go.ChangeAt Go.RowKit

theorem has_many (A : Option Addr) (n c : Nat) (A2 : Option Addr) (n2 c2 : Nat) (w : World) (hn : 50 < n ∨ 50 < n2) : Calls Try.prog 5 #[.slice A n c, .slice A2 n2 c2] w fun e w' => e = .returned (.bool true) ∧ Below w.heap.size w w' := by
  by_cases h1 : 50 < n
  · have hd : decide (50 < n) = true := decide_eq_true h1
    clear hn
    go_enter Try.func5, Try.ntmps5
    go_wp2_with (go_at_call 8; refine (awake_any _).mono ?_; rintro e w' ⟨rfl, hb⟩)
    go_ret
    exact ⟨rfl, hb⟩
  · have hd : decide (50 < n) = false := decide_eq_false h1
    have h2 : 50 < n2 := hn.resolve_left h1
    have hd2 : decide (50 < n2) = true := decide_eq_true h2
    clear hn
    go_enter Try.func5, Try.ntmps5
    go_wp2_with (go_at_call 8; refine (awake_any _).mono ?_; rintro e w' ⟨rfl, hb⟩)
    go_ret
    exact ⟨rfl, hb⟩

/-- Is it among the first, and may it be? -/
def metB (l : List Id) (y : Id) (k : Nat) : Bool := (l.take k).any fun x => decide (x = y) && (decide (x.f < 64) && mayB x)
theorem metB_next {l : List Id} {y : Id} {k : Nat} (hk : k < l.length) : metB l y (k + 1) = (metB l y k || (decide (l[k] = y) && (decide (l[k].f < 64) && mayB l[k]))) := by
  unfold metB
  rw [List.take_succ_eq_append_getElem hk, List.any_append]
  simp
theorem metB_all {m0 m : Sm} {l : List Id} (h : OneS m0 m l) (hn : m0.n = 64) (y : Id) : metB l y l.length = hasL m.l y := by
  rw [h.has]
  unfold metB Sm.may
  rw [List.take_length, hn, Bool.eq_iff_iff, Bool.and_eq_true, List.any_eq_true, List.any_eq_true]
  constructor
  · rintro ⟨x, hx, hp⟩
    rw [Bool.and_eq_true, decide_eq_true_eq] at hp
    obtain ⟨rfl, hp⟩ := hp
    exact ⟨⟨x, hx, by simp⟩, hp⟩
  · rintro ⟨⟨x, hx, he⟩, hp⟩
    obtain rfl := of_decide_eq_true he
    exact ⟨x, hx, by rw [decide_eq_true rfl, Bool.true_and]; exact hp⟩

theorem refMay64 (x : Id) (W : World) : Calls Try.prog 23 #[.agg #[.int .u8 (x.f : Int), .int .u64 (x.s : Int)], .int .i64 64] W fun e w' => e = .returned (.bool (decide (x.f < 64) && mayB x)) ∧ Grew W w' := by
  have := refMay_any x 64 W (by omega)
  unfold valId at this
  refine this.mono ?_
  rintro e w' ⟨rfl, hg⟩
  refine ⟨ret_bool ?_, hg⟩
  congr 1
  exact decide_eq_decide.2 (by omega)

set_option maxRecDepth 20000 in
set_option maxHeartbeats 6400000 in
theorem has_few (A : Option Addr) (n c : Nat) (A2 : Option Addr) (n2 c2 : Nat) (l ask : List Id) (w : World) (hn : n ≤ 50) (hn2 : n2 ≤ 50) (hl : l.length = n) (hl2 : ask.length = n2) (hL : Lies w w.heap.size A (flat encId l)) (hL2 : Lies w w.heap.size A2 (flat encId ask)) :
    Calls Try.prog 5 #[.slice A n c, .slice A2 n2 c2] w fun e w' => e = .returned (.bool true) ∧ Below w.heap.size w w' := by
  have mixed := mixedOrders
  have HLen := Lib.hid hl
  have HLen2 := Lib.hid hl2
  have HL := Lib.hid hL
  have HL2 := Lib.hid hL2
  have HM0 : Hid ((Sm.new 64 50).l = [] ∧ (Sm.new 64 50).room = 50 ∧ (∀ i, num (Sm.new 64 50).fl i = 0) ∧ (Sm.new 64 50).n = 64) := ⟨rfl, rfl, fun i => by
    have := num_le (fl := (Sm.new 64 50).fl) (B := 0) (fun x hx => by rw [List.eq_of_mem_replicate hx]; exact Nat.le_refl _) i
    omega, rfl⟩
  have hd : decide (50 < n) = false := decide_eq_false (by omega)
  have hd2 : decide (50 < n2) = false := decide_eq_false (by omega)
  have HN : Calls Try.prog 9 #[.int .i64 64, .int .i64 50] w fun e w' => ∃ g mb fb, e = .returned (sptr g) ∧ StAt w' w.heap.size g mb fb (Sm.new 64 50) (own3 g mb fb) ∧ Below w.heap.size w w' := new_any 64 50 (by omega) w
  generalize Sm.new 64 50 = m0 at HM0 HN
  have HNh := Lib.hid HN
  clear hl hl2 hL hL2 HN
  go_enter Try.func5, Try.ntmps5
  go_wp2_with fail
  refine HNh.out.mono ?_
  rintro e w1 ⟨g, mb, fb, rfl, h1, hb1⟩
  have H1 := Lib.hid h1
  have HB1 := Lib.hid hb1
  clear h1 hb1 HNh
  unfold sptr
  go_wp2
  go_loopw [6] (fun s6 wr => ∃ k : Nat, k ≤ n ∧ s6 = .int .i64 (k : Int) ∧ ∃ m, Hid (StAt wr w.heap.size g mb fb m (own3 g mb fb)) ∧ Hid (OneS m0 m (l.take k)) ∧ Hid (Below w.heap.size w wr)) (fun s6 _ => n - (intOf s6).toNat)
  case atStart => exact ⟨0, Nat.zero_le _, rfl, m0, H1, OneS.start HM0.out.1, HB1⟩
  case round =>
    obtain ⟨k, hk, rfl, m, HS, HO, HB⟩ := hrel
    clear H1 HB1
    by_cases hlt : k < n
    · have hkl : k < l.length := by rw [HLen.out]; exact hlt
      have t1 : Hid (l.take (k + 1) = l.take k ++ [l[k]]) := List.take_succ_eq_append_getElem hkl
      obtain ⟨bb, off, rfl, hbl, c0, c1⟩ := HL.out.id hkl
      generalize l[k] = x at c0 c1 t1
      have z0 := (HB.out.cell (p := ⟨bb, off + k * 2, none⟩) hbl).trans c0
      have z1 := (HB.out.cell (p := ⟨bb, off + k * 2 + 1, none⟩) hbl).trans c1
      have hlk : Hid ((l.take k).length < m0.room) := by
        show _ < _
        rw [HM0.out.2.1, List.length_take]
        omega
      clear hkl c0 c1
      go_wp2_with fail
      have P1 := put_any (HS.out.on (alloc_below wr (.cells #[bv 1] 5))) x [1] (n := 1) (c := 1) rfl (by omega) (bytes_new wr 1) (by have := HO.out.len; have := hlk.out; rw [HM0.out.2.1] at this; omega)
      refine (show Calls Try.prog 19 #[.pointer (some ⟨g, 0, none⟩), .agg #[.int .u8 (x.f : Int), .int .u64 (x.s : Int)], .slice (some ⟨wr.heap.size, 0, none⟩) 1 1] (wr.alloc (.cells #[.int .u8 1] 5)) _ from P1).mono ?_
      rintro e w3 ⟨rfl, hs3, ho3⟩
      have HS3 := Lib.hid hs3
      have HO3 := Lib.hid (HO.out.step x hlk.out HM0.out.2.2.1)
      have HB3 : Hid (Below w.heap.size w w3) := ((HB.out.alloc HB.out.size _).trans (ho3.below (B := w.heap.size) (fun b hb => (HS.out.din b hb).1) (by have := HB.out.size; simp; omega)))
      clear P1 hs3 ho3 HS HO HB z0 z1
      go_wp2
      go_roundw
      case rel => exact ⟨k + 1, by omega, by go_num, _, HS3, by rw [t1.out]; exact HO3, HB3⟩
      case measure => simp [intOf]; omega
    · have hkn : k = l.length := by rw [HLen.out]; omega
      have HM : Hid (∀ y, metB l y n = hasL m.l y) := fun y => by
        have := HO.out
        rw [hkn, List.take_length] at this
        rw [← HLen.out]
        exact metB_all this HM0.out.2.2.2 y
      clear hkn HO
      go_wp2
      go_loopw [7, 8] (fun s7 s8 wr => ∃ i : Nat, i ≤ n2 ∧ s8 = .int .i64 (i : Int) ∧ s7 = .bool ((ask.take i).all (hasL m.l)) ∧ Hid (StAt wr w.heap.size g mb fb m (own3 g mb fb)) ∧ Hid (Below w.heap.size w wr)) (fun _ s8 _ => n2 - (intOf s8).toNat)
      case atStart => exact ⟨0, Nat.zero_le _, rfl, rfl, HS, HB⟩
      case round =>
        obtain ⟨i, hi, rfl, rfl, HS2, HB2⟩ := hrel
        clear HS HB
        by_cases hlt2 : i < n2
        · have hil : i < ask.length := by rw [HLen2.out]; exact hlt2
          have t2 : Hid ((ask.take (i + 1)).all (hasL m.l) = ((ask.take i).all (hasL m.l) && hasL m.l ask[i])) := by
            show _ = _
            rw [List.take_succ_eq_append_getElem hil, List.all_append]
            simp
          obtain ⟨b2, off2, rfl, hbl2, d0, d1⟩ := HL2.out.id hil
          generalize ask[i] = y at d0 d1 t2
          generalize (ask.take i).all (hasL m.l) = all0 at t2 ⊢
          clear hil
          go_wp2
          go_loopw [9, 10] (fun s9 s10 wr2 => ∃ j : Nat, j ≤ n ∧ s10 = .int .i64 (j : Int) ∧ s9 = .bool (metB l y j) ∧ Hid (StAt wr2 w.heap.size g mb fb m (own3 g mb fb)) ∧ Hid (Below w.heap.size w wr2)) (fun _ s10 _ => n - (intOf s10).toNat)
          case atStart => exact ⟨0, Nat.zero_le _, rfl, rfl, HS2, HB2⟩
          case round =>
            obtain ⟨j, hj, rfl, rfl, HS3, HB3⟩ := hrel
            clear HS2 HB2
            by_cases hlt3 : j < n
            · have hjl : j < l.length := by rw [HLen.out]; exact hlt3
              have t3 := metB_next (y := y) hjl
              obtain ⟨b3, off3, rfl, hbl3, e0, e1⟩ := HL.out.id hjl
              generalize l[j] = x at e0 e1 t3
              have HT3 := Lib.hid t3
              have x0 := later_cell (w0 := wr) (Nat.lt_of_lt_of_le hbl3 HB3.out.size) ((HB3.out.cell (p := ⟨b3, off3 + j * 2, none⟩) hbl3).trans e0)
              have x1 := later_cell (w0 := wr) (Nat.lt_of_lt_of_le hbl3 HB3.out.size) ((HB3.out.cell (p := ⟨b3, off3 + j * 2 + 1, none⟩) hbl3).trans e1)
              have y0 := later_cell (w0 := wr) (Nat.lt_of_lt_of_le hbl2 HB3.out.size) ((HB3.out.cell (p := ⟨b2, off2 + i * 2, none⟩) hbl2).trans d0)
              have y1 := later_cell (w0 := wr) (Nat.lt_of_lt_of_le hbl2 HB3.out.size) ((HB3.out.cell (p := ⟨b2, off2 + i * 2 + 1, none⟩) hbl2).trans d1)
              have hgd := guardId
              have heq := fun W' => eqlId x y W'
              have HM3 := Lib.hid (fun W => refMay64 x W)
              generalize metB l y j = met at HT3 ⊢
              clear t3 hjl e0 e1
              cases met with
              | true =>
                rw [Bool.true_or] at HT3
                go_wp2_with fail
                refine wp_region_later mixed (by kernel_rfl) ?_
                repeat (go_big_quiet_step (fail))
                refine wpQuiet_nil ?_
                intro _ hw'
                obtain ⟨p, rfl⟩ := hw'
                have HS4 := Lib.hid (HS3.out.on p.hb)
                have HB4 := Lib.hid (HB3.out.trans (p.hb.mono HB3.out.size))
                clear x0 x1 y0 y1 heq
                go_wp2
                go_roundw
                case rel => exact ⟨j + 1, by omega, by go_num, by rw [HT3.out], HS4, HB4⟩
                case measure => simp [intOf]; omega
              | false =>
                rw [Bool.false_or] at HT3
                generalize hq : decide (x = y) = q at heq HT3
                generalize (decide (x.f < 64) && mayB x) = mq at HT3 HM3
                clear hq
                cases q with
                | true =>
                  rw [Bool.true_and] at HT3
                  go_wp2_with fail
                  refine wp_region_later mixed (by kernel_rfl) ?_
                  repeat (go_big_quiet_step (first | (go_at_call 23; exact later_grew (HM3.out _))))
                  refine wpQuiet_nil ?_
                  intro _ hw'
                  obtain ⟨p, rfl⟩ := hw'
                  have HS4 := Lib.hid (HS3.out.on p.hb)
                  have HB4 := Lib.hid (HB3.out.trans (p.hb.mono HB3.out.size))
                  clear x0 x1 y0 y1 heq
                  go_wp2
                  go_roundw
                  case rel => exact ⟨j + 1, by omega, by go_num, by rw [HT3.out], HS4, HB4⟩
                  case measure => simp [intOf]; omega
                | false =>
                  rw [Bool.false_and] at HT3
                  go_wp2_with fail
                  refine wp_region_later mixed (by kernel_rfl) ?_
                  repeat (go_big_quiet_step (first | (go_at_call 23; exact later_grew (HM3.out _))))
                  refine wpQuiet_nil ?_
                  intro _ hw'
                  obtain ⟨p, rfl⟩ := hw'
                  have HS4 := Lib.hid (HS3.out.on p.hb)
                  have HB4 := Lib.hid (HB3.out.trans (p.hb.mono HB3.out.size))
                  clear x0 x1 y0 y1 heq
                  go_wp2
                  go_roundw
                  case rel => exact ⟨j + 1, by omega, by go_num, by rw [HT3.out], HS4, HB4⟩
                  case measure => simp [intOf]; omega
            · obtain rfl : j = n := by omega
              have hme := HM.out y
              rw [hme]
              generalize hasL m.l y = q at t2 ⊢
              have HME := Lib.hid t2
              clear t2 hme
              cases all0 <;> cases q <;>
              (go_wp2
               go_roundw
               case rel => exact ⟨i + 1, by omega, by go_num, by rw [HME.out]; rfl, HS3, HB3⟩
               case measure => simp [intOf]; omega)
        · have hin : i = ask.length := by rw [HLen2.out]; omega
          have hall : Hid ((ask.take i).all (hasL m.l) = ask.all (hasL m.l)) := by show _ = _; rw [hin, List.take_length]
          have P1 := has_any HS2.out A2 n2 c2 ask HLen2.out (by omega) (HL2.out.later HB2.out)
          rw [hall.out]
          generalize ask.all (hasL m.l) = q at P1 ⊢
          clear hall hin
          unfold sptr at P1
          have heqq : (q == q) = true := by simp
          go_wp2_with fail
          refine P1.mono ?_
          rintro e w3 ⟨rfl, hb3⟩
          have HS3 := Lib.hid (HS2.out.on hb3)
          have HB3 := Lib.hid (HB2.out.trans (hb3.mono HB2.out.size))
          clear P1 hb3 HS2 HB2
          go_wp2_with fail
          have P2 := has_any HS3.out none 0 0 [] rfl (by omega) Lies.nil
          unfold sptr at P2
          refine P2.mono ?_
          rintro e w4 ⟨rfl, hb4⟩
          have HB4 := Lib.hid (HB3.out.trans (hb4.mono HB3.out.size))
          clear P2 hb4 HS3 HB3
          go_wp2_with (go_at_call 8; refine (awake_any _).mono ?_; rintro e w' ⟨rfl, hb⟩)
          go_ret
          exact ⟨rfl, HB4.out.trans (hb.mono HB4.out.size)⟩

theorem own : ownKnob Try.prog.godebug = none := by kernel_rfl
theorem laidOut : laidOutB Try.prog = true := by kernel_rfl

set_option maxRecDepth 100000 in
theorem storeHas_lifted (os : Os) (started : os.Started) (H : Type) (enc : TypeId × Value → H) :
    ReturnsInHanded {} Try.checked os 5 .any (Rows.storeHasSpec.pre6 enc Try.prog Try.f5 Rows.storeHasRow.domain false) (Rows.storeHasSpec.post enc Try.prog Try.f5 false true false false) := by
  refine returnsInHanded_of_change (C := Try.checked) own started (by kernel_rfl) Try.func5
    (ChangeSpec.witness6 (enc := enc) (C := Try.checked) false ⟨#[], #[.slice none 0 0, .slice none 0 0], []⟩ 8 (by kernel_rfl) (by kernel_rfl) (by kernel_rfl) (by kernel_rfl)) ?_
  intro W base args ds gs before hval0 hW _ _
  have hval : ∀ (j : Nat) t v, Try.f5.params[j]? = some t → args[j]? = some v → Value.okWide Try.prog W .any base t v := hval0
  have hW' := hW
  obtain ⟨p, q, hA0, hV, rfl, _, _⟩ := hW
  have hA : DataW.TrodAll enc Try.prog W 0 (fun _ => true) true Try.f5.params.toList args.toList ds p := hA0
  rw [Try.params5] at hA hval
  obtain ⟨v0, vs0, d0, ds0, p0, q0, hargs, rfl, rfl, h0, r0⟩ := trodAll_cons hA
  obtain ⟨v1, vs1, d1, ds1, p1, q1, rfl, rfl, rfl, h1, r1⟩ := trodAll_cons r0
  obtain ⟨rfl, rfl, rfl⟩ := trodAll_nil r1
  obtain rfl : args = #[v0, v1] := by cases args; simp_all
  obtain ⟨rfl, rfl⟩ := trodVars_none hV
  have k0 := h0
  have lt0 : ∀ x ∈ p0, x.block < W.heap.size := by obtain ⟨m, hm⟩ := k0; exact DataW.trod_lt m _ _ _ hm
  have k1 := h1
  have lt1 : ∀ x ∈ p1, x.block < W.heap.size := by obtain ⟨m, hm⟩ := k1; exact DataW.trod_lt m _ _ _ hm
  obtain ⟨fuel0, hf0⟩ := h0
  obtain ⟨x0, len0, cap0, rfl⟩ := okWide_slice Try.underlying46 (hval 0 46 v0 rfl rfl)
  obtain ⟨A, n, c, l, hv, hl, hc, hcm, hL⟩ := open_ids (by simpa [Value.cells] using hf0)
  injection hv with e1 e2 e3
  subst e1 e2 e3
  obtain ⟨fuel1, hf1⟩ := h1
  obtain ⟨x1, len1, cap1, rfl⟩ := okWide_slice Try.underlying46 (hval 1 46 v1 rfl rfl)
  obtain ⟨A', n', c', ask, hv', hl', hc', hcm', hL'⟩ := open_ids (by simpa [Value.cells] using hf1)
  injection hv' with e1 e2 e3
  subst e1 e2 e3
  have hwalk : Calls Try.prog 5 #[.slice x0 len0 cap0, .slice x1 len1 cap1] W fun e w' => e = .returned (.bool true) ∧ Below W.heap.size W w' := by
    by_cases hn : 50 < len0
    · exact has_many _ _ _ _ _ _ W (.inl hn)
    · by_cases hn' : 50 < len1
      · exact has_many _ _ _ _ _ _ W (.inr hn')
      · exact has_few x0 len0 cap0 x1 len1 cap1 l ask W (by omega) (by omega) hl hl' hL hL'
  clear hA0 hval0
  refine hwalk.mono fun e W' ⟨he, bel⟩ => ?_
  subst he
  exact ⟨_, rfl, _, _, _, [], _, [], hW', trodAll_mk1 (shut_bool Try.underlying4 _), (trodAll_cons_mk (Below.trod laidOut (by kernel_rfl) (of_decide_eq_true (by kernel_rfl)) k0 bel lt0) (trodAll_cons_mk (Below.trod laidOut (by kernel_rfl) (of_decide_eq_true (by kernel_rfl)) k1 bel lt1) trodAll_mk0)), rfl, bel.frame _, fun h => by cases h⟩

theorem storeHas_proved : Rows.StoreHasSaid :=
  OpenClaim.holds_of_wide 5 Try.f5 rfl rfl rfl rfl rfl rfl rfl ⟨rfl, rfl, rfl, rfl, rfl⟩ rfl rfl rfl rfl rfl (by kernel_rfl) Try.func5 (by kernel_rfl)
    (of_decide_eq_true (by kernel_rfl)) (by unfold Func.isWrapper; first | (rw [if_pos (by decide +kernel)]; kernel_rfl) | (rw [if_neg (by decide +kernel)]; exact ⟨rfl, rfl⟩))
    (fun os started H enc _ => storeHas_lifted os started H enc)

end Go.Proofs.Ytnpdjlcekmpmoaa
