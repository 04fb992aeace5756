/- RelayRoom: for every int and every byte the call returns true (of unlike chunks as many are put in as there is room for, the first ones; the others are lost), and changes nothing that was there. No conditions. -/
import Derived.Test.YtmnjedpnhilndaaReO
import Derived.ChangeOld
namespace Go.Proofs.Ytmnjedpnhilndaa
open Go.ChangeShapes Go.WideShapes Go.ChangeAt Go.RowKit

/-- The list that is put in, while it is made. -/
structure MkS (w : World) (k : Nat) (v : Value) (wr : World) : Prop where
  row : wr.ownsRow w.heap.size 40 16 v k (flat encPf (atPs k))
  below : RowKit.Below w.heap.size w wr
theorem MkS.step {w wr : World} {k : Nat} {v : Value} (h : MkS w k v wr) (hk : k ≤ 1000) : ∃ A' c' w2, (Builtin.append_ #[26, 26] 26 #[v, .slice (some ⟨wr.heap.size, 0, none⟩) 1 1]).run Try.prog (wr.alloc (.cells (atP k).cs 40)) = .ok (.slice A' (k + 1) c') w2 ∧ MkS w (k + 1) (.slice A' (k + 1) c') w2 := by
  have hb : RowKit.Below wr.heap.size wr (wr.alloc (.cells (atP k).cs 40)) := alloc_below _ _
  have hA := own_below h.row hb
  have hL := lies_new wr (atP k).cs 40
  rw [← flat_single] at hL
  have hs := h.below.size
  obtain ⟨A', c', w2, hrun, hown, hg, hblk, -, -⟩ := app_frame (m := 1) (c := 1) hA (List.length_singleton : [atP k].length = 1) hL (by simp; omega) (by omega)
  refine ⟨A', c', w2, hrun, ?_, ?_⟩
  · rw [atPs_snoc, flat_append]
    exact hown
  · exact (h.below.trans (hb.mono hs)).trans ((OnlyE.of_grownO hg).below (fun b hb => (hA.lt b hb).1) (by simp; omega))
theorem MkS.rowX {w wr : World} {k : Nat} {A : Option Addr} {c : Nat} (h : MkS w k (.slice A k c) wr) {W : World} {D : Nat → Prop} (hb : RowKit.Below wr.heap.size wr W) (hD : ∀ b, D b → wr.heap.size ≤ b) (hk : k < 4294967296) : RowX W D A (atPs k) where
  row := by
    have h1 : LiesX wr (fun _ => False) A (flat encPf (atPs k)) := fun hn => by
      obtain ⟨b, off, e, h1, h2⟩ := Lies.of_ownK h.row hn
      exact ⟨b, off, e, h1, id, h2⟩
    exact (h1.widen (D' := D) fun b hb => .inl (hD b hb)).kept (OnlyE.of_below hb)
  frs := fun y hy => by
    obtain ⟨i, -, rfl⟩ := List.mem_map.1 hy
    exact atP_X _ _ _
  oks := fun y hy => by
    obtain ⟨i, hi, rfl⟩ := List.mem_map.1 hy
    have : i < k := by simpa using hi
    exact atF_ok (by omega)

set_option maxRecDepth 20000 in
set_option maxHeartbeats 3200000 in
theorem relayRoom_walk (r : Int) (M : Nat) (w : World) (hM : M < 256) (hr : r ≤ 9223372036854775807) (hr0 : -9223372036854775808 ≤ r) : Calls Try.prog 6 #[.int .i64 r, .int .u8 (M : Int)] w fun e w' => e = .returned (.bool true) ∧ Below w.heap.size w w' := by
  by_cases h200 : 200 < M
  · have d1 : decide (200 < (M : Int)) = true := by simp; omega
    go_enter Try.func6, Try.ntmps6
    go_wp2_with fail
    refine (awake_any w).mono ?_
    rintro e w4 ⟨rfl, hb4⟩
    go_wp2
    go_ret
    exact ⟨rfl, hb4⟩
  have d1 : decide (200 < (M : Int)) = false := by simp; omega
  have hwr : IntKind.i64.wrap (M : Int) = (M : Int) := by simp [IntKind.wrap, IntKind.bits, IntKind.signed]; omega
  generalize hNr : roomN r = N
  have HNR := Lib.hid hNr
  have hn1 : max 1 (min r 4096) = (N : Int) := by rw [← hNr]; unfold roomN; omega
  have hN1 : 1 ≤ N := by omega
  have hN2 : N ≤ 4096 := by omega
  have hn2 : min (M : Int) (N : Int) = ((min M N : Nat) : Int) := by omega
  obtain ⟨q, hq⟩ : ∃ q, min M N = q := ⟨_, rfl⟩
  have HQ := Lib.hid hq
  rw [hq] at hn2
  have hqM : q ≤ M := by omega
  have hM2 : M ≤ 200 := by omega
  have HP : Hid ((Qp.mk [] 0).puts N (atFs M) = ⟨atFs q, M - q⟩) := by show _ = _; rw [atFs_puts N M (by omega), hq]
  clear hNr hq h200
  go_enter Try.func6, Try.ntmps6
  go_wp2_with fail
  have HS0 : Hid (MkS w 0 (.slice (some ⟨w.heap.size, 0, none⟩) 0 0) (w.alloc (.cells #[] 40))) := ⟨World.ownsRow_made w #[] 0 (Nat.le_refl _) (Nat.zero_le _) rfl, alloc_below _ _⟩
  go_loopw [5, 6] (fun s5 s6 wr => ∃ (k : Nat) (A : Option Addr) (c : Nat), k ≤ M ∧ s5 = .slice A k c ∧ s6 = .int .i64 k ∧ Hid (MkS w k (.slice A k c) wr)) (fun _ s6 _ => M - (intOf s6).toNat)
  case atStart => exact ⟨0, _, 0, Nat.zero_le _, rfl, rfl, HS0⟩
  case round =>
    clear HS0
    obtain ⟨k, A, c, hk, rfl, rfl, HS⟩ := hrel
    by_cases hlt : k < M
    · obtain ⟨A', c', w2, hrun, hS2⟩ := HS.out.step (by omega)
      have HRUN := Lib.hid hrun
      have HS2 := Lib.hid hS2
      have hwk : IntKind.u32.wrap (k : Int) = (k : Int) := by simp [IntKind.wrap, IntKind.bits, IntKind.signed]; omega
      clear hrun hS2 hn1 hn2
      go_wp2_with (first | (refine wpList_build1 rfl (x := .tmp 24) (y := atP k) rfl rfl ?_) | (at_builtin; refine wpList_append_run rfl (.tmp 21) (.tmp 25) 26 rfl rfl rfl HRUN.out ?_))
      go_roundw
      case rel => exact ⟨k + 1, A', c', by omega, rfl, by go_num, HS2⟩
      case measure => simp [intOf]; omega
    · obtain rfl : k = M := by omega
      have hN := new_any r wr w.heap.size HS.out.below.size
      rw [HNR.out] at hN
      go_wp2_with fail
      refine hN.mono ?_
      rintro e w2 ⟨g, mb, rfl, hQ, hg, hm, hb2⟩
      have hX := HS.out.rowX (D := Own g mb (.slice none 0 0)) hb2 (fun b hb => by
        rcases hb with rfl | rfl | hb
        · exact hg
        · exact hm
        · simp [Value.ownBlock] at hb) (by omega)
      have hP := puts_any (l := []) hQ A k c (atPs k) (atPs_len k) (by omega) hX (by omega) (Nat.zero_le _) (by decide)
      rw [atPs_F] at hP
      have hP0 : Qp.puts N ⟨([] : List Pf).map Pf.F, 0⟩ (atFs k) = ⟨atFs q, k - q⟩ := HP.out
      rw [hP0] at hP
      simp only [atFs_len, List.length_nil, Int.natCast_zero, Int.sub_zero] at hP
      have HB2 : Hid (Below w.heap.size w w2) := HS.out.below.trans (hb2.mono HS.out.below.size)
      have HG : Hid (w.heap.size ≤ g ∧ w.heap.size ≤ mb) := ⟨Nat.le_trans HS.out.below.size hg, Nat.le_trans HS.out.below.size hm⟩
      have HPT := Lib.hid hP
      clear hN hQ hg hm hb2 hX hP hP0 HS hlt
      unfold qptr at HPT ⊢
      go_wp2_with fail
      refine HPT.out.mono ?_
      rintro e w3 ⟨rfl, hW3⟩
      have HB3 : Hid (Below w.heap.size w w3) := HB2.out.trans (hW3.below HG.out.1 HG.out.2 (fun b hb => by simp [Value.ownBlock] at hb) HB2.out.size)
      obtain ⟨T3, l3, D3, q3, hl3, -, -, ht3, -⟩ := hW3
      have hlen : l3.length = q := by rw [← List.length_map (f := Pf.F), hl3, atFs_len]
      have HLN : Hid (Calls Try.prog 18 #[.pointer (some ⟨g, 0, none⟩)] w3 fun e w' => e = .returned (.int .i64 (q : Int)) ∧ w3 = w') := by
        have := len_any q3
        rwa [List.length_map, hlen] at this
      have HLO : Hid (Calls Try.prog 19 #[.pointer (some ⟨g, 0, none⟩)] w3 fun e w' => e = .returned (.int .i64 ((k : Int) - (q : Int))) ∧ w3 = w') := by
        have := lost_any q3
        rwa [show ((k - q : Nat) : Int) = (k : Int) - (q : Int) by omega] at this
      have HTK : Hid (Calls Try.prog 15 #[.pointer (some ⟨g, 0, none⟩), .int .i64 200, .slice none 0 0] w3 fun e w' => ∃ A n c, e = .returned (.slice A n c) ∧ n = q ∧ Hid (FrsAt w' w3.heap.size (atFs q) (.slice A n c)) ∧ Hid (Below w.heap.size w w') ∧ Hid (Calls Try.prog 18 #[.pointer (some ⟨g, 0, none⟩)] w' fun e w'' => e = .returned (.int .i64 0) ∧ w' = w'')) := by
        refine (take_any q3 (by omega) 200 none 0 0 [] rfl (by decide) LiesX.nil).mono ?_
        rintro e w4 ⟨kk, A4, n4, c4, hG, rfl, hn4, hF, hW4⟩
        have e1 := gone_none hG
        rw [hl3] at e1 hn4 hF
        rw [atFs_len] at e1
        have e2 : kk = q := by rw [e1]; omega
        rw [outF_none, e2, List.take_of_length_le (by rw [atFs_len]; exact Nat.le_refl _)] at hn4 hF
        rw [atFs_len] at hn4
        refine ⟨A4, n4, c4, rfl, hn4.out.symm, hF, HB3.out.trans (hW4.below HG.out.1 HG.out.2 (fun b hb => (ht3 b hb).elim (fun e => by simp [Value.ownBlock] at e) fun e => Nat.le_trans HB2.out.size e) HB3.out.size), ?_⟩
        obtain ⟨T5, l5, D5, q5, hl5, -, -, -, -⟩ := hW4
        have h5 := len_any q5
        rw [List.length_map, ← List.length_map (f := Pf.F), hl5, hl3, e2] at h5
        simp only [List.length_drop, atFs_len, Nat.sub_self] at h5
        exact h5
      have dn1 : ((q : Int) != (q : Int)) = false := by simp
      have dn2 : (((k : Int) - (q : Int)) != ((k : Int) - (q : Int))) = false := by simp
      clear HPT q3 hl3 ht3 hlen HB2 HG
      go_wp2_with fail
      refine HLN.out.mono ?_
      rintro e w4 ⟨rfl, rfl⟩
      go_wp2_with fail
      refine HLO.out.mono ?_
      rintro e w4 ⟨rfl, rfl⟩
      go_wp2_with fail
      refine HTK.out.mono ?_
      rintro e w4 ⟨A4, n4, c4, rfl, rfl, hF, hB4, hL4⟩
      clear HLN HLO HTK HB3
      go_wp2_with fail
      go_loopw [10] (fun s10 wr => ∃ j : Nat, j ≤ n4 ∧ s10 = .int .i64 j ∧ wr = w4) (fun s10 _ => n4 - (intOf s10).toNat)
      case atStart => exact ⟨0, Nat.zero_le _, rfl, rfl⟩
      case round =>
        obtain ⟨j, hj, rfl, rfl⟩ := hrel
        by_cases hjl : j < n4
        · obtain ⟨gb, off, y, rfl, hyF, -, -, hgl, hc⟩ := hF.out.at_ j (by rw [atFs_len]; exact hjl)
          rw [atFs_at] at hyF
          have c6 : wr.cell? ⟨gb, off + j * 16 + 6, none⟩ = some (.int .u32 (j : Int)) := by
            have := hc 6 (.int .u32 (y.F.at_ : Int)) rfl
            rw [hyF] at this
            exact this
          have hwk : IntKind.u32.wrap (j : Int) = (j : Int) := by simp [IntKind.wrap, IntKind.bits, IntKind.signed]; omega
          have dn : ((j : Int) != (j : Int)) = false := by simp
          clear hyF hc hn1 hn2
          go_wp2
          go_roundw
          case rel => exact ⟨j + 1, by omega, by go_num, trivial⟩
          case measure => simp [intOf]; omega
        · obtain rfl : j = n4 := by omega
          have de : ((j : Int) == (j : Int)) = true := by simp
          clear hn1 hn2
          go_wp2_with fail
          refine hL4.out.mono ?_
          rintro e w5 ⟨rfl, rfl⟩
          go_wp2_with fail
          refine (awake_any wr).mono ?_
          rintro e w5 ⟨rfl, hb5⟩
          have HB5 : Hid (Below w.heap.size w w5) := hB4.out.trans (hb5.mono hB4.out.size)
          clear hb5
          go_wp2
          go_ret
          exact ⟨rfl, HB5.out⟩

theorem own : ownKnob Try.prog.godebug = none := by kernel_rfl
theorem laidOut : laidOutB Try.prog = true := by kernel_rfl

set_option maxRecDepth 100000 in
theorem relayRoom_lifted (os : Os) (started : os.Started) (H : Type) (enc : TypeId × Value → H) :
    ReturnsInHanded {} Try.checked os 6 .any (Rows.relayRoomSpec.pre6 enc Try.prog Try.f6 Rows.relayRoomRow.domain false) (Rows.relayRoomSpec.post enc Try.prog Try.f6 false true false false) := by
  refine returnsInHanded_of_change (C := Try.checked) own started (by kernel_rfl) Try.func6
    (ChangeSpec.witness6 (enc := enc) (C := Try.checked) false ⟨#[], #[.int .i64 0, .int .u8 0], []⟩ 8 (by kernel_rfl) (by kernel_rfl) (by kernel_rfl) (by kernel_rfl)) ?_
  intro W base args ds gs before hval0 hW _ _
  have hval : ∀ (j : Nat) t v, Try.f6.params[j]? = some t → args[j]? = some v → Value.okWide Try.prog W .any base t v := hval0
  have hW' := hW
  obtain ⟨p, q, hA0, hV, rfl, _, _⟩ := hW
  have hA : DataW.TrodAll enc Try.prog W 0 (fun _ => true) true Try.f6.params.toList args.toList ds p := hA0
  rw [Try.params6] at hA hval
  obtain ⟨v0, vs0, d0, ds0, p0, q0, hargs, rfl, rfl, h0, r0⟩ := trodAll_cons hA
  obtain ⟨v1, vs1, d1, ds1, p1, q1, rfl, rfl, rfl, h1, r1⟩ := trodAll_cons r0
  obtain ⟨rfl, rfl, rfl⟩ := trodAll_nil r1
  obtain rfl : args = #[v0, v1] := by cases args; simp_all
  obtain ⟨rfl, rfl⟩ := trodVars_none hV
  have k0 := h0
  have lt0 : ∀ x ∈ p0, x.block < W.heap.size := by obtain ⟨m, hm⟩ := k0; exact DataW.trod_lt m _ _ _ hm
  have k1 := h1
  have lt1 : ∀ x ∈ p1, x.block < W.heap.size := by obtain ⟨m, hm⟩ := k1; exact DataW.trod_lt m _ _ _ hm
  obtain ⟨a0, rfl, _, _, wf0⟩ := open_int Try.underlying3 (hval 0 3 v0 rfl rfl) h0
  obtain ⟨a1, rfl, _, _, wf1⟩ := open_int Try.underlying5 (hval 1 5 v1 rfl rfl) h1
  have b0 := bounds_i64 wf0
  have b1 := bounds_u8 wf1
  obtain ⟨M, rfl⟩ : ∃ M : Nat, a1 = (M : Int) := ⟨a1.toNat, by omega⟩
  have hwalk : Calls Try.prog 6 #[.int .i64 a0, .int .u8 (M : Int)] W fun e w' => e = .returned (.bool true) ∧ Below W.heap.size W w' := relayRoom_walk a0 M W (by omega) b0.2 b0.1
  clear hA0 hval0
  refine hwalk.mono fun e W' ⟨he, bel⟩ => ?_
  subst he
  exact ⟨_, rfl, _, _, _, [], _, [], hW', trodAll_mk1 (shut_bool Try.underlying4 _), (trodAll_cons_mk (Below.trod laidOut (by kernel_rfl) (of_decide_eq_true (by kernel_rfl)) k0 bel lt0) (trodAll_cons_mk (Below.trod laidOut (by kernel_rfl) (of_decide_eq_true (by kernel_rfl)) k1 bel lt1) trodAll_mk0)), rfl, bel.frame _, fun h => by cases h⟩

theorem relayRoom_proved : Rows.RelayRoomSaid :=
  OpenClaim.holds_of_wide 6 Try.f6 rfl rfl rfl rfl rfl rfl rfl ⟨rfl, rfl, rfl, rfl, rfl⟩ rfl rfl rfl rfl rfl (by kernel_rfl) Try.func6 (by kernel_rfl)
    (of_decide_eq_true (by kernel_rfl)) (by unfold Func.isWrapper; first | (rw [if_pos (by decide +kernel)]; kernel_rfl) | (rw [if_neg (by decide +kernel)]; exact ⟨rfl, rfl⟩))
    (fun os started H enc _ => relayRoom_lifted os started H enc)

end Go.Proofs.Ytmnjedpnhilndaa
