/- BagRoom: for every room and every list of rows of bytes the call returns true (of any things as many are put in as there is room for, the first ones, and the others are lost), and changes nothing that was there. No conditions. -/
import Derived.Test.YtjecphjdmjoeiaaBgL
import Derived.ChangeOld
namespace Go.Proofs.Ytjecphjdmjoeiaa
open Go.ChangeShapes Go.WideShapes Go.ChangeAt Go.RowKit

theorem BytX.of_later {w W : World} {D : Nat → Prop} {v : Value} {l : List UInt8} (h : Byt w w.heap.size v l) (hb : Below w.heap.size w W) (hD : ∀ k, D k → w.heap.size ≤ k) : BytX W D v l := by
  obtain ⟨A, n, c, h1, h2, h3, h4, h5⟩ := h
  exact ⟨A, n, c, h1, h2, h3, h4, LiesX.of_lies (h5.below hb) hb.size hD⟩

/-- What the second loop of BagRoom keeps. -/
def RoomS (w : World) (p room lost : Nat) (rest : List (List UInt8)) (wr : World) : Prop := ∃ T' l' D', BagAt wr w.heap.size p T' room lost l' D' ∧ l'.map Th.pl = rest.map fresh ∧ Below w.heap.size w wr

set_option maxHeartbeats 1600000 in
theorem bagRoom_walk (A : Option Addr) (m c : Nat) (r : Int) (vs : List Value) (ls : List (List UInt8)) (w : World) (hl : vs.length = m) (hm : m ≤ 100) (hmc : m ≤ c) (hA : Lies w w.heap.size A vs) (hr : BytRows w w.heap.size vs ls) (h1 : -9223372036854775808 ≤ r) (h2 : r ≤ 9223372036854775807) :
    Calls Try.prog 5 #[.int .i64 r, .slice A m c] w fun e w' => e = .returned (.bool true) ∧ Below w.heap.size w w' := by
  have mixed := mixedOrders
  have hd : decide (100 < (m : Int)) = false := by simp; omega
  have hlsm : ls.length = m := by rw [← hr.1]; exact hl
  have HN : Hid (∀ W, w.heap.size ≤ W.heap.size → Calls Try.prog 9 #[.int .i64 r] W fun e w' => e = .returned (.pointer (some ⟨W.heap.size, 0, none⟩)) ∧ BagAt w' w.heap.size W.heap.size (.slice none 0 0) (roomN r) 0 [] (fun k => k = W.heap.size) ∧ Below W.heap.size W w') :=
    fun W hW => new_any r W w.heap.size hW h1 h2
  have HM : Hid (min (m : Int) (max 1 (min r 4096)) = ((min m (roomN r) : Nat) : Int)) := by show _ = _; unfold roomN; omega
  have HL := Lib.hid hl
  have HLS := Lib.hid hlsm
  have HA := Lib.hid hA
  have HR := Lib.hid hr
  clear hl hlsm hr h1 h2
  go_enter Try.func5, Try.ntmps5
  go_wp2_with fail
  go_loopw [5] (fun s5 wr => ∃ k : Nat, k ≤ m ∧ s5 = .int .i64 k ∧ Hid (∀ x ∈ ls.take k, x.length ≤ 50) ∧ w = wr) (fun s5 _ => m - (intOf s5).toNat)
  case atStart => exact ⟨0, Nat.zero_le _, rfl, by show ∀ x ∈ ls.take 0, _; simp, rfl⟩
  case round =>
    obtain ⟨k, hk, rfl, hK, rfl⟩ := hrel
    by_cases hlt : k < m
    · have hk1 : k < vs.length := by rw [HL.out]; exact hlt
      have hk2 : k < ls.length := by rw [HLS.out]; exact hlt
      obtain ⟨Ar, nr, cr, hvr, hlr, _, _, _⟩ := HR.out.2 k hk1 hk2
      obtain ⟨bb, off, rfl, _, hcell⟩ := hA.at_ (List.getElem?_eq_getElem hk1)
      rw [hvr] at hcell
      by_cases hg : 50 < nr
      · have hd1 : decide (50 < (nr : Int)) = true := by simp; omega
        go_wp2_with (go_at_call 8; refine (awake_any _).mono ?_; rintro e w' ⟨rfl, hb⟩)
        go_ret
        exact ⟨rfl, hb⟩
      · have hd1 : decide (50 < (nr : Int)) = false := by simp; omega
        have HK : Hid (∀ x ∈ ls.take (k + 1), x.length ≤ 50) := fun x hx => by
          rw [List.take_succ_eq_append_getElem hk2, List.mem_append] at hx
          rcases hx with hx | hx
          · exact hK.out x hx
          · simp at hx; subst hx; omega
        clear hK
        go_wp2
        go_roundw
        case rel => exact ⟨k + 1, by omega, by go_num, HK, by first | rfl | trivial⟩
        case measure => simp [intOf]; omega
    · have HALL : Hid (∀ x ∈ ls, x.length ≤ 50) := fun x hx => hK.out x (by rw [List.take_of_length_le (by rw [HLS.out]; omega)]; exact hx)
      clear hK hk hA
      go_wp2_with fail
      refine (HN.out w (Nat.le_refl _)).mono ?_
      rintro e w1 ⟨rfl, hB, hb1⟩
      have hP := put_any hB A m c vs ls HL.out (by omega) hmc (by omega) (LiesX.of_lies (HA.out.below hb1) hb1.size (fun k hk => by omega)) ⟨HR.out.1, fun i h1 h2 => BytX.of_later (HR.out.2 i h1 h2) hb1 (fun k hk => by omega)⟩ (fun x hx => by have := HALL.out x hx; omega)
      unfold Put_ at hP
      rw [HLS.out, List.length_nil, Nat.sub_zero, Nat.zero_add] at hP
      have hmin := HM.out
      have hfm : min m (roomN r) ≤ m := Nat.min_le_left _ _
      generalize min m (roomN r) = fit at hP hmin hfm
      have HB1 := Lib.hid hb1
      clear hB hb1 HM HN
      go_wp2_with fail
      refine hP.mono ?_
      rintro e w2 ⟨rfl, T2, l2, D2, hB2, hpl, ho, hd2, -⟩
      have hl2 : l2.length = fit := by
        have := congrArg List.length hpl
        simp only [List.length_map, List.length_append, List.length_nil, List.length_take, HLS.out] at this
        omega
      have hle := len_any hB2
      have hlo := lost_any hB2
      rw [hl2] at hle
      have hsub : ((m - fit : Nat) : Int) = (m : Int) - (fit : Int) := by omega
      rw [hsub] at hlo
      have HS0 : Hid (RoomS w w.heap.size (roomN r) (m - fit) (ls.take fit) w2) := ⟨T2, l2, D2, hB2, by simpa using hpl, HB1.out.trans (ho.below (fun k hk => by omega) HB1.out.size)⟩
      clear hB2 hpl ho hd2 hl2 hP hsub HB1
      go_wp2_with (first | (go_at_call 12; refine hle.mono ?_; rintro e w' ⟨rfl, rfl⟩) | (go_at_call 13; refine hlo.mono ?_; rintro e w' ⟨rfl, rfl⟩))
      clear hle hlo hmin
      go_loopw [8, 9, 10] (fun s8 _ _ wq => ∃ k : Nat, k ≤ fit ∧ s8 = .int .i64 k ∧ RoomS w w.heap.size (roomN r) (m - fit) ((ls.take fit).drop k) wq) (fun s8 _ _ _ => fit - (intOf s8).toNat)
      case atStart => exact ⟨0, Nat.zero_le _, rfl, by rw [List.drop_zero]; exact HS0.out⟩
      case round =>
        clear HS0
        obtain ⟨k, hk, rfl, T3, l3, D3, hB3, hpl3, hb3⟩ := hrel
        by_cases hlt : k < fit
        · have hk1 : k < vs.length := by rw [HL.out]; omega
          have hk2 : k < ls.length := by rw [HLS.out]; omega
          have hkt : k < (ls.take fit).length := by rw [List.length_take, HLS.out]; omega
          have hdr : (ls.take fit).drop k = ls[k] :: (ls.take fit).drop (k + 1) := by
            rw [List.drop_eq_getElem_cons hkt, List.getElem_take]
          rw [hdr, List.map_cons] at hpl3
          obtain ⟨x, l4, rfl⟩ : ∃ x l4, l3 = x :: l4 := by
            cases l3 with
            | nil => simp at hpl3
            | cons x l4 => exact ⟨x, l4, rfl⟩
          rw [List.map_cons] at hpl3
          injection hpl3 with hx hpl4
          have hxb : x.b = ls[k] := congrArg Prod.fst hx
          have hT := take_any hB3 0 (by simp)
          simp only [List.getElem_cons_zero, List.eraseIdx_cons_zero, hxb] at hT
          obtain ⟨Ar, nr, cr, hvr, hlr, _, _, hLr⟩ := HR.out.2 k hk1 hk2
          obtain ⟨bb, off, rfl, hbb, hcell⟩ := HA.out.at_ (List.getElem?_eq_getElem hk1)
          rw [hvr] at hcell
          have HPL := Lib.hid hpl4
          have HB3 := Lib.hid hb3
          have HD3 : Hid (∀ k, D3 k → w.heap.size ≤ k) := fun k hk => (hB3.din k hk).1
          have HCE := Lib.hid hcell
          have HLR := Lib.hid hLr
          have HLN := Lib.hid hlr
          generalize ls[k] = bs at hT HLR HLN
          clear hB3 hpl4 hb3 hx hxb hdr hkt hcell hLr hlr hvr
          go_wp2_with fail
          refine hT.mono ?_
          rintro e w5 ⟨A5, n5, c5, T5, rfl, hn5, -, -, ho5, hB5, hE5⟩
          obtain rfl : nr = n5 := HLN.out.symm.trans hn5.out
          have hb5 : Below w.heap.size w w5 := HB3.out.trans (hE5.below HD3.out HB3.out.size)
          have s1 : ∀ p : Later w5, (convert 30 9 (.slice A5 nr c5)).run Try.prog p.w = .ok (.string (str bs)) p.w := fun p => strs_of HLN.out ((Lies.of_own ho5).below p.hb) c5
          have s2 : ∀ p : Later w5, (convert 30 9 (.slice Ar nr cr)).run Try.prog p.w = .ok (.string (str bs)) p.w := fun p => strs_of HLN.out ((HLR.out.below hb5).below (p.hb.mono hb5.size)) cr
          have x0 := later_cell (w0 := w5) (b := bb) (Nat.lt_of_lt_of_le hbb hb5.size) ((hb5.cell (p := ⟨bb, off + k, none⟩) hbb).trans HCE.out)
          have HB5 := Lib.hid hB5
          have HBB := Lib.hid hb5
          clear hT ho5 hB5 hE5 hb5 HLR HCE HB3 HD3
          go_wp2_with fail
          refine wp_region_later mixed (by kernel_rfl) ?_
          repeat (go_big_quiet_step (fail))
          refine wpQuiet_nil ?_
          intro _ hw'
          obtain ⟨p, rfl⟩ := hw'
          go_wp2
          go_roundw
          case rel => exact ⟨k + 1, by omega, by go_num, T5, l4, D3, HB5.out.on p.hb, HPL.out, HBB.out.trans (p.hb.mono HBB.out.size)⟩
          case measure => simp [intOf]; omega
        · obtain rfl : k = fit := by omega
          have hl0 : l3 = [] := by
            have := congrArg List.length hpl3
            simp only [List.length_map, List.length_drop, List.length_take] at this
            exact List.eq_nil_of_length_eq_zero (by omega)
          subst hl0
          have hle := len_any hB3
          simp only [List.length_nil, Int.natCast_zero] at hle
          have HB3 := Lib.hid hb3
          clear hB3 hpl3 hb3
          go_wp2_with (first | (go_at_call 12; refine hle.mono ?_; rintro e w' ⟨rfl, rfl⟩) | (go_at_call 8; refine (awake_any _).mono ?_; rintro e w9 ⟨rfl, hb9⟩))
          go_ret
          exact ⟨rfl, HB3.out.trans (hb9.mono HB3.out.size)⟩

theorem bagRoom_many (A : Option Addr) (n c : Nat) (r : Int) (w : World) (hn : 100 < n) :
    Calls Try.prog 5 #[.int .i64 r, .slice A n c] w fun e w' => e = .returned (.bool true) ∧ Below w.heap.size w w' := by
  have hd : decide (100 < (n : Int)) = true := by simp; omega
  go_enter Try.func5, Try.ntmps5
  go_wp2_with (go_at_call 8; refine (awake_any _).mono ?_; rintro e w' ⟨rfl, hb⟩)
  go_ret
  exact ⟨rfl, hb⟩

theorem own : ownKnob Try.prog.godebug = none := by kernel_rfl
theorem laidOut : laidOutB Try.prog = true := by kernel_rfl

set_option maxRecDepth 100000 in
theorem bagRoom_lifted (os : Os) (started : os.Started) (H : Type) (enc : TypeId × Value → H) :
    ReturnsInHanded {} Try.checked os 5 .any (Rows.bagRoomSpec.pre6 enc Try.prog Try.f5 Rows.bagRoomRow.domain false) (Rows.bagRoomSpec.post enc Try.prog Try.f5 false true false false) := by
  refine returnsInHanded_of_change (C := Try.checked) own started (by kernel_rfl) Try.func5
    (ChangeSpec.witness6 (enc := enc) (C := Try.checked) false ⟨#[], #[.int .i64 0, .slice none 0 0], []⟩ 8 (by kernel_rfl) (by kernel_rfl) (by kernel_rfl) (by kernel_rfl)) ?_
  intro W base args ds gs before hval0 hW _ _
  have hval : ∀ (j : Nat) t v, Try.f5.params[j]? = some t → args[j]? = some v → Value.okWide Try.prog W .any base t v := hval0
  have hW' := hW
  obtain ⟨p, q, hA0, hV, rfl, _, _⟩ := hW
  have hA : DataW.TrodAll enc Try.prog W 0 (fun _ => true) true Try.f5.params.toList args.toList ds p := hA0
  rw [Try.params5] at hA hval
  obtain ⟨v0, vs0, d0, ds0, p0, q0, hargs, rfl, rfl, h0, r0⟩ := trodAll_cons hA
  obtain ⟨v1, vs1, d1, ds1, p1, q1, rfl, rfl, rfl, h1, r1⟩ := trodAll_cons r0
  obtain ⟨rfl, rfl, rfl⟩ := trodAll_nil r1
  obtain rfl : args = #[v0, v1] := by cases args; simp_all
  obtain ⟨rfl, rfl⟩ := trodVars_none hV
  have k0 := h0
  have lt0 : ∀ x ∈ p0, x.block < W.heap.size := by obtain ⟨m, hm⟩ := k0; exact DataW.trod_lt m _ _ _ hm
  have k1 := h1
  have lt1 : ∀ x ∈ p1, x.block < W.heap.size := by obtain ⟨m, hm⟩ := k1; exact DataW.trod_lt m _ _ _ hm
  obtain ⟨a0, rfl, _, _, wf0⟩ := open_int Try.underlying3 (hval 0 3 v0 rfl rfl) h0
  have hwalk : Calls Try.prog 5 #[.int .i64 a0, v1] W fun e w' => e = .returned (.bool true) ∧ Below W.heap.size W w' := by
    obtain ⟨a1, len1, cap1, rfl⟩ := okWide_slice Try.underlying47 (hval 1 47 v1 rfl rfl)
    obtain ⟨fuel, hf⟩ := h1
    obtain ⟨ls, vs, A, n, c, hv, hl, hc, hcm, hL, hR⟩ := open_byteRows Try.underlying47 (by kernel_rfl) Try.underlying30 Try.underlying5 (by kernel_rfl) (by simpa [Value.cells] using hf)
    injection hv with e1 e2 e3
    subst e1 e2 e3
    by_cases hn : 100 < len1
    · exact bagRoom_many a1 len1 cap1 a0 W hn
    · have hb := bounds_i64 wf0
      exact bagRoom_walk a1 len1 cap1 a0 vs ls W hl (by omega) hc hL hR (by omega) (by omega)
  clear hA0 hval0
  refine hwalk.mono fun e W' ⟨he, bel⟩ => ?_
  subst he
  exact ⟨_, rfl, _, _, _, [], _, [], hW', trodAll_mk1 (shut_bool Try.underlying4 _), (trodAll_cons_mk (Below.trod laidOut (by kernel_rfl) (of_decide_eq_true (by kernel_rfl)) k0 bel lt0) (trodAll_cons_mk (Below.trod laidOut (by kernel_rfl) (of_decide_eq_true (by kernel_rfl)) k1 bel lt1) trodAll_mk0)), rfl, bel.frame _, fun h => by cases h⟩

theorem bagRoom_proved : Rows.BagRoomSaid :=
  OpenClaim.holds_of_wide 5 Try.f5 rfl rfl rfl rfl rfl rfl rfl ⟨rfl, rfl, rfl, rfl, rfl⟩ rfl rfl rfl rfl rfl (by kernel_rfl) Try.func5 (by kernel_rfl)
    (of_decide_eq_true (by kernel_rfl)) (by unfold Func.isWrapper; first | (rw [if_pos (by decide +kernel)]; kernel_rfl) | (rw [if_neg (by decide +kernel)]; exact ⟨rfl, rfl⟩))
    (fun os started H enc _ => bagRoom_lifted os started H enc)

end Go.Proofs.Ytjecphjdmjoeiaa
