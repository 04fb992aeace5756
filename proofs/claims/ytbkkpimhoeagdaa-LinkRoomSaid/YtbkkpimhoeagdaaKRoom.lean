/- LinkRoom: for every width, every span and every list of picks the call returns true (never do more chunks wait than a link is wide, and none that wait is told out of order, whatever is acknowledged), and changes nothing that was there. No conditions. -/
import Derived.Test.YtbkkpimhoeagdaaLkK
import Derived.ChangeOld
namespace Go.Proofs.Ytbkkpimhoeagdaa
open Go.ChangeShapes Go.WideShapes Go.ChangeAt Go.RowKit

set_option maxRecDepth 20000 in
set_option maxHeartbeats 3200000 in
theorem linkRoom_walk (r again : Int) (A : Option Addr) (n c : Nat) (l : List Pk) (w : World) (hl : l.length = n) (hn : n ≤ 100) (hA : Lies w w.heap.size A (flat encPk l)) (hok : ∀ x ∈ l, PkOk x) (h1 : -9223372036854775808 ≤ r) (h2 : r ≤ 9223372036854775807) (h3 : -9223372036854775808 ≤ again) (h4 : again ≤ 9223372036854775807) :
    Calls Try.prog 8 #[.int .i64 r, .int .i64 again, .slice A n c] w fun e w' => e = .returned (.bool true) ∧ Below w.heap.size w w' := by
  have hd : decide (100 < (n : Int)) = false := by simp; omega
  have HL := Lib.hid hl
  have HA := Lib.hid hA
  have HOK := Lib.hid hok
  have hN := link_new 0 1 r again w w.heap.size (fun _ => False) (Nat.le_refl _) (fun _ h => h.elim) h1 h2 h3 h4 (by decide) (by decide)
  have hm : max 1 (min r 64) = (widthN r : Int) := by unfold widthN; omega
  have hw64 : widthN r ≤ 64 := by unfold widthN; omega
  have HR : Hid ((newLs 0 1 r again).Rm (widthN r) 0) := rm_new r again
  generalize widthN r = wd at hm hw64 HR
  clear hl hA hok h1 h2 h3 h4
  go_enter Try.func8, Try.ntmps8
  go_wp2_with fail
  refine hN.mono ?_
  rintro e w1 ⟨p, pw, pg, rfl, hL, hb1, -, -, -⟩
  have HI : Hid (RmAt w p pw pg wd 0 w1) := ⟨_, _, _, _, hL, HR.out, hb1⟩
  clear hN hL hb1 HR
  go_wp2_with fail
  clear hm
  go_loopw [9, 10, 11, 12] (fun i _ _ _ wr => ∃ k : Nat, k ≤ n ∧ i = .int .i64 k ∧ RmAt w p pw pg wd (255 * k) wr) (fun i _ _ _ _ => n - (intOf i).toNat)
  case atStart => exact ⟨0, Nat.zero_le _, rfl, HI.out⟩
  case round =>
    clear HI
    obtain ⟨k, hk, rfl, hR⟩ := hrel
    by_cases hlt : k < n
    · have hkl : k < l.length := by rw [HL.out]; exact hlt
      obtain ⟨b, off, rfl, hbw, hc⟩ := pick_at HA.out hkl
      have hx := HOK.out l[k] (List.getElem_mem hkl)
      generalize l[k] = x at hc hx
      obtain ⟨sn, z, st, bk, ak⟩ := x
      obtain ⟨hx1, hx2, hx3⟩ := hx
      have g0 : w.cell? ⟨b, off + k * 5, none⟩ = some (.int .u8 (sn : Int)) := hc 0 _ rfl
      have g1 : w.cell? ⟨b, off + k * 5 + 1, none⟩ = some (.int .i64 z) := hc 1 _ rfl
      have g3 : w.cell? ⟨b, off + k * 5 + 3, none⟩ = some (.bool bk) := hc 3 _ rfl
      have HG0 : Hid (∀ V, Below w.heap.size w V → V.cell? ⟨b, off + k * 5, none⟩ = some (.int .u8 (sn : Int))) := fun V hV => (hV.cell (p := ⟨b, off + k * 5, none⟩) hbw).trans g0
      have HG1 : Hid (∀ V, Below w.heap.size w V → V.cell? ⟨b, off + k * 5 + 1, none⟩ = some (.int .i64 z)) := fun V hV => (hV.cell (p := ⟨b, off + k * 5 + 1, none⟩) hbw).trans g1
      have HG3 : Hid (∀ V, Below w.heap.size w V → V.cell? ⟨b, off + k * 5 + 3, none⟩ = some (.bool bk)) := fun V hV => (hV.cell (p := ⟨b, off + k * 5 + 3, none⟩) hbw).trans g3
      have hs : sn ≤ 255 := by have : sn < 256 := hx1; omega
      have hz1 : -9223372036854775808 ≤ z := hx2
      have hz2 : z ≤ 9223372036854775807 := hx3
      have HRR := Lib.hid hR
      clear hc hkl hbw g0 g1 g3 hx1 hx2 hx3 hR
      go_wp2_with fail
      go_loopw [10] (fun j wr => ∃ q : Nat, q ≤ sn ∧ j = .int .u8 q ∧ RmAt w p pw pg wd (255 * k + q) wr) (fun j _ => sn - (intOf j).toNat)
      case atStart => exact ⟨0, Nat.zero_le _, rfl, HRR.out⟩
      case round =>
        clear HRR
        obtain ⟨q, hq, rfl, T, l1, s, D, hL, hI, hb⟩ := hrel
        have y0 := HG0.out wr hb
        by_cases hqs : q < sn
        · have HL1 := Lib.hid hL
          have HI1 := Lib.hid hI
          have HB1 := Lib.hid hb
          clear hL hI hb
          go_wp2_with fail
          refine (lsend_new HL1.out q _ rfl (by omega) (by have := HI1.out.last; omega)).mono ?_
          rintro e w2 ⟨rfl, ht⟩
          have HN : Hid (RmAt w p pw pg wd (255 * k + q + 1) w2) := RmAt.of HL1.out HB1.out ht (HI1.out.send _) (by omega)
          clear ht y0
          go_wp2
          go_roundw
          case rel => exact ⟨q + 1, by omega, by go_num, HN.out⟩
          case measure => simp [intOf]; omega
        · obtain rfl : q = sn := by omega
          have HL1 := Lib.hid hL
          have HI1 := Lib.hid hI
          have HB1 := Lib.hid hb
          clear hL hI hb hqs
          go_wp2_with fail
          refine (lout_any HL1.out (k : Int)).mono ?_
          rintro e w2 ⟨A2, n2, c2, rfl, hn2, hO2, hI2⟩
          obtain ⟨d, hd2⟩ := HI1.out.outF (k : Int)
          rw [hd2] at hn2 hO2
          have HL2 := Lib.hid hI2.1
          have HI2 : Hid ((s.outS (k : Int)).Rm wd (255 * k + q)) := HI1.out.outS k
          have HB2 : Hid (Below w.heap.size w w2) := HB1.out.trans (HL1.out.below hI2.2)
          have hlen : s.fs.length ≤ wd := by have := HL1.out.fit; rwa [HI1.out.width] at this
          have hn3 : n2 ≤ s.fs.length := by have := hn2.out; rw [List.length_drop] at this; omega
          have HSQ : Hid (∀ j, j < n2 → ∃ g, A2 = some ⟨g, 0, none⟩ ∧ ∀ V, Below w2.heap.size w2 V → V.cell? ⟨g, j * 16 + 5, none⟩ = some (.int .u64 ((firstN s.last s.fs.length + d + j : Nat) : Int))) := fun j hj => by
            have h1 := hn2.out
            have h2 := h1
            rw [List.length_drop] at h2
            obtain ⟨g, y, rfl, hy, -, -, hg, hr⟩ := hO2.at_ j (by omega)
            refine ⟨g, rfl, fun V hV => (hV.cell (p := ⟨g, j * 16 + 5, none⟩) hg).trans ?_⟩
            rw [range_seq hr, hy, List.getElem_drop, HL1.out.seqAt (by omega), Nat.add_assoc]
          have HFL : Hid (firstN s.last s.fs.length + s.fs.length ≤ 100000) := by show _ ≤ _; have := HI1.out.last; have := HL1.out.fit2; unfold firstN; omega
          have HWT := Lib.hid (lwaits_any HL2.out)
          have HRM := Lib.hid (lroom_any HL2.out)
          have hfw : (s.outS (k : Int)).fs = s.fs := rfl
          have hww : (s.outS (k : Int)).width = wd := HI2.out.width
          rw [hfw] at HWT HRM
          rw [hww, show ((wd - s.fs.length : Nat) : Int) = (wd : Int) - (s.fs.length : Int) by omega] at HRM
          have y0 := HG0.out w2 HB2.out
          have hfd : firstN s.last s.fs.length + d ≤ 200000 ∨ n2 = 0 := by
            have h1 := hn2.out
            rw [List.length_drop] at h1
            have := HFL.out
            omega
          clear hO2 hI2 hd2 hn2 y0 hfw hww HFL
          generalize firstN s.last s.fs.length + d = fd at HSQ hfd
          generalize hmm : s.fs.length = m at hlen hn3 HWT HRM
          have HMM : Hid ((s.outS (k : Int)).fs.length = m) := hmm
          clear hmm
          have d1 : decide (wd < n2) = false := by simp; omega
          have d2 : decide (wd < m) = false := by simp; omega
          go_wp2_with fail
          refine HWT.out.mono ?_
          rintro e w3 ⟨rfl, rfl⟩
          go_wp2_with fail
          refine HRM.out.mono ?_
          rintro e w4 ⟨rfl, hb4⟩
          have hw4 := lwaits_any (HL2.out.on hb4)
          rw [HMM.out] at hw4
          have HB4 := Lib.hid hb4
          clear hb4
          go_wp2_with fail
          refine hw4.mono ?_
          rintro e w5 ⟨rfl, rfl⟩
          clear hw4 d1 d2
          go_wp2_with fail
          go_loopw [12] (fun v wr => ∃ q : Nat, v = .int .i64 (q : Int) ∧ 1 ≤ q ∧ q ≤ n2 + 1 ∧ Below w3.heap.size w3 wr) (fun v _ => n2 + 1 - (intOf v).toNat)
          case atStart => exact ⟨1, rfl, Nat.le_refl _, by omega, HB4.out⟩
          case round =>
            obtain ⟨q2, rfl, hq1, hq2, hbj⟩ := hrel
            by_cases hjn : q2 < n2
            · obtain ⟨j, rfl⟩ : ∃ j, q2 = j + 1 := ⟨q2 - 1, by omega⟩
              obtain ⟨g, rfl, e1⟩ := HSQ.out j (by omega)
              obtain ⟨g', e, e2⟩ := HSQ.out (j + 1) hjn
              injection e with e
              injection e with e
              subst e
              have y1 := e1 _ hbj
              have y2 := e2 _ hbj
              have HBJ := Lib.hid hbj
              have hf2 : fd + j ≤ 300000 := by omega
              have hj2 : j < n2 := by omega
              rw [show fd + (j + 1) = fd + j + 1 from rfl] at y2
              generalize hfj : fd + j = fj at y1 y2 hf2
              clear hfj
              generalize hjj : j + 1 = jj at y2 hjn
              have hsub : (jj : Int) - 1 = (j : Int) := by omega
              have HJJ := Lib.hid hjj
              clear e1 e2 hbj hfd hjj hq1 hq2
              go_upto_region 18 with fail
              go_quiet (fail)
              have HBQ : Hid (Below w3.heap.size w3 (wr.drewN nq)) := HBJ.out.trans (Below.mono (show Below wr.heap.size wr (wr.drewN nq) from ⟨rfl, rfl, rfl, Nat.le_refl _, fun _ _ => rfl⟩) HBJ.out.size)
              generalize wr.drewN nq = wq at HBQ ⊢
              go_wp2
              go_roundw
              case rel => exact ⟨jj + 1, by go_num, by omega, by omega, HBQ.out⟩
              case measure => simp [intOf]; omega
            · have HLJ := Lib.hid (HL2.out.on hbj)
              have HBJ : Hid (Below w.heap.size w wr) := HB2.out.trans (hbj.mono HB2.out.size)
              have y1 := HG1.out wr HBJ.out
              have y3 := HG3.out wr HBJ.out
              clear hbj hfd hlen hn3
              cases bk
              · go_wp2
                go_roundw
                case rel => exact ⟨k + 1, by omega, by go_num, _, _, _, _, HLJ.out, HI2.out.mono (by omega), HBJ.out⟩
                case measure => simp [intOf]; omega
              · by_cases hz : 0 ≤ z
                · obtain ⟨zz, rfl⟩ : ∃ zz : Nat, z = (zz : Int) := ⟨z.toNat, by omega⟩
                  go_wp2_with fail
                  refine (lcome_ak HLJ.out HI2.out zz (by omega)).mono ?_
                  rintro e w7 ⟨⟨v, rfl⟩, ht⟩
                  have HN : Hid (RmAt w p pw pg wd (255 * (k + 1)) w7) := RmAt.of HLJ.out HBJ.out ht (HI2.out.come zz) (by omega)
                  clear ht y1 y3
                  go_wp2
                  go_roundw
                  case rel => exact ⟨k + 1, by omega, by go_num, HN.out⟩
                  case measure => simp [intOf]; omega
                · go_wp2
                  go_roundw
                  case rel => exact ⟨k + 1, by omega, by go_num, _, _, _, _, HLJ.out, HI2.out.mono (by omega), HBJ.out⟩
                  case measure => simp [intOf]; omega
    · obtain rfl : k = n := by omega
      obtain ⟨T, l1, s, D, hL, hI, hb⟩ := hR
      have HB := Lib.hid hb
      clear hL hI hb hlt
      go_wp2_with (go_at_call 9; refine (awake_any _).mono ?_; rintro e w' ⟨rfl, hb'⟩)
      go_ret
      exact ⟨rfl, HB.out.trans (hb'.mono HB.out.size)⟩

theorem linkRoom_many (r again : Value) (A : Option Addr) (n c : Nat) (w : World) (hn : 100 < n) :
    Calls Try.prog 8 #[r, again, .slice A n c] w fun e w' => e = .returned (.bool true) ∧ Below w.heap.size w w' := by
  have hd : decide (100 < (n : Int)) = true := by simp; omega
  go_enter Try.func8, Try.ntmps8
  go_wp2_with (go_at_call 9; refine (awake_any _).mono ?_; rintro e w' ⟨rfl, hb⟩)
  go_ret
  exact ⟨rfl, hb⟩

theorem own : ownKnob Try.prog.godebug = none := by kernel_rfl
theorem laidOut : laidOutB Try.prog = true := by kernel_rfl

set_option maxRecDepth 100000 in
theorem linkRoom_lifted (os : Os) (started : os.Started) (H : Type) (enc : TypeId × Value → H) :
    ReturnsInHanded {} Try.checked os 8 .any (Rows.linkRoomSpec.pre6 enc Try.prog Try.f8 Rows.linkRoomRow.domain false) (Rows.linkRoomSpec.post enc Try.prog Try.f8 false true false false) := by
  refine returnsInHanded_of_change (C := Try.checked) own started (by kernel_rfl) Try.func8
    (ChangeSpec.witness6 (enc := enc) (C := Try.checked) false ⟨#[], #[.int .i64 0, .int .i64 0, .slice none 0 0], []⟩ 8 (by kernel_rfl) (by kernel_rfl) (by kernel_rfl) (by kernel_rfl)) ?_
  intro W base args ds gs before hval0 hW _ _
  have hval : ∀ (j : Nat) t v, Try.f8.params[j]? = some t → args[j]? = some v → Value.okWide Try.prog W .any base t v := hval0
  have hW' := hW
  obtain ⟨p, q, hA0, hV, rfl, _, _⟩ := hW
  have hA : DataW.TrodAll enc Try.prog W 0 (fun _ => true) true Try.f8.params.toList args.toList ds p := hA0
  rw [Try.params8] at hA hval
  obtain ⟨v0, vs0, d0, ds0, p0, q0, hargs, rfl, rfl, h0, r0⟩ := trodAll_cons hA
  obtain ⟨v1, vs1, d1, ds1, p1, q1, rfl, rfl, rfl, h1, r1⟩ := trodAll_cons r0
  obtain ⟨v2, vs2, d2, ds2, p2, q2, rfl, rfl, rfl, h2, r2⟩ := trodAll_cons r1
  obtain ⟨rfl, rfl, rfl⟩ := trodAll_nil r2
  obtain rfl : args = #[v0, v1, v2] := by cases args; simp_all
  obtain ⟨rfl, rfl⟩ := trodVars_none hV
  have k0 := h0
  have lt0 : ∀ x ∈ p0, x.block < W.heap.size := by obtain ⟨m, hm⟩ := k0; exact DataW.trod_lt m _ _ _ hm
  have k1 := h1
  have lt1 : ∀ x ∈ p1, x.block < W.heap.size := by obtain ⟨m, hm⟩ := k1; exact DataW.trod_lt m _ _ _ hm
  have k2 := h2
  have lt2 : ∀ x ∈ p2, x.block < W.heap.size := by obtain ⟨m, hm⟩ := k2; exact DataW.trod_lt m _ _ _ hm
  obtain ⟨a0, rfl, _, _, wf0⟩ := open_int Try.underlying3 (hval 0 3 v0 rfl rfl) h0
  obtain ⟨a1, rfl, _, _, wf1⟩ := open_int Try.underlying2 (hval 1 2 v1 rfl rfl) h1
  have hwalk : Calls Try.prog 8 #[.int .i64 a0, .int .i64 a1, v2] W fun e w' => e = .returned (.bool true) ∧ Below W.heap.size W w' := by
    obtain ⟨x2, len2, cap2, rfl⟩ := okWide_slice Try.underlying63 (hval 2 63 v2 rfl rfl)
    obtain ⟨fuel2, hf2⟩ := h2
    obtain ⟨l, A, n, c, hv, hl, hc, hcm, hL, hok⟩ := open_picks (by simpa [Value.cells] using hf2)
    injection hv with e1 e2 e3
    subst e1 e2 e3
    by_cases hn : 100 < len2
    · exact linkRoom_many _ _ x2 len2 cap2 W hn
    · have b0 := bounds_i64 wf0
      have b1 := bounds_i64 wf1
      exact linkRoom_walk a0 a1 x2 len2 cap2 l W hl (by omega) hL hok (by omega) (by omega) (by omega) (by omega)
  clear hA0 hval0
  refine hwalk.mono fun e W' ⟨he, bel⟩ => ?_
  subst he
  exact ⟨_, rfl, _, _, _, [], _, [], hW', trodAll_mk1 (shut_bool Try.underlying4 _), (trodAll_cons_mk (Below.trod laidOut (by kernel_rfl) (of_decide_eq_true (by kernel_rfl)) k0 bel lt0) (trodAll_cons_mk (Below.trod laidOut (by kernel_rfl) (of_decide_eq_true (by kernel_rfl)) k1 bel lt1) (trodAll_cons_mk (Below.trod laidOut (by kernel_rfl) (of_decide_eq_true (by kernel_rfl)) k2 bel lt2) trodAll_mk0))), rfl, bel.frame _, fun h => by cases h⟩

theorem linkRoom_proved : Rows.LinkRoomSaid :=
  OpenClaim.holds_of_wide 8 Try.f8 rfl rfl rfl rfl rfl rfl rfl ⟨rfl, rfl, rfl, rfl, rfl⟩ rfl rfl rfl rfl rfl (by kernel_rfl) Try.func8 (by kernel_rfl)
    (of_decide_eq_true (by kernel_rfl)) (by unfold Func.isWrapper; first | (rw [if_pos (by decide +kernel)]; kernel_rfl) | (rw [if_neg (by decide +kernel)]; exact ⟨rfl, rfl⟩))
    (fun os started H enc _ => linkRoom_lifted os started H enc)

end Go.Proofs.Ytbkkpimhoeagdaa
