/- GatherRoom: for every chunk's size, every most, every room and every row of frames the call returns true (no more bytes are used than there is room, and a chunk of the id that is wanted is never lost), and changes nothing that was there. No conditions. -/
import Derived.Test.YthkongnjokmmfaaGaR
import Derived.ChangeOld
namespace Go.Proofs.Ythkongnjokmmfaa
open Go.ChangeShapes Go.WideShapes Go.ChangeAt Go.RowKit

set_option maxRecDepth 100000 in
set_option maxHeartbeats 6400000 in
theorem gatherRoom_walk (c m r : Int) (hr : r ≤ 9223372036854775807) (A : Option Addr) (n cc : Nat) (l : List Pf) (w : World) (hl : l.length = n) (hL : Lies w w.heap.size A (flat encPf l)) (hO : ∀ x ∈ l, PfOk w w.heap.size x) (hn : n ≤ 100) : Calls Try.prog 4 #[.int .i64 c, .int .i64 m, .int .i64 r, .slice A n cc] w fun e w' => e = .returned (.bool true) ∧ RowKit.Below w.heap.size w w' := by
  have HL := Lib.hid hl
  have HLI := Lib.hid hL
  have HOK := Lib.hid hO
  have e3 : max r (max 0 (min m 1048576)) = (((newG c m r).room : Nat) : Int) := by show _ = (((max r (max 0 (min m 1048576))).toNat : Nat) : Int); omega
  have HE3 := Lib.hid e3
  have HN : Hid (Calls Try.prog 8 #[.int .i64 c, .int .i64 m, .int .i64 r] w fun e w' => e = .returned (.pointer (some ⟨w.heap.size, 0, none⟩)) ∧ RoomS w (newG c m r).room 0 (newG c m r).wanted w') := by
    refine (newG_any c m r hr w).mono ?_
    rintro e w' ⟨rfl, h1, h2, -⟩
    exact ⟨rfl, h2, _, _, _, _, h1, newG_ok c m r, Nat.le_refl _, rfl, rfl⟩
  generalize (newG c m r).room = cap at *
  generalize (newG c m r).wanted = wt0 at *
  clear hl hL hO e3
  go_enter Try.func4, Try.ntmps4
  go_wp2_with fail
  refine HN.out.mono ?_
  rintro e w1 ⟨rfl, hS⟩
  have HS := Lib.hid hS
  clear hS HN
  go_wp2_with fail
  rw [HE3.out]
  go_loopw [11, 12, 13, 14] (fun s11 _ _ _ wr => ∃ i : Nat, i ≤ n ∧ s11 = .int .i64 (i : Int) ∧ Hid (∃ wt, RoomS w cap i wt wr)) (fun s11 _ _ _ _ => n - (intOf s11).toNat)
  case atStart => exact ⟨0, Nat.zero_le _, rfl, ⟨_, HS.out⟩⟩
  case round =>
    obtain ⟨i, hi, rfl, HR⟩ := hrel
    obtain ⟨wt, hR⟩ := HR.out
    have HB := Lib.hid hR.1
    by_cases hlt : i < n
    · have hil : i < l.length := by rw [HL.out]; exact hlt
      obtain ⟨b, off, rfl, hbl, hrg⟩ := fr_at (HLI.out.later (hR.1.mono (Nat.le_refl _))) hil
      have hxm := List.getElem_mem hil
      obtain ⟨x, hxe⟩ : ∃ x, l[i] = x := ⟨_, rfl⟩
      rw [hxe] at hrg hxm
      have HX := Lib.hid (HOK.out x hxm)
      have HG : Hid (Calls Try.prog 13 #[.agg x.cs] wr fun e w' => e = .returned (.bool (greatB x.F)) ∧ RowKit.Below wr.heap.size wr w') := refGreat_any x.F x.cs wr ((HX.out.on HB.out).x.frl)
      have HRG : Hid (∀ V, RowKit.Below w.heap.size w V → V.rangeAt b (off + i * 16) (encPf x)) := fun V hV => by
        obtain ⟨b2, off2, e, -, h2⟩ := fr_at (HLI.out.later hV) hil
        injection e with e
        injection e with e1 e2
        subst e1 e2
        rw [hxe] at h2
        exact h2
      have hrs := HR.out
      clear hR hxm hxe hrs
      generalize hgb : greatB x.F = gb at HG
      clear hgb
      have hi2 : (i : Int) ≤ 100 := by omega
      go_wp2_with (first | (refine load_elem (.tmp 36) rfl hrg ?_) | fail)
      refine HG.out.mono ?_
      rintro e w2 ⟨rfl, hb2⟩
      have HB2 := Lib.hid (HB.out.trans (hb2.mono HB.out.size))
      have HR2 : Hid (∃ wt, RoomS w cap i wt w2) := by
        obtain ⟨wt, h⟩ := HR.out
        exact ⟨wt, h.on hb2⟩
      have hrg2 := HRG.out w2 HB2.out
      clear hrg HG HR HB hb2
      cases gb with
      | true =>
        go_wp2_with (go_at_call 6; refine (awake_any _).mono ?_; rintro e w' ⟨rfl, hb⟩)
        go_ret
        exact ⟨rfl, HB2.out.trans (hb.mono HB2.out.size)⟩
      | false =>
        have c8 : w2.cell? ⟨b, off + i * 16 + 8, none⟩ = some (.int .u32 (x.F.size : Int)) := hrg2 8 _ rfl
        by_cases hsz : 5000 < x.F.size
        · have hd : decide ((5000 : Int) < (x.F.size : Int)) = true := decide_eq_true (by omega)
          clear hrg2 hsz
          go_wp2_with (go_at_call 6; refine (awake_any _).mono ?_; rintro e w' ⟨rfl, hb⟩)
          go_ret
          exact ⟨rfl, HB2.out.trans (hb.mono HB2.out.size)⟩
        · have hd : decide ((5000 : Int) < (x.F.size : Int)) = false := decide_eq_false (by omega)
          clear hsz
          have hi1000 : i ≤ 1000 := by omega
          obtain ⟨vp, HPU⟩ : ∃ _ : Unit, Hid (∀ V wt, RoomS w cap i wt V → Calls Try.prog 10 #[.pointer (some ⟨w.heap.size, 0, none⟩), .agg x.cs] V fun e w' => ∃ vp, ∃ mk : Nat, e = .returned (.tuple #[vp, .int .u8 (mk : Int)]) ∧ mk < 256 ∧ (∃ wt', RoomS w cap (i + 1) wt' w') ∧ (wt = x.F.id → mk ≠ 3)) := ⟨(), fun V wt h => room_put h hi1000 HX.out⟩
          have c3 : w2.cell? ⟨b, off + i * 16 + 3, none⟩ = some (.int .u8 (x.F.id.f : Int)) := hrg2 3 _ rfl
          have c4 : w2.cell? ⟨b, off + i * 16 + 3 + 1, none⟩ = some (.int .u64 (x.F.id.s : Int)) := hrg2 4 _ rfl
          have HXID : Hid (∀ V wt, RoomS w cap i wt V → Calls Try.prog 14 #[.pointer (some ⟨w.heap.size, 0, none⟩), .agg #[.int .u8 (x.F.id.f : Int), .int .u64 (x.F.id.s : Int)]] V fun e w' => e = .returned (.tuple #[]) ∧ RoomS w cap i x.F.id w') := fun V wt h => room_want h x.F.id
          by_cases hpar : (i : Int) % 2 = 1
          · have hm : ((i : Int) % 2 == 1) = true := by rw [beq_iff_eq]; exact hpar
            clear hpar
            obtain ⟨wt, hR2⟩ := HR2.out
            have HW1 := Lib.hid (HXID.out w2 wt hR2)
            clear hR2 HXID HR2
            go_wp2_with fail
            refine HW1.out.mono ?_
            rintro e w3 ⟨rfl, hR3⟩
            have HP3 := Lib.hid (HPU.out w3 _ hR3)
            have hrg3 := HRG.out w3 hR3.1
            clear hR3 HW1 HPU c3 c4 c8 hrg2
            go_wp2_with (first | (refine load_elem (.tmp 63) rfl hrg3 ?_) | fail)
            refine HP3.out.mono ?_
            rintro e w4 ⟨vp4, mk, rfl, hmk, ⟨wt4, hR4⟩, hne⟩
            have hne3 : ((mk : Int) == 3) = false := beq_eq_false_iff_ne.2 (by have := hne trivial; omega)
            have HR4 : Hid (∃ wt, RoomS w cap (i + 1) wt w4) := ⟨wt4, hR4⟩
            have HU4 := Lib.hid (room_used hR4)
            clear hR4 HP3 hrg3 hne
            go_wp2_with fail
            refine HU4.out.mono ?_
            rintro e w5 ⟨u, rfl, hu, rfl⟩
            have hu1 : decide ((cap : Int) < (u : Int)) = false := decide_eq_false (by omega)
            have hu2 : decide ((u : Int) < 0) = false := decide_eq_false (by omega)
            go_wp2_with fail
            refine HU4.out.mono ?_
            rintro e w6 ⟨u6, rfl, hu6, rfl⟩
            have hu3 : decide ((u6 : Int) < 0) = false := decide_eq_false (by omega)
            clear HU4
            go_wp2
            go_roundw
            case rel => exact ⟨i + 1, by omega, by go_num, HR4⟩
            case measure => simp [intOf]; omega
          · have hm : ((i : Int) % 2 == 1) = false := beq_eq_false_iff_ne.2 hpar
            clear hpar
            obtain ⟨wt, hR2⟩ := HR2.out
            have HP3 := Lib.hid (HPU.out w2 _ hR2)
            have hrg3 := HRG.out w2 hR2.1
            clear hR2 HXID HR2 HPU c3 c4 hrg2
            go_wp2_with (first | (refine load_elem (.tmp 63) rfl hrg3 ?_) | fail)
            refine HP3.out.mono ?_
            rintro e w4 ⟨vp4, mk, rfl, hmk, ⟨wt4, hR4⟩, hne⟩
            have HR4 : Hid (∃ wt, RoomS w cap (i + 1) wt w4) := ⟨wt4, hR4⟩
            have HU4 := Lib.hid (room_used hR4)
            clear hR4 HP3 hrg3 hne
            go_wp2_with fail
            refine HU4.out.mono ?_
            rintro e w5 ⟨u, rfl, hu, rfl⟩
            have hu1 : decide ((cap : Int) < (u : Int)) = false := decide_eq_false (by omega)
            go_wp2_with fail
            refine HU4.out.mono ?_
            rintro e w6 ⟨u6, rfl, hu6, rfl⟩
            have hu3 : decide ((u6 : Int) < 0) = false := decide_eq_false (by omega)
            clear HU4
            go_wp2
            go_roundw
            case rel => exact ⟨i + 1, by omega, by go_num, HR4⟩
            case measure => simp [intOf]; omega
    · go_wp2_with (go_at_call 6; refine (awake_any _).mono ?_; rintro e w' ⟨rfl, hb⟩)
      go_ret
      exact ⟨rfl, HB.out.trans (hb.mono HB.out.size)⟩

theorem room_many (c m r : Int) (A : Option Addr) (n cc : Nat) (w : World) (hn : 100 < n) : Calls Try.prog 4 #[.int .i64 c, .int .i64 m, .int .i64 r, .slice A n cc] w fun e w' => e = .returned (.bool true) ∧ RowKit.Below w.heap.size w w' := by
  have hd : decide ((100 : Int) < (n : Int)) = true := by simp; omega
  go_enter Try.func4, Try.ntmps4
  go_wp2_with (go_at_call 6; refine (awake_any _).mono ?_; rintro e w' ⟨rfl, hb⟩)
  go_ret
  exact ⟨rfl, hb⟩

theorem own : ownKnob Try.prog.godebug = none := by kernel_rfl
theorem laidOut : laidOutB Try.prog = true := by kernel_rfl

set_option maxRecDepth 100000 in
theorem gatherRoom_lifted (os : Os) (started : os.Started) (H : Type) (enc : TypeId × Value → H) :
    ReturnsInHanded {} Try.checked os 4 .any (Rows.gatherRoomSpec.pre6 enc Try.prog Try.f4 Rows.gatherRoomRow.domain false) (Rows.gatherRoomSpec.post enc Try.prog Try.f4 false true false false) := by
  refine returnsInHanded_of_change (C := Try.checked) own started (by kernel_rfl) Try.func4
    (ChangeSpec.witness6 (enc := enc) (C := Try.checked) false ⟨#[], #[.int .i64 0, .int .i64 0, .int .i64 0, .slice none 0 0], []⟩ 8 (by kernel_rfl) (by kernel_rfl) (by kernel_rfl) (by kernel_rfl)) ?_
  intro W base args ds gs before hval0 hW _ _
  have hval : ∀ (j : Nat) t v, Try.f4.params[j]? = some t → args[j]? = some v → Value.okWide Try.prog W .any base t v := hval0
  have hW' := hW
  obtain ⟨p, q, hA0, hV, rfl, _, _⟩ := hW
  have hA : DataW.TrodAll enc Try.prog W 0 (fun _ => true) true Try.f4.params.toList args.toList ds p := hA0
  rw [Try.params4] at hA hval
  obtain ⟨v0, vs0, d0, ds0, p0, q0, hargs, rfl, rfl, h0, r0⟩ := trodAll_cons hA
  obtain ⟨v1, vs1, d1, ds1, p1, q1, rfl, rfl, rfl, h1, r1⟩ := trodAll_cons r0
  obtain ⟨v2, vs2, d2, ds2, p2, q2, rfl, rfl, rfl, h2, r2⟩ := trodAll_cons r1
  obtain ⟨v3, vs3, d3, ds3, p3, q3, rfl, rfl, rfl, h3, r3⟩ := trodAll_cons r2
  obtain ⟨rfl, rfl, rfl⟩ := trodAll_nil r3
  obtain rfl : args = #[v0, v1, v2, v3] := by cases args; simp_all
  obtain ⟨rfl, rfl⟩ := trodVars_none hV
  have k0 := h0
  have lt0 : ∀ x ∈ p0, x.block < W.heap.size := by obtain ⟨m, hm⟩ := k0; exact DataW.trod_lt m _ _ _ hm
  have k1 := h1
  have lt1 : ∀ x ∈ p1, x.block < W.heap.size := by obtain ⟨m, hm⟩ := k1; exact DataW.trod_lt m _ _ _ hm
  have k2 := h2
  have lt2 : ∀ x ∈ p2, x.block < W.heap.size := by obtain ⟨m, hm⟩ := k2; exact DataW.trod_lt m _ _ _ hm
  have k3 := h3
  have lt3 : ∀ x ∈ p3, x.block < W.heap.size := by obtain ⟨m, hm⟩ := k3; exact DataW.trod_lt m _ _ _ hm
  obtain ⟨a0, rfl, _, _, _⟩ := open_int Try.underlying3 (hval 0 3 v0 rfl rfl) h0
  obtain ⟨a1, rfl, _, _, _⟩ := open_int Try.underlying3 (hval 1 3 v1 rfl rfl) h1
  obtain ⟨a2, rfl, _, _, wf2⟩ := open_int Try.underlying3 (hval 2 3 v2 rfl rfl) h2
  have hwalk : Calls Try.prog 4 #[.int .i64 a0, .int .i64 a1, .int .i64 a2, v3] W fun e w' => e = .returned (.bool true) ∧ Below W.heap.size W w' := by
    obtain ⟨x3, len3, cap3, rfl⟩ := okWide_slice Try.underlying48 (hval 3 48 v3 rfl rfl)
    obtain ⟨fuel3, hf3⟩ := h3
    obtain ⟨l, A, n, c, hv, hl, hc, hcm, hL, hO⟩ := open_frs (by simpa [Value.cells] using hf3)
    injection hv with e1 e2 e3
    subst e1 e2 e3
    by_cases hn : 100 < len3
    · exact room_many _ _ _ _ _ _ W hn
    · have b2 := bounds_i64 wf2
      exact gatherRoom_walk a0 a1 a2 (by omega) x3 len3 cap3 l W hl hL hO (by omega)
  clear hA0 hval0
  refine hwalk.mono fun e W' ⟨he, bel⟩ => ?_
  subst he
  exact ⟨_, rfl, _, _, _, [], _, [], hW', trodAll_mk1 (shut_bool Try.underlying4 _), (trodAll_cons_mk (Below.trod laidOut (by kernel_rfl) (of_decide_eq_true (by kernel_rfl)) k0 bel lt0) (trodAll_cons_mk (Below.trod laidOut (by kernel_rfl) (of_decide_eq_true (by kernel_rfl)) k1 bel lt1) (trodAll_cons_mk (Below.trod laidOut (by kernel_rfl) (of_decide_eq_true (by kernel_rfl)) k2 bel lt2) (trodAll_cons_mk (Below.trod laidOut (by kernel_rfl) (of_decide_eq_true (by kernel_rfl)) k3 bel lt3) trodAll_mk0)))), rfl, bel.frame _, fun h => by cases h⟩

theorem gatherRoom_proved : Rows.GatherRoomSaid :=
  OpenClaim.holds_of_wide 4 Try.f4 rfl rfl rfl rfl rfl rfl rfl ⟨rfl, rfl, rfl, rfl, rfl⟩ rfl rfl rfl rfl rfl (by kernel_rfl) Try.func4 (by kernel_rfl)
    (of_decide_eq_true (by kernel_rfl)) (by unfold Func.isWrapper; first | (rw [if_pos (by decide +kernel)]; kernel_rfl) | (rw [if_neg (by decide +kernel)]; exact ⟨rfl, rfl⟩))
    (fun os started H enc _ => gatherRoom_lifted os started H enc)

end Go.Proofs.Ythkongnjokmmfaa
