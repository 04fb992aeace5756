/- StoreRises: for every number of processes, every room and every row of acts the call returns true (whatever is done, what is held never falls, nor does a floor, which is never above it; all from the floor up to it is there; and no more is used than there is room), and changes nothing that was there. No conditions. -/
import Derived.Test.YtnpdjlcekmpmoaaSoU
import Derived.ChangeOld
namespace Go.Proofs.Ytnpdjlcekmpmoaa
open Go.ChangeShapes Go.WideShapes Go.ChangeAt Go.RowKit

theorem rises_many (a r : Int) (A : Option Addr) (n c : Nat) (w : World) (hn : 100 < n) : Calls Try.prog 4 #[.int .i64 a, .int .i64 r, .slice A n c] w fun e w' => e = .returned (.bool true) ∧ Below w.heap.size w w' := by
  have hd : decide (100 < n) = true := decide_eq_true hn
  go_enter Try.func4, Try.ntmps4
  go_wp2_with (go_at_call 8; refine (awake_any _).mono ?_; rintro e w' ⟨rfl, hb⟩)
  go_ret
  exact ⟨rfl, hb⟩

set_option maxRecDepth 20000 in
set_option maxHeartbeats 12800000 in
theorem rises_few (a r : Int) (A : Option Addr) (n c : Nat) (l : List Sa) (w : World) (hr : r ≤ 9223372036854775807) (hn : n ≤ 100) (hl : l.length = n) (hL : Lies w w.heap.size A (flat encSa l)) (hok : ∀ y ∈ l, SaOk w w.heap.size y) :
    Calls Try.prog 4 #[.int .i64 a, .int .i64 r, .slice A n c] w fun e w' => e = .returned (.bool true) ∧ Below w.heap.size w w' := by
  have HLen := Lib.hid hl
  have HL := Lib.hid hL
  have HOK := Lib.hid hok
  have HM0 : Hid ((Sm.new a r).l = [] ∧ (Sm.new a r).room = r.toNat ∧ (Sm.new a r).n = inN a) := ⟨rfl, rfl, rfl⟩
  have hN := inN_le a
  have hMx : max r 0 = (r.toNat : Int) := by omega
  have hd : decide (100 < n) = false := decide_eq_false (by omega)
  have HN := Lib.hid (new_any a r hr w)
  generalize Sm.new a r = m0 at HM0 HN
  generalize inN a = N at HM0 hN
  have hrt : r.toNat ≤ 9223372036854775807 := by omega
  generalize r.toNat = rm at HM0 hMx hrt
  clear hl hL hok
  go_enter Try.func4, Try.ntmps4
  go_wp2_with fail
  refine HN.out.mono ?_
  rintro e w1 ⟨g, mb, fb, rfl, h1, hb1⟩
  have H1 := Lib.hid h1
  have HB1 := Lib.hid hb1
  clear h1 hb1 HN
  unfold sptr
  go_wp2_with fail
  refine (held_any H1.out).mono ?_
  rintro e w2 ⟨A8, n8, c8, rfl, hl8, hnc8, hcm8, ho8, hb2⟩
  obtain rfl : N = n8 := by rw [← HM0.out.2.2, ← hl8.out, Sm.held_length]
  have H2 := Lib.hid (H1.out.on hb2)
  have L8 : Hid (LiesX w2 (own3 g mb fb) A8 (uvs m0.held)) := LiesX.of_own ho8 fun k hk => (H1.out.din k hk).2
  have HB2 := Lib.hid (HB1.out.trans (hb2.mono HB1.out.size))
  clear ho8 hb2 H1 HB1
  go_wp2_with fail
  refine (floor_any H2.out).mono ?_
  rintro e w3 ⟨A9, n9, c9, rfl, hl9, hnc9, hcm9, ho9, hb3⟩
  obtain rfl : N = n9 := by rw [← HM0.out.2.2, ← hl9.out, H2.out.ok.fl]
  have R0 : Hid (RisS w g mb fb rm m0 A8 A9 0 w3) := ⟨H2.out.on hb3, L8.out.kept (OnlyE.of_below hb3), LiesX.of_own ho9 fun k hk => (H2.out.din k hk).2, HM0.out.2.1, by rw [HM0.out.1]; exact Nat.le_refl _, HB2.out.trans (hb3.mono HB2.out.size)⟩
  have HMN : Hid (m0.n = N) := HM0.out.2.2
  clear ho9 hb3 H2 HB2 L8 hl8 hl9 HM0
  go_wp2
  go_loopw [8, 9, 10] (fun s8 s9 s10 wr => ∃ i : Nat, i ≤ n ∧ s10 = .int .i64 (i : Int) ∧ ∃ m A8 c8 A9 c9, s8 = .slice A8 N c8 ∧ s9 = .slice A9 N c9 ∧ Hid (RisS w g mb fb rm m A8 A9 i wr) ∧ Hid (m.n = N)) (fun _ _ s10 _ => n - (intOf s10).toNat)
  case atStart => exact ⟨0, Nat.zero_le _, rfl, _, _, _, _, _, rfl, rfl, R0, HMN⟩
  case round =>
    obtain ⟨i, hi, rfl, m, A8, c8, A9, c9, rfl, rfl, HR, HMn⟩ := hrel
    clear R0 HMN hnc8 hnc9 hcm8 hcm9
    by_cases hlt : i < n
    · have hil : i < l.length := by rw [HLen.out]; exact hlt
      obtain ⟨bb, off, rfl, hbl, c0, c1, c2, c3, c4⟩ := acts_at HL.out hil
      have HY := Lib.hid ((HOK.out _ (List.getElem_mem hil)).on HR.out.below)
      generalize l[i] = y at c0 c1 c2 c3 c4 HY
      obtain ⟨kd, x, Ab, cb, b, Au, cu, u⟩ := y
      dsimp only at c0 c1 c2 c3 c4
      have z0 := (HR.out.below.cell (p := ⟨bb, off + i * 5, none⟩) hbl).trans c0
      have z1 := (HR.out.below.cell (p := ⟨bb, off + i * 5 + 1, none⟩) hbl).trans c1
      have z2 := (HR.out.below.cell (p := ⟨bb, off + i * 5 + 2, none⟩) hbl).trans c2
      have z3 := (HR.out.below.cell (p := ⟨bb, off + i * 5 + 3, none⟩) hbl).trans c3
      have z4 := (HR.out.below.cell (p := ⟨bb, off + i * 5 + 4, none⟩) hbl).trans c4
      clear c0 c1 c2 c3 c4 hil
      by_cases hbn : 200 < b.length
      · have hdb : decide (200 < b.length) = true := decide_eq_true hbn
        clear HY
        generalize b.length = bn at *
        go_wp2_with (go_at_call 8; refine (awake_any _).mono ?_; rintro e w' ⟨rfl, hb⟩)
        go_ret
        have hs := HR.out.below.alloc HR.out.below.size (.cells #[.int .i64 kd, .int .u8 (x.f : Int), .int .u64 (x.s : Int), .slice Ab bn cb, .slice Au u.length cu] 36)
        exact ⟨rfl, hs.trans (hb.mono hs.size)⟩
      · have hdb : decide (200 < b.length) = false := decide_eq_false hbn
        by_cases hun : 100 < u.length
        · have hdu : decide (100 < u.length) = true := decide_eq_true hun
          clear HY
          generalize u.length = un at *
          generalize b.length = bn at *
          go_wp2_with (go_at_call 8; refine (awake_any _).mono ?_; rintro e w' ⟨rfl, hb⟩)
          go_ret
          have hs := HR.out.below.alloc HR.out.below.size (.cells #[.int .i64 kd, .int .u8 (x.f : Int), .int .u64 (x.s : Int), .slice Ab bn cb, .slice Au un cu] 36)
          exact ⟨rfl, hs.trans (hb.mono hs.size)⟩
        · have hdu : decide (100 < u.length) = false := decide_eq_false hun
          obtain ⟨bn, hbl2⟩ : ∃ bn, b.length = bn := ⟨_, rfl⟩
          obtain ⟨un, hul2⟩ : ∃ un, u.length = un := ⟨_, rfl⟩
          have HBn := Lib.hid hbl2
          have HUn := Lib.hid hul2
          have HYb : Hid (bn ≤ cb ∧ cb ≤ maxLen ∧ Lies wr w.heap.size Ab (bvs b)) := ⟨by rw [← hbl2]; exact HY.out.n, HY.out.c, HY.out.l⟩
          have HYu : Hid (un ≤ cu ∧ cu ≤ maxLen ∧ Lies wr w.heap.size Au (uvs u)) := ⟨by rw [← hul2]; exact HY.out.n2, HY.out.c2, HY.out.l2⟩
          rw [hbl2] at z3 hbn hdb
          rw [hul2] at z4 hun hdu
          clear hbl2 hul2 HY
          by_cases hk0 : kd = 0
          · have hke : (kd == 0) = true := beq_iff_eq.2 hk0
            go_wp2_with fail
            generalize hW : World.alloc wr _ = W1
            have hbW : Below wr.heap.size wr W1 := hW ▸ alloc_below wr _
            have R1 := HR.out.on hbW
            have P1 := put_any R1.st x b (n := bn) (c := cb) HBn.out (by omega) (((HYb.out.2.2.more HR.out.below.size).later hbW)) (by have := HR.out.len; omega)
            refine (show Calls Try.prog 19 #[.pointer (some ⟨g, 0, none⟩), .agg #[.int .u8 (x.f : Int), .int .u64 (x.s : Int)], .slice Ab bn cb] W1 _ from P1).mono ?_
            rintro e w5 ⟨rfl, hs5, ho5⟩
            have M5 := Lib.hid (R1.act hs5 ho5 (Risen.put m x b))
            clear P1 R1 hW hbW hs5 ho5 HR HYb HYu HBn HUn z0 z1 z2 z3 z4 hdb hdu
            generalize m.put x b = m1 at M5
            generalize m.takes x b = tk
            have HM1n : Hid (m1.n = N) := M5.out.up.n.trans HMn.out
            go_wp2_with fail
            refine (held_any M5.out.st).mono ?_
            rintro e w6 ⟨A12, n12, c12, rfl, hl12, hnc12, hcm12, ho12, hb6⟩
            obtain rfl : N = n12 := by rw [← HM1n.out, ← hl12.out, Sm.held_length]
            have M6 := Lib.hid (M5.out.on hb6)
            have L12 : Hid (LiesX w6 (own3 g mb fb) A12 (uvs m1.held)) := LiesX.of_own ho12 fun k hk => (M5.out.st.din k hk).2
            clear ho12 hb6
            go_wp2_with fail
            refine (floor_any M6.out.st).mono ?_
            rintro e w7 ⟨A13, n13, c13, rfl, hl13, hnc13, hcm13, ho13, hb7⟩
            obtain rfl : N = n13 := by rw [← HM1n.out, ← hl13.out, M6.out.st.ok.fl]
            have M7 := Lib.hid (M6.out.on hb7)
            have L12b : Hid (LiesX w7 (own3 g mb fb) A12 (uvs m1.held)) := L12.out.kept (OnlyE.of_below hb7)
            have L13 : Hid (LiesX w7 (own3 g mb fb) A13 (uvs m1.fl)) := LiesX.of_own ho13 fun k hk => (M6.out.st.din k hk).2
            have hl8 : Hid (m.held.length = N) := by show _ = _; rw [Sm.held_length]; exact HMn.out
            have hl9 : Hid (m.fl.length = N) := M5.out.fl0.trans HMn.out
            clear ho13 hb7 M6 L12 M5
            go_wp2_with fail
            refine (refCovers_true (by omega) hl12.out L12b.out.lies hl8.out M7.out.lh.lies M7.out.up.held).mono ?_
            rintro e w8 ⟨rfl, hb8⟩
            have M8 := Lib.hid (M7.out.on hb8)
            have H8 := Lib.hid (L12b.out.kept (OnlyE.of_below hb8))
            have F8 := Lib.hid (L13.out.kept (OnlyE.of_below hb8))
            clear hb8 M7 L12b L13
            go_wp2_with fail
            refine (refCovers_true (by omega) hl13.out F8.out.lies hl9.out M8.out.lf.lies M8.out.up.fl).mono ?_
            rintro e w9 ⟨rfl, hb9⟩
            have M9 := Lib.hid (M8.out.on hb9)
            have H9 := Lib.hid (H8.out.kept (OnlyE.of_below hb9))
            have F9 := Lib.hid (F8.out.kept (OnlyE.of_below hb9))
            clear hb9 M8 H8 F8
            go_wp2_with fail
            refine (refCovers_true (by omega) hl12.out H9.out.lies hl13.out F9.out.lies (fun i => ?_)).mono ?_
            · by_cases hi : i < m1.n
              · rw [Sm.held_num hi]
                exact heldN_ge _ _ _
              · rw [num_out (l := m1.fl) (by rw [M9.out.st.ok.fl]; omega)]
                omega
            rintro e w10 ⟨rfl, hb10⟩
            have M10 := Lib.hid (M9.out.on hb10)
            have H10 := Lib.hid (H9.out.kept (OnlyE.of_below hb10))
            have F10 := Lib.hid (F9.out.kept (OnlyE.of_below hb10))
            have u1 := used_any M10.out.st
            have hus : useL m1.l ≤ rm := by have := M10.out.st.ok.use; rw [M10.out.rm] at this; exact this
            clear hb10 M9 H9 F9
            unfold sptr at u1
            generalize useL m1.l = us at u1 hus
            have hd1 : decide (us < 0) = false := decide_eq_false (by omega)
            have hd2 : decide (rm < us) = false := decide_eq_false (by omega)
            go_wp2_with (go_at_call 12; refine u1.mono ?_; rintro e w' ⟨rfl, rfl⟩)
            clear u1 hd1 hd2 hus
            go_loopw [14] (fun s14 wk => ∃ k : Nat, k ≤ N ∧ s14 = .int .i64 (k : Int) ∧ Hid (RisM w g mb fb rm m m1 A8 A9 i wk) ∧ Hid (LiesX wk (own3 g mb fb) A12 (uvs m1.held)) ∧ Hid (LiesX wk (own3 g mb fb) A13 (uvs m1.fl))) (fun s14 _ => N - (intOf s14).toNat)
            case atStart => exact ⟨0, Nat.zero_le _, rfl, M10, H10, F10⟩
            case round =>
              obtain ⟨k, hk, rfl, M11, H11, F11⟩ := hrel
              obtain ⟨WK, rfl⟩ : ∃ V, V = wr := ⟨wr, rfl⟩
              clear M10 H10 F10
              by_cases hkl : k < N
              · have hkm : k < m1.n := by rw [HM1n.out]; exact hkl
                have hfk : k < m1.fl.length := by rw [hl13.out]; exact hkl
                have hhk : k < m1.held.length := by rw [hl12.out]; exact hkl
                obtain ⟨bf, of', rfl, hbf, cf⟩ := F11.out.lies.at_ (uvs_at hfk)
                obtain ⟨bh, oh, rfl, hbh, ch⟩ := H11.out.lies.at_ (uvs_at hhk)
                rw [← num_in hfk] at cf
                rw [← num_in hhk] at ch
                have HS : Hid (∀ j, num m1.fl k < j → j ≤ num m1.held k → hasS m1.l k j = true) := fun j h1 h2 => by
                  rw [Sm.held_num hkm] at h2
                  exact heldN_all h1 h2
                have hfh : num m1.fl k ≤ num m1.held k := by rw [Sm.held_num hkm]; exact heldN_ge _ _ _
                have hht : num m1.held k < 9223372036854775807 := by
                  rw [Sm.held_num hkm]
                  have := M11.out.st.ok.held_le k
                  unfold MaxS at this
                  omega
                generalize num m1.fl k = fv at cf HS hfh
                generalize num m1.held k = hv at ch HS hfh hht
                have hK256 : (k : Int) % 256 = (k : Int) := by omega
                clear hfk hhk hkm
                go_wp2
                go_loopw [15] (fun s15 wj => ∃ j : Nat, fv + 1 ≤ j ∧ j ≤ hv + 1 ∧ s15 = .int .u64 (j : Int) ∧ Hid (Below WK.heap.size WK wj)) (fun s15 _ => hv + 1 - (intOf s15).toNat)
                case atStart => exact ⟨fv + 1, Nat.le_refl _, by omega, rfl, Below.refl _ _⟩
                case round =>
                  obtain ⟨j, hj1, hj2, rfl, hbj⟩ := hrel
                  have df := (hbj.out.cell (p := ⟨bf, of' + k, none⟩) hbf).trans cf
                  have dh := (hbj.out.cell (p := ⟨bh, oh + k, none⟩) hbh).trans ch
                  have MJ := Lib.hid (M11.out.on hbj.out)
                  have HJ := Lib.hid (H11.out.kept (OnlyE.of_below hbj.out))
                  have FJ := Lib.hid (F11.out.kept (OnlyE.of_below hbj.out))
                  have hsub : (j : Int) - (fv : Int) = ((j - fv : Nat) : Int) := by omega
                  have hd64 : j - fv < 9223372036854775808 := by omega
                  obtain ⟨d, hde⟩ : ∃ d, j - fv = d := ⟨_, rfl⟩
                  rw [hde] at hsub hd64
                  clear hde
                  by_cases hjh : j ≤ hv
                  · have hdj : decide (j ≤ hv) = true := decide_eq_true hjh
                    by_cases h100 : d ≤ 100
                    · have hdd : decide (d ≤ 100) = true := decide_eq_true h100
                      have hks : k < 256 := by omega
                      have hjs : j < 18446744073709551616 := by omega
                      have P1 := has_any (MJ.out.st.on (alloc_below wr (.cells #[.int .u8 (k : Int), .int .u64 (j : Int)] 33))) (some ⟨wr.heap.size, 0, none⟩) 1 1 [⟨k, j, hks, hjs⟩] rfl (by omega) (ids_lit wr k j hks hjs)
                      have he : ([⟨k, j, hks, hjs⟩] : List Id).all (hasL m1.l) = true := by
                        have := HS.out j (by omega) hjh
                        simp only [List.all_cons, List.all_nil, Bool.and_true]
                        exact this
                      rw [he] at P1
                      unfold sptr at P1
                      have hj64 : j + 1 < 9223372036854775809 := by omega
                      clear he
                      go_wp2_with fail
                      refine P1.mono ?_
                      rintro e w12 ⟨rfl, hb12⟩
                      have hbn2 : Hid (Below WK.heap.size WK w12) := (hbj.out.trans ((alloc_below wr _).mono hbj.out.size)).trans (hb12.mono (by have := hbj.out.size; simp; omega))
                      clear P1 hb12 MJ HJ FJ hbj df dh
                      go_wp2
                      go_roundw
                      case rel => exact ⟨j + 1, by omega, by omega, by go_num, hbn2⟩
                      case measure => simp [intOf]; omega
                    · have hdd : decide (d ≤ 100) = false := decide_eq_false h100
                      clear hbj
                      go_wp2
                      go_roundw
                      case rel => exact ⟨k + 1, by omega, by go_num, MJ, HJ, FJ⟩
                      case measure => simp [intOf]; omega
                  · have hdj : decide (j ≤ hv) = false := decide_eq_false hjh
                    clear hbj hsub
                    go_wp2
                    go_roundw
                    case rel => exact ⟨k + 1, by omega, by go_num, MJ, HJ, FJ⟩
                    case measure => simp [intOf]; omega
              · have RS : Hid (RisS w g mb fb rm m1 A12 A13 (i + 1) WK) := ⟨M11.out.st, H11.out, F11.out, M11.out.rm, M11.out.len, M11.out.below⟩
                clear M11 H11 F11
                go_wp2
                go_roundw
                case rel => exact ⟨i + 1, by omega, by go_num, m1, A12, c12, A13, c13, rfl, rfl, RS, HM1n⟩
                case measure => simp [intOf]; omega
          · have hke : (kd == 0) = false := beq_eq_false_iff_ne.2 hk0
            go_wp2_with fail
            generalize hW : World.alloc (World.alloc wr _) _ = W1
            have hbW : Below wr.heap.size wr W1 := by
              subst hW
              exact ((Below.refl _ _).alloc (Nat.le_refl _) _).alloc (by simp) _
            have R1 := HR.out.on hbW
            have hv : Vec W1 W1.heap.size (.slice Au un cu) u := ⟨Au, un, cu, rfl, HUn.out, HYu.out.1, HYu.out.2.1, (HYu.out.2.2.more HR.out.below.size).later hbW⟩
            have hA : Lies W1 W1.heap.size (some ⟨wr.heap.size + 1, 0, none⟩) [.slice Au un cu] := by
              subst hW
              have h3 := vec_new (wr.alloc (.cells #[.int .i64 kd, .int .u8 (x.f : Int), .int .u64 (x.s : Int), .slice Ab bn cb, .slice Au un cu] 36)) Au un cu
              rw [show (wr.alloc (.cells #[.int .i64 kd, .int .u8 (x.f : Int), .int .u64 (x.s : Int), .slice Ab bn cb, .slice Au un cu] 36)).heap.size = wr.heap.size + 1 from by simp] at h3
              exact h3
            have P1 := drop_any R1.st u _ 1 (.slice Au un cu) (by have := HUn.out; omega) (by omega) (by unfold maxLen; omega) hA hv (by have := HR.out.len; omega)
            refine (show Calls Try.prog 20 #[.pointer (some ⟨g, 0, none⟩), .slice (some ⟨wr.heap.size + 1, 0, none⟩) 1 1] W1 _ from P1).mono ?_
            rintro e w5 ⟨rfl, hs5, ho5⟩
            have M5 := Lib.hid (R1.act hs5 ho5 (Risen.drop m u))
            clear P1 R1 hW hbW hs5 ho5 HR HYb HYu HBn HUn z0 z1 z2 z3 z4 hdb hdu hv hA
            generalize (m.l.length - (m.drop u).l.length : Nat) = cnt
            generalize m.drop u = m1 at M5
            have HM1n : Hid (m1.n = N) := M5.out.up.n.trans HMn.out
            go_wp2_with fail
            refine (held_any M5.out.st).mono ?_
            rintro e w6 ⟨A12, n12, c12, rfl, hl12, hnc12, hcm12, ho12, hb6⟩
            obtain rfl : N = n12 := by rw [← HM1n.out, ← hl12.out, Sm.held_length]
            have M6 := Lib.hid (M5.out.on hb6)
            have L12 : Hid (LiesX w6 (own3 g mb fb) A12 (uvs m1.held)) := LiesX.of_own ho12 fun k hk => (M5.out.st.din k hk).2
            clear ho12 hb6
            go_wp2_with fail
            refine (floor_any M6.out.st).mono ?_
            rintro e w7 ⟨A13, n13, c13, rfl, hl13, hnc13, hcm13, ho13, hb7⟩
            obtain rfl : N = n13 := by rw [← HM1n.out, ← hl13.out, M6.out.st.ok.fl]
            have M7 := Lib.hid (M6.out.on hb7)
            have L12b : Hid (LiesX w7 (own3 g mb fb) A12 (uvs m1.held)) := L12.out.kept (OnlyE.of_below hb7)
            have L13 : Hid (LiesX w7 (own3 g mb fb) A13 (uvs m1.fl)) := LiesX.of_own ho13 fun k hk => (M6.out.st.din k hk).2
            have hl8 : Hid (m.held.length = N) := by show _ = _; rw [Sm.held_length]; exact HMn.out
            have hl9 : Hid (m.fl.length = N) := M5.out.fl0.trans HMn.out
            clear ho13 hb7 M6 L12 M5
            go_wp2_with fail
            refine (refCovers_true (by omega) hl12.out L12b.out.lies hl8.out M7.out.lh.lies M7.out.up.held).mono ?_
            rintro e w8 ⟨rfl, hb8⟩
            have M8 := Lib.hid (M7.out.on hb8)
            have H8 := Lib.hid (L12b.out.kept (OnlyE.of_below hb8))
            have F8 := Lib.hid (L13.out.kept (OnlyE.of_below hb8))
            clear hb8 M7 L12b L13
            go_wp2_with fail
            refine (refCovers_true (by omega) hl13.out F8.out.lies hl9.out M8.out.lf.lies M8.out.up.fl).mono ?_
            rintro e w9 ⟨rfl, hb9⟩
            have M9 := Lib.hid (M8.out.on hb9)
            have H9 := Lib.hid (H8.out.kept (OnlyE.of_below hb9))
            have F9 := Lib.hid (F8.out.kept (OnlyE.of_below hb9))
            clear hb9 M8 H8 F8
            go_wp2_with fail
            refine (refCovers_true (by omega) hl12.out H9.out.lies hl13.out F9.out.lies (fun i => ?_)).mono ?_
            · by_cases hi : i < m1.n
              · rw [Sm.held_num hi]
                exact heldN_ge _ _ _
              · rw [num_out (l := m1.fl) (by rw [M9.out.st.ok.fl]; omega)]
                omega
            rintro e w10 ⟨rfl, hb10⟩
            have M10 := Lib.hid (M9.out.on hb10)
            have H10 := Lib.hid (H9.out.kept (OnlyE.of_below hb10))
            have F10 := Lib.hid (F9.out.kept (OnlyE.of_below hb10))
            have u1 := used_any M10.out.st
            have hus : useL m1.l ≤ rm := by have := M10.out.st.ok.use; rw [M10.out.rm] at this; exact this
            clear hb10 M9 H9 F9
            unfold sptr at u1
            generalize useL m1.l = us at u1 hus
            have hd1 : decide (us < 0) = false := decide_eq_false (by omega)
            have hd2 : decide (rm < us) = false := decide_eq_false (by omega)
            go_wp2_with (go_at_call 12; refine u1.mono ?_; rintro e w' ⟨rfl, rfl⟩)
            clear u1 hd1 hd2 hus
            go_loopw [14] (fun s14 wk => ∃ k : Nat, k ≤ N ∧ s14 = .int .i64 (k : Int) ∧ Hid (RisM w g mb fb rm m m1 A8 A9 i wk) ∧ Hid (LiesX wk (own3 g mb fb) A12 (uvs m1.held)) ∧ Hid (LiesX wk (own3 g mb fb) A13 (uvs m1.fl))) (fun s14 _ => N - (intOf s14).toNat)
            case atStart => exact ⟨0, Nat.zero_le _, rfl, M10, H10, F10⟩
            case round =>
              obtain ⟨k, hk, rfl, M11, H11, F11⟩ := hrel
              obtain ⟨WK, rfl⟩ : ∃ V, V = wr := ⟨wr, rfl⟩
              clear M10 H10 F10
              by_cases hkl : k < N
              · have hkm : k < m1.n := by rw [HM1n.out]; exact hkl
                have hfk : k < m1.fl.length := by rw [hl13.out]; exact hkl
                have hhk : k < m1.held.length := by rw [hl12.out]; exact hkl
                obtain ⟨bf, of', rfl, hbf, cf⟩ := F11.out.lies.at_ (uvs_at hfk)
                obtain ⟨bh, oh, rfl, hbh, ch⟩ := H11.out.lies.at_ (uvs_at hhk)
                rw [← num_in hfk] at cf
                rw [← num_in hhk] at ch
                have HS : Hid (∀ j, num m1.fl k < j → j ≤ num m1.held k → hasS m1.l k j = true) := fun j h1 h2 => by
                  rw [Sm.held_num hkm] at h2
                  exact heldN_all h1 h2
                have hfh : num m1.fl k ≤ num m1.held k := by rw [Sm.held_num hkm]; exact heldN_ge _ _ _
                have hht : num m1.held k < 9223372036854775807 := by
                  rw [Sm.held_num hkm]
                  have := M11.out.st.ok.held_le k
                  unfold MaxS at this
                  omega
                generalize num m1.fl k = fv at cf HS hfh
                generalize num m1.held k = hv at ch HS hfh hht
                have hK256 : (k : Int) % 256 = (k : Int) := by omega
                clear hfk hhk hkm
                go_wp2
                go_loopw [15] (fun s15 wj => ∃ j : Nat, fv + 1 ≤ j ∧ j ≤ hv + 1 ∧ s15 = .int .u64 (j : Int) ∧ Hid (Below WK.heap.size WK wj)) (fun s15 _ => hv + 1 - (intOf s15).toNat)
                case atStart => exact ⟨fv + 1, Nat.le_refl _, by omega, rfl, Below.refl _ _⟩
                case round =>
                  obtain ⟨j, hj1, hj2, rfl, hbj⟩ := hrel
                  have df := (hbj.out.cell (p := ⟨bf, of' + k, none⟩) hbf).trans cf
                  have dh := (hbj.out.cell (p := ⟨bh, oh + k, none⟩) hbh).trans ch
                  have MJ := Lib.hid (M11.out.on hbj.out)
                  have HJ := Lib.hid (H11.out.kept (OnlyE.of_below hbj.out))
                  have FJ := Lib.hid (F11.out.kept (OnlyE.of_below hbj.out))
                  have hsub : (j : Int) - (fv : Int) = ((j - fv : Nat) : Int) := by omega
                  have hd64 : j - fv < 9223372036854775808 := by omega
                  obtain ⟨d, hde⟩ : ∃ d, j - fv = d := ⟨_, rfl⟩
                  rw [hde] at hsub hd64
                  clear hde
                  by_cases hjh : j ≤ hv
                  · have hdj : decide (j ≤ hv) = true := decide_eq_true hjh
                    by_cases h100 : d ≤ 100
                    · have hdd : decide (d ≤ 100) = true := decide_eq_true h100
                      have hks : k < 256 := by omega
                      have hjs : j < 18446744073709551616 := by omega
                      have P1 := has_any (MJ.out.st.on (alloc_below wr (.cells #[.int .u8 (k : Int), .int .u64 (j : Int)] 33))) (some ⟨wr.heap.size, 0, none⟩) 1 1 [⟨k, j, hks, hjs⟩] rfl (by omega) (ids_lit wr k j hks hjs)
                      have he : ([⟨k, j, hks, hjs⟩] : List Id).all (hasL m1.l) = true := by
                        have := HS.out j (by omega) hjh
                        simp only [List.all_cons, List.all_nil, Bool.and_true]
                        exact this
                      rw [he] at P1
                      unfold sptr at P1
                      have hj64 : j + 1 < 9223372036854775809 := by omega
                      clear he
                      go_wp2_with fail
                      refine P1.mono ?_
                      rintro e w12 ⟨rfl, hb12⟩
                      have hbn2 : Hid (Below WK.heap.size WK w12) := (hbj.out.trans ((alloc_below wr _).mono hbj.out.size)).trans (hb12.mono (by have := hbj.out.size; simp; omega))
                      clear P1 hb12 MJ HJ FJ hbj df dh
                      go_wp2
                      go_roundw
                      case rel => exact ⟨j + 1, by omega, by omega, by go_num, hbn2⟩
                      case measure => simp [intOf]; omega
                    · have hdd : decide (d ≤ 100) = false := decide_eq_false h100
                      clear hbj
                      go_wp2
                      go_roundw
                      case rel => exact ⟨k + 1, by omega, by go_num, MJ, HJ, FJ⟩
                      case measure => simp [intOf]; omega
                  · have hdj : decide (j ≤ hv) = false := decide_eq_false hjh
                    clear hbj hsub
                    go_wp2
                    go_roundw
                    case rel => exact ⟨k + 1, by omega, by go_num, MJ, HJ, FJ⟩
                    case measure => simp [intOf]; omega
              · have RS : Hid (RisS w g mb fb rm m1 A12 A13 (i + 1) WK) := ⟨M11.out.st, H11.out, F11.out, M11.out.rm, M11.out.len, M11.out.below⟩
                clear M11 H11 F11
                go_wp2
                go_roundw
                case rel => exact ⟨i + 1, by omega, by go_num, m1, A12, c12, A13, c13, rfl, rfl, RS, HM1n⟩
                case measure => simp [intOf]; omega
    · go_wp2_with (go_at_call 8; refine (awake_any _).mono ?_; rintro e w' ⟨rfl, hb⟩)
      go_ret
      exact ⟨rfl, HR.out.below.trans (hb.mono HR.out.below.size)⟩

theorem own : ownKnob Try.prog.godebug = none := by kernel_rfl
theorem laidOut : laidOutB Try.prog = true := by kernel_rfl

set_option maxRecDepth 100000 in
theorem storeRises_lifted (os : Os) (started : os.Started) (H : Type) (enc : TypeId × Value → H) :
    ReturnsInHanded {} Try.checked os 4 .any (Rows.storeRisesSpec.pre6 enc Try.prog Try.f4 Rows.storeRisesRow.domain false) (Rows.storeRisesSpec.post enc Try.prog Try.f4 false true false false) := by
  refine returnsInHanded_of_change (C := Try.checked) own started (by kernel_rfl) Try.func4
    (ChangeSpec.witness6 (enc := enc) (C := Try.checked) false ⟨#[], #[.int .i64 0, .int .i64 0, .slice none 0 0], []⟩ 8 (by kernel_rfl) (by kernel_rfl) (by kernel_rfl) (by kernel_rfl)) ?_
  intro W base args ds gs before hval0 hW _ _
  have hval : ∀ (j : Nat) t v, Try.f4.params[j]? = some t → args[j]? = some v → Value.okWide Try.prog W .any base t v := hval0
  have hW' := hW
  obtain ⟨p, q, hA0, hV, rfl, _, _⟩ := hW
  have hA : DataW.TrodAll enc Try.prog W 0 (fun _ => true) true Try.f4.params.toList args.toList ds p := hA0
  rw [Try.params4] at hA hval
  obtain ⟨v0, vs0, d0, ds0, p0, q0, hargs, rfl, rfl, h0, r0⟩ := trodAll_cons hA
  obtain ⟨v1, vs1, d1, ds1, p1, q1, rfl, rfl, rfl, h1, r1⟩ := trodAll_cons r0
  obtain ⟨v2, vs2, d2, ds2, p2, q2, rfl, rfl, rfl, h2, r2⟩ := trodAll_cons r1
  obtain ⟨rfl, rfl, rfl⟩ := trodAll_nil r2
  obtain rfl : args = #[v0, v1, v2] := by cases args; simp_all
  obtain ⟨rfl, rfl⟩ := trodVars_none hV
  have k0 := h0
  have lt0 : ∀ x ∈ p0, x.block < W.heap.size := by obtain ⟨m, hm⟩ := k0; exact DataW.trod_lt m _ _ _ hm
  have k1 := h1
  have lt1 : ∀ x ∈ p1, x.block < W.heap.size := by obtain ⟨m, hm⟩ := k1; exact DataW.trod_lt m _ _ _ hm
  have k2 := h2
  have lt2 : ∀ x ∈ p2, x.block < W.heap.size := by obtain ⟨m, hm⟩ := k2; exact DataW.trod_lt m _ _ _ hm
  obtain ⟨a0, rfl, _, _, wf0⟩ := open_int Try.underlying3 (hval 0 3 v0 rfl rfl) h0
  obtain ⟨a1, rfl, _, _, wf1⟩ := open_int Try.underlying3 (hval 1 3 v1 rfl rfl) h1
  have b1 := bounds_i64 wf1
  obtain ⟨fuel2, hf2⟩ := h2
  obtain ⟨x2, len2, cap2, rfl⟩ := okWide_slice Try.underlying22 (hval 2 22 v2 rfl rfl)
  obtain ⟨l, A, n, c, hv, hl, hc, hcm, hL, hok⟩ := open_acts (by simpa [Value.cells] using hf2)
  injection hv with e1 e2 e3
  subst e1 e2 e3
  have hwalk : Calls Try.prog 4 #[.int .i64 a0, .int .i64 a1, .slice x2 len2 cap2] W fun e w' => e = .returned (.bool true) ∧ Below W.heap.size W w' := by
    by_cases hn : 100 < len2
    · exact rises_many _ _ _ _ _ W hn
    · exact rises_few a0 a1 x2 len2 cap2 l W b1.2 (by omega) hl hL hok
  clear hA0 hval0
  refine hwalk.mono fun e W' ⟨he, bel⟩ => ?_
  subst he
  exact ⟨_, rfl, _, _, _, [], _, [], hW', trodAll_mk1 (shut_bool Try.underlying4 _), (trodAll_cons_mk (Below.trod laidOut (by kernel_rfl) (of_decide_eq_true (by kernel_rfl)) k0 bel lt0) (trodAll_cons_mk (Below.trod laidOut (by kernel_rfl) (of_decide_eq_true (by kernel_rfl)) k1 bel lt1) (trodAll_cons_mk (Below.trod laidOut (by kernel_rfl) (of_decide_eq_true (by kernel_rfl)) k2 bel lt2) trodAll_mk0))), rfl, bel.frame _, fun h => by cases h⟩

theorem storeRises_proved : Rows.StoreRisesSaid :=
  OpenClaim.holds_of_wide 4 Try.f4 rfl rfl rfl rfl rfl rfl rfl ⟨rfl, rfl, rfl, rfl, rfl⟩ rfl rfl rfl rfl rfl (by kernel_rfl) Try.func4 (by kernel_rfl)
    (of_decide_eq_true (by kernel_rfl)) (by unfold Func.isWrapper; first | (rw [if_pos (by decide +kernel)]; kernel_rfl) | (rw [if_neg (by decide +kernel)]; exact ⟨rfl, rfl⟩))
    (fun os started H enc _ => storeRises_lifted os started H enc)

end Go.Proofs.Ytnpdjlcekmpmoaa
