/- Stage 14: the document's Drop. -/
import Derived.Test.YtnpdjlcekmpmoaaSpG
set_option maxRecDepth 20000
namespace Go.Proofs.Ytnpdjlcekmpmoaa
open Go.RowKit Go.Sort Go.Maps

theorem flN_take {fl told : List Nat} {i : Nat} (h : i < fl.length) : (flN fl told).take i ++ [max (num fl i) (min (num told i) MaxS)] = (flN fl told).take (i + 1) := by
  have hl : i < (flN fl told).length := by rw [flN_length]; exact h
  rw [List.take_succ_eq_append_getElem hl, ← num_in hl, flN_num h]

section
variable {w : World} {D : Nat → Prop} {A A2 : Option Addr} {c c2 : Nat} {m : Sm}
set_option maxHeartbeats 6400000 in
theorem refDrop_any (h : RsAt w D A c A2 c2 m) (hm : m.Ok) (u : List Nat) {Au : Option Addr} {un cu : Nat} (hun : u.length = un) (hU : Lies w w.heap.size Au (uvs u)) (hlen : m.l.length ≤ 1000) :
    Calls Try.prog 28 #[.agg (rsCells A c A2 c2 m), .slice Au un cu] w (GotS w A c A2 c2 m (m.drop u) (.int .i64 ((m.l.length - (m.drop u).l.length : Nat) : Int))) := by
  have mixed := mixedOrders
  have HF : Hid (Lies w w.heap.size A2 (uvs m.fl)) := h.floors.lies
  have HX : Hid (Lies w w.heap.size A (flat encX m.l)) := h.lies.lies
  have HAT : Hid (∀ V, RowKit.Below w.heap.size w V → ∀ i : Nat, Calls Try.prog 38 #[.slice Au un cu, .int .i64 (i : Int)] V fun e w' => e = .returned (.int .u64 (num u i : Int)) ∧ V = w') := fun V hV i => refAt_nat Au un cu i V.heap.size u V hun (hU.later hV)
  have hn1 := hm.n1
  have hn2 := hm.n2
  have HFL : Hid (m.fl.length = m.n) := hm.fl
  have HTOP : Hid (∀ i, num m.fl i ≤ MaxS) := fun i => num_le hm.top i
  have HMAY : Hid (∀ y ∈ m.l, y.id.f < m.n) := fun y hy => by
    have := hm.each y hy
    unfold Sm.may at this
    simp only [Bool.and_eq_true, decide_eq_true_eq] at this
    exact this.1
  have HGS : Hid (∀ w' A9 c9 A6 c6, (m.drop u).l.length ≤ c9 → c9 ≤ maxLen → m.n ≤ c6 → c6 ≤ maxLen → RowKit.Below w.heap.size w w' → w'.ownsRow w.heap.size 64 3 (.slice A9 (m.drop u).l.length c9) (m.drop u).l.length (flat encX (m.drop u).l) → w'.ownsRow w.heap.size 31 1 (.slice A6 m.n c6) m.n (uvs (m.drop u).fl) →
      GotS w A c A2 c2 m (m.drop u) (.int .i64 ((m.l.length - (m.drop u).l.length : Nat) : Int)) (.returned (.tuple #[.agg #[.int .i64 (m.n : Int), .int .i64 (m.room : Int), .slice A9 (m.drop u).l.length c9, .slice A6 m.n c6], .int .i64 ((m.l.length - (m.drop u).l.length : Nat) : Int)])) w') :=
    fun w' A9 c9 A6 c6 h1 h2 h3 h4 h5 h6 h7 => ⟨A9, c9, A6, c6, rfl, h5, fun D hD _ => ⟨LiesX.of_own h6 fun k hk => hD k hk, h1, h2, LiesX.of_own h7 fun k hk => hD k hk, h3, h4⟩⟩
  have hdl : Hid ((m.drop u).l = m.l.filter (keptB (flN m.fl u)) ∧ (m.drop u).fl = flN m.fl u) := ⟨rfl, rfl⟩
  generalize m.drop u = md at HGS hdl ⊢
  unfold rsCells
  clear h hm hun hU
  obtain ⟨N, hNN⟩ : ∃ N, m.n = N := ⟨_, rfl⟩
  obtain ⟨rm, hRR⟩ : ∃ rm, m.room = rm := ⟨_, rfl⟩
  obtain ⟨L, hLL⟩ : ∃ L, m.l.length = L := ⟨_, rfl⟩
  have HLN : Hid (m.l.length = L) := hLL
  rw [hLL] at HGS hlen ⊢
  rw [hNN] at HGS HFL HMAY hn1 hn2 ⊢
  rw [hRR] at HGS ⊢
  clear hNN hRR hLL
  go_enter Try.func28, Try.ntmps28
  go_wp2_with fail
  generalize hw1 : World.alloc w _ = w1
  generalize hw0 : World.alloc w1 _ = w0
  have S0 : SBox w #[.int .i64 (N : Int), .int .i64 (rm : Int), .slice A L c, .slice A2 N c2] zeroS w0 := SBox.start (by rw [← hw0, ← hw1]; rfl)
  have hs0 : w0.heap.size = w.heap.size + 2 := by rw [← hw0, ← hw1]; simp
  generalize hw2 : World.alloc w0 _ = w2
  have S2 : Hid (SBox w #[.int .i64 (N : Int), .int .i64 (rm : Int), .slice A L c, .slice A2 N c2] zeroS w2) := by
    show SBox w #[.int .i64 (N : Int), .int .i64 (rm : Int), .slice A L c, .slice A2 N c2] zeroS w2
    subst hw2
    exact S0.on (alloc_below w0 _)
  have O2 : Hid (w2.ownsRow (w.heap.size + 2) 31 1 (.slice (some ⟨w.heap.size + 2, 0, none⟩) 0 0) 0 (uvs [])) := by
    show w2.ownsRow _ _ _ _ _ _
    subst hw2
    have := World.ownsRow_lit (base := w.heap.size + 2) (size := 1) (e := 31) w0 #[] 0 (by omega) (Nat.zero_le _) rfl
    rw [hs0] at this
    exact this
  clear hw0 hw1 hw2 S0 hs0
  go_loopw [6, 16] (fun s6 s16 wr => ∃ i : Nat, i ≤ N ∧ s16 = .int .i64 (i : Int) ∧ Hid (wr.ownsRow (w.heap.size + 2) 31 1 s6 i (uvs ((flN m.fl u).take i))) ∧ Hid (SBox w #[.int .i64 (N : Int), .int .i64 (rm : Int), .slice A L c, .slice A2 N c2] zeroS wr)) (fun _ s16 _ => N - (intOf s16).toNat)
  case atStart => exact ⟨0, Nat.zero_le _, rfl, O2, S2⟩
  case round =>
    obtain ⟨i, hi, rfl, HO, HS⟩ := hrel
    clear O2 S2
    obtain ⟨A6, c6, rfl, q1, q2⟩ := own_slice HO.out
    by_cases hlt0 : i < N
    · have hif : i < m.fl.length := by rw [HFL.out]; exact hlt0
      obtain ⟨bf, of', rfl, hbf, cf⟩ := (HF.out.below HS.out.below).at_ (uvs_at hif)
      rw [← num_in hif] at cf
      have x3 : wr.cell? ⟨w.heap.size, 3, none⟩ = some (.slice (some ⟨bf, of', none⟩) N c2) := (HS.out.cell 3).trans rfl
      have hlt := HS.out.lt
      have hlw : w.heap.size < wr.heap.size := by omega
      have hAT := HAT.out wr HS.out.below i
      have hO := HO.out
      have HV0 := Lib.hid (flN_take (told := u) hif)
      have htp : num m.fl i ≤ 4611686018427387904 := HTOP.out i
      unfold MaxS at HV0
      generalize num m.fl i = fv at cf HV0 htp
      generalize num u i = tv at hAT HV0
      clear hif
      by_cases hbig : 4611686018427387904 < tv
      · have hd1 : decide (4611686018427387904 < tv) = true := decide_eq_true hbig
        have hd2 : decide (4611686018427387904 < fv) = false := decide_eq_false (by omega)
        have HV : Hid ((flN m.fl u).take i ++ [4611686018427387904] = (flN m.fl u).take (i + 1)) := by
          rw [show max fv (min tv 4611686018427387904) = 4611686018427387904 by omega] at HV0
          exact HV0
        clear HV0
        go_wp2_with (first | (go_at_call 38; refine hAT.mono ?_; rintro e w' ⟨rfl, rfl⟩) | (at_builtin; refine wpList_push rfl (.tmp 36) (.tmp 38) rfl (w.heap.size + 2) i ((flN m.fl u).take i) 4611686018427387904 (.slice A6 i c6) rfl rfl hO (by omega) hlt ?_) | fail)
        intro v2 w3 hO2 hb3
        rw [HV.out] at hO2
        have HO2 := Lib.hid hO2
        have HS3 := Lib.hid (HS.out.up hb3)
        clear hO hO2 hb3 x3 hAT cf HS HO
        go_wp2
        go_roundw
        case rel => exact ⟨i + 1, by omega, by go_num, HO2, HS3⟩
        case measure => simp [intOf]; omega
      · have hd1 : decide (4611686018427387904 < tv) = false := decide_eq_false hbig
        by_cases hlo : tv < fv
        · have hd2 : decide (tv < fv) = true := decide_eq_true hlo
          have HV : Hid ((flN m.fl u).take i ++ [fv] = (flN m.fl u).take (i + 1)) := by
            rw [show max fv (min tv 4611686018427387904) = fv by omega] at HV0
            exact HV0
          clear HV0
          go_wp2_with (first | (go_at_call 38; refine hAT.mono ?_; rintro e w' ⟨rfl, rfl⟩) | (at_builtin; refine wpList_push rfl (.tmp 36) (.tmp 38) rfl (w.heap.size + 2) i ((flN m.fl u).take i) fv (.slice A6 i c6) rfl rfl hO (by omega) hlt ?_) | fail)
          intro v2 w3 hO2 hb3
          rw [HV.out] at hO2
          have HO2 := Lib.hid hO2
          have HS3 := Lib.hid (HS.out.up hb3)
          clear hO hO2 hb3 x3 hAT cf HS HO
          go_wp2
          go_roundw
          case rel => exact ⟨i + 1, by omega, by go_num, HO2, HS3⟩
          case measure => simp [intOf]; omega
        · have hd2 : decide (tv < fv) = false := decide_eq_false hlo
          have HV : Hid ((flN m.fl u).take i ++ [tv] = (flN m.fl u).take (i + 1)) := by
            rw [show max fv (min tv 4611686018427387904) = tv by omega] at HV0
            exact HV0
          clear HV0
          go_wp2_with (first | (go_at_call 38; refine hAT.mono ?_; rintro e w' ⟨rfl, rfl⟩) | (at_builtin; refine wpList_push rfl (.tmp 36) (.tmp 38) rfl (w.heap.size + 2) i ((flN m.fl u).take i) tv (.slice A6 i c6) rfl rfl hO (by omega) hlt ?_) | fail)
          intro v2 w3 hO2 hb3
          rw [HV.out] at hO2
          have HO2 := Lib.hid hO2
          have HS3 := Lib.hid (HS.out.up hb3)
          clear hO hO2 hb3 x3 hAT cf HS HO
          go_wp2
          go_roundw
          case rel => exact ⟨i + 1, by omega, by go_num, HO2, HS3⟩
          case measure => simp [intOf]; omega
    · obtain rfl : N = i := by omega
      have hfl2 : (flN m.fl u).length = N := by rw [flN_length, HFL.out]
      have FO : Hid (wr.ownsRow (w.heap.size + 2) 31 1 (.slice A6 N c6) N (uvs (flN m.fl u))) := by
        have := HO.out
        rw [show (flN m.fl u).take N = flN m.fl u from by rw [← hfl2, List.take_length]] at this
        exact this
      obtain ⟨WK, rfl⟩ : ∃ V, V = wr := ⟨wr, rfl⟩
      have x2 : WK.cell? ⟨w.heap.size, 2, none⟩ = some (.slice A L c) := (HS.out.cell 2).trans rfl
      have hltk := HS.out.lt
      have hlwk : w.heap.size < WK.heap.size := by omega
      have HFL2 := Lib.hid hfl2
      clear HO HAT HF HTOP hfl2
      generalize flN m.fl u = fl' at FO HFL2 hdl
      go_wp2_with fail
      generalize hwk : World.alloc WK _ = w4
      have hb4 : RowKit.Below WK.heap.size WK w4 := hwk ▸ alloc_below WK _
      have O4 : Hid (w4.ownsRow WK.heap.size 64 3 (.slice (some ⟨WK.heap.size, 0, none⟩) 0 0) 0 (flat encX [])) := by
        show w4.ownsRow _ _ _ _ _ _
        subst hwk
        exact World.ownsRow_lit (base := WK.heap.size) (size := 3) (e := 64) WK #[] 0 (Nat.le_refl _) (Nat.zero_le _) rfl
      have y2 := (hb4.cell (p := ⟨w.heap.size, 2, none⟩) hlwk).trans x2
      have HB4 := Lib.hid hb4
      clear hwk hb4 x2
      go_wp2_with fail
      clear y2
      go_loopw [9, 45] (fun s9 s45 w5 => ∃ k : Nat, k ≤ L ∧ s45 = .int .i64 (k : Int) ∧ Hid (w5.ownsRow WK.heap.size 64 3 s9 ((m.l.take k).filter (keptB fl')).length (flat encX ((m.l.take k).filter (keptB fl')))) ∧ Hid (RowKit.Below WK.heap.size WK w5)) (fun _ s45 _ => L - (intOf s45).toNat)
      case atStart => exact ⟨0, Nat.zero_le _, rfl, O4, HB4⟩
      case round =>
        obtain ⟨k, hk, rfl, HO5, HB5⟩ := hrel
        clear O4 HB4
        obtain ⟨A9, c9, rfl, q3, q4⟩ := own_sliceK HO5.out
        have H5 := Lib.hid (HS.out.on HB5.out)
        have x0 : wr.cell? ⟨w.heap.size, 0, none⟩ = some (.int .i64 (N : Int)) := (H5.out.cell 0).trans rfl
        have x1 : wr.cell? ⟨w.heap.size, 1, none⟩ = some (.int .i64 (rm : Int)) := (H5.out.cell 1).trans rfl
        have x2 : wr.cell? ⟨w.heap.size, 2, none⟩ = some (.slice A L c) := (H5.out.cell 2).trans rfl
        have hlt5 := H5.out.lt
        by_cases hlt0 : k < L
        · have hkl : k < m.l.length := by rw [HLN.out]; exact hlt0
          obtain ⟨ba, oa, rfl, hba, a0, a1, a2⟩ := xs_at (HX.out.below H5.out.below) hkl
          have hyf : (m.l[k]).id.f < N := HMAY.out _ (List.getElem_mem hkl)
          have hyl : (m.l[k]).id.f < fl'.length := by rw [HFL2.out]; exact hyf
          obtain ⟨b6, o6, rfl, hb6, cf⟩ := ((Lies.of_own FO.out).below HB5.out).at_ (uvs_at hyl)
          rw [← num_in hyl] at cf
          have hkq : keptB fl' m.l[k] = decide (num fl' (m.l[k]).id.f < (m.l[k]).id.s) := rfl
          have K1 : Hid (keptB fl' m.l[k] = true → (m.l.take (k + 1)).filter (keptB fl') = (m.l.take k).filter (keptB fl') ++ [m.l[k]]) := fun hq => by
            rw [List.take_succ_eq_append_getElem hkl, List.filter_append]
            simp [hq]
          have K2 : Hid (keptB fl' m.l[k] = false → (m.l.take (k + 1)).filter (keptB fl') = (m.l.take k).filter (keptB fl')) := fun hq => by
            rw [List.take_succ_eq_append_getElem hkl, List.filter_append]
            simp [hq]
          have hql : ((m.l.take k).filter (keptB fl')).length ≤ 1000 := by
            have h1 := List.length_filter_le (keptB fl') (m.l.take k)
            rw [List.length_take] at h1
            omega
          generalize m.l[k] = y at a0 a1 a2 hyf cf hkq K1 K2
          generalize num fl' y.id.f = fv at cf hkq
          generalize (m.l.take k).filter (keptB fl') = lk at HO5 K1 K2 hql q3 ⊢
          have hbw : ba < wr.heap.size := Nat.lt_of_lt_of_le hba H5.out.below.size
          have hb6w : b6 < wr.heap.size := Nat.lt_of_lt_of_le hb6 HB5.out.size
          have x2 := later_cell (w0 := wr) (b := w.heap.size) (by omega) x2
          have a0 := later_cell (w0 := wr) hbw a0
          have a1 := later_cell (w0 := wr) hbw a1
          have a2 := later_cell (w0 := wr) hbw a2
          have cf := later_cell (w0 := wr) hb6w cf
          clear hkl hyl
          have hyfh := y.id.hf
          have hysh := y.id.hs
          by_cases hkeep : fv < y.id.s
          · have hd : decide (fv < y.id.s) = true := decide_eq_true hkeep
            have hq1 := Lib.hid (K1.out (by rw [hkq]; exact hd))
            clear K1 K2 hkq
            go_wp2_with fail
            refine wp_region_later mixed (by kernel_rfl) ?_
            repeat (go_big_quiet_step (fail))
            refine wpQuiet_nil ?_
            intro _ hw'
            obtain ⟨p, rfl⟩ := hw'
            have HP : Hid (RowKit.Below WK.heap.size WK p.w) := HB5.out.trans (p.hb.mono HB5.out.size)
            have hps : WK.heap.size ≤ p.w.heap.size := HP.out.size
            have hba2 : RowKit.Below p.w.heap.size p.w (p.w.alloc (.cells #[.int .u8 (y.id.f : Int), .int .u64 (y.id.s : Int), .string (str y.b)] 64)) := alloc_below _ _
            obtain ⟨A7, c7, W7, hrun, ho7, -, hb7, -, -⟩ := app_x (ys := [y]) (m := 1) (c := 1) (own_below (own_below HO5.out p.hb) hba2) rfl (by rw [flat_singleX]; exact lies_new p.w #[.int .u8 (y.id.f : Int), .int .u64 (y.id.s : Int), .string (str y.b)] 64) (by simp; omega) (by omega)
            rw [← flat_append, ← hq1.out] at ho7
            rw [show lk.length + 1 = ((m.l.take (k + 1)).filter (keptB fl')).length from by rw [hq1.out]; simp] at ho7 hrun
            have HO7 := Lib.hid ho7
            have HB7 : Hid (RowKit.Below WK.heap.size WK W7) := (HP.out.trans (hba2.mono hps)).trans hb7
            have HRUN := Lib.hid hrun
            clear ho7 hb7 hba2 HO5 HB5 H5 hrun
            have hrun := HRUN.out
            go_wp2_with (first | (at_builtin; refine wpList_append_run rfl (.tmp 66) (.tmp 72) 26 rfl rfl rfl hrun ?_) | fail)
            clear hrun HRUN x2 a0 a1 a2 cf
            go_wp2
            go_roundw
            case rel => exact ⟨k + 1, by omega, by go_num, HO7, HB7⟩
            case measure => simp [intOf]; omega
          · have hd : decide (fv < y.id.s) = false := decide_eq_false hkeep
            have hq1 := Lib.hid (K2.out (by rw [hkq]; exact hd))
            clear K1 K2 hkq
            go_wp2_with fail
            refine wp_region_later mixed (by kernel_rfl) ?_
            repeat (go_big_quiet_step (fail))
            refine wpQuiet_nil ?_
            intro _ hw'
            obtain ⟨p, rfl⟩ := hw'
            have HO7 := Lib.hid (own_below HO5.out p.hb)
            have HB7 : Hid (RowKit.Below WK.heap.size WK p.w) := HB5.out.trans (p.hb.mono HB5.out.size)
            clear HO5 HB5 H5 x2 a0 a1 a2 cf
            go_wp2
            go_roundw
            case rel => exact ⟨k + 1, by omega, by go_num, by rw [hq1.out]; exact HO7, HB7⟩
            case measure => simp [intOf]; omega
        · obtain rfl : L = k := by omega
          have hmd : Hid ((m.l.take L).filter (keptB fl') = md.l) := by
            show _ = _
            rw [hdl.out.1, ← HLN.out, List.take_length]
          rw [hmd.out] at HO5 q3 ⊢
          have HOl := HO5
          have hql : md.l.length ≤ L := by rw [hdl.out.1, ← HLN.out]; exact List.length_filter_le _ _
          have hsub : (L : Int) - (md.l.length : Int) = ((L - md.l.length : Nat) : Int) := by omega
          have FO5 : Hid (wr.ownsRow (w.heap.size + 2) 31 1 (.slice A6 N c6) N (uvs md.fl)) := by
            rw [hdl.out.2]
            exact own_below FO.out HB5.out
          generalize hqq : md.l.length = q at HGS HOl hql hsub q3 ⊢
          have HQQ := Lib.hid hqq
          clear hqq
          have x3 : wr.cell? ⟨w.heap.size, 3, none⟩ = some (.slice A2 N c2) := (H5.out.cell 3).trans rfl
          have f0 := H5.out.fr 2
          have f1 := H5.out.fr 3
          have g0 := H5.out.frR 0
          have g1 := H5.out.frR 1
          have g2 := H5.out.frR 2
          have g3 := H5.out.frR 3
          have r0 : wr.cell? ⟨w.heap.size + 1, 0, none⟩ = some (.int .i64 0) := (H5.out.cellR 0).trans rfl
          have r1 : wr.cell? ⟨w.heap.size + 1, 1, none⟩ = some (.int .i64 0) := (H5.out.cellR 1).trans rfl
          have r2 : wr.cell? ⟨w.heap.size + 1, 2, none⟩ = some (.slice none 0 0) := (H5.out.cellR 2).trans rfl
          have r3 : wr.cell? ⟨w.heap.size + 1, 3, none⟩ = some (.slice none 0 0) := (H5.out.cellR 3).trans rfl
          have hl0 : w.heap.size < wr.heap.size := by omega
          have hl1 : w.heap.size + 1 < wr.heap.size := by omega
          have HF := (((((H5.out.setBox 2 (.slice A9 q c9)).setBox 3 (.slice A6 N c6)).setRes 0 (.int .i64 (N : Int))).setRes 1 (.int .i64 (rm : Int))).setRes 2 (.slice A9 q c9)).setRes 3 (.slice A6 N c6)
          have hset : ∀ V : World, OnlyE V (((((((V.setCell ⟨w.heap.size, 2, none⟩ (.slice A9 q c9)).setCell ⟨w.heap.size, 3, none⟩ (.slice A6 N c6)).setCell ⟨w.heap.size + 1, 0, none⟩ (.int .i64 (N : Int))).setCell ⟨w.heap.size + 1, 1, none⟩ (.int .i64 (rm : Int))).setCell ⟨w.heap.size + 1, 2, none⟩ (.slice A9 q c9)).setCell ⟨w.heap.size + 1, 3, none⟩ (.slice A6 N c6))) (fun b => b = w.heap.size ∨ b = w.heap.size + 1) := fun V =>
            ((((((onlyE_set (D := fun b => b = w.heap.size ∨ b = w.heap.size + 1) (.inl rfl) 2 _).trans (onlyE_set (.inl rfl) 3 _)).trans (onlyE_set (.inr rfl) 0 _)).trans (onlyE_set (.inr rfl) 1 _)).trans (onlyE_set (.inr rfl) 2 _)).trans (onlyE_set (.inr rfl) 3 _))
          have E1 := own_base (base' := w.heap.size) (own_only HOl.out (hset wr) fun b hb e => by have := (HOl.out.lt b hb).1; omega) (by omega)
          have E2 := own_base (base' := w.heap.size) (own_only FO5.out (hset wr) fun b hb e => by have := (FO5.out.lt b hb).1; omega) (by omega)
          have HEND := Lib.hid (HGS.out _ A9 c9 A6 c6 q3 q4 q1 q2 HF.below E1 E2)
          have HRES := Lib.hid HF.res
          clear hset E1 E2 HF HOl HO5 FO5 HGS
          go_wp2
          refine bodyPost_ret (results_cell_tmp rfl _ _ (w.heap.size + 1) _ rfl (load_rowS HRES.out rfl)) rfl ?_
          rw [HQQ.out]
          exact HEND.out
end

end Go.Proofs.Ytnpdjlcekmpmoaa
