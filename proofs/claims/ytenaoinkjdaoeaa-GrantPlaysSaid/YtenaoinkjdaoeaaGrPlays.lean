/- GrantPlays: for every two ints, every list of acts and every 64 bits the call returns true (any row of acts is answered, and leaves limits, as the document says), and changes nothing that was there. No conditions. -/
import Derived.Test.YtenaoinkjdaoeaaGrM
import Derived.ChangeOld
import Derived.Deep.Cut
namespace Go.Proofs.Ytenaoinkjdaoeaa
open Go.ChangeShapes Go.WideShapes Go.ChangeAt Go.RowKit

set_option maxRecDepth 20000 in
theorem plays_many (n me : Int) (A : Option Addr) (m c : Nat) (u : Int) (w : World) (hm : 200 < m) : Calls Try.prog 3 #[.int .i64 n, .int .i64 me, .slice A m c, .int .u64 u] w fun e w' => e = .returned (.bool true) ∧ Below w.heap.size w w' := by
  have hd : decide (200 < m) = true := decide_eq_true hm
  go_enter Try.func3, Try.ntmps3
  go_wp2_with (go_at_call 7; refine (awake_any _).mono ?_; rintro e w' ⟨rfl, hb⟩)
  go_ret
  exact ⟨rfl, hb⟩

set_option maxRecDepth 100000 in
set_option maxHeartbeats 6400000 in
theorem plays_few (n me : Int) (hn : -9223372036854775808 ≤ n ∧ n ≤ 9223372036854775807) (A : Option Addr) (m c u : Nat) (hu : u < 18446744073709551616) (ls : List Ac) (w : World) (hm : m ≤ 200) (hl : ls.length = m) (hL : Lies w w.heap.size A (flat encAc ls)) (hok : ∀ y ∈ ls, AcOk y) :
    Calls Try.prog 3 #[.int .i64 n, .int .i64 me, .slice A m c, .int .u64 (u : Int)] w fun e w' => e = .returned (.bool true) ∧ Below w.heap.size w w' := by
  have mixed := mixedOrders
  have HLen := Lib.hid hl
  have HL := Lib.hid hL
  have HOK := Lib.hid hok
  have hd : decide (200 < m) = false := decide_eq_false (by omega)
  have hN := new_any n me hn w w.heap.size (Nat.le_refl _)
  have HRN := Lib.hid (refNew_any n me hn)
  have HGK := Lib.hid (Gok.new n me)
  unfold dgc at HRN
  generalize clampM n me = M at HGK hN HRN
  generalize clampN n = N at HGK hN HRN
  clear hl hL hok hn
  go_enter Try.func3, Try.ntmps3
  go_wp2_with fail
  refine hN.mono ?_
  rintro e w1 ⟨g, q, rfl, hG, -, -, hb1⟩
  unfold gptr
  have HG := Lib.hid hG
  have HB1 := Lib.hid hb1
  clear hN hG hb1
  go_wp2_with fail
  refine (HRN.out w1).mono ?_
  rintro e w2 ⟨A0, c0, rfl, ho, hc1, hc2, hb2⟩
  go_upto_region 4 with fail
  generalize hw3 : World.alloc w2 _ = w3
  have HP0 : Hid (GpE w g q w2.heap.size M N w3) := by
    have hb3 : Below w2.heap.size w2 w3 := hw3 ▸ alloc_below w2 _
    refine ⟨_, A0, c0, ⟨(HB1.out.trans (hb2.mono HB1.out.size)).trans (hb3.mono (Nat.le_trans HB1.out.size hb2.size)), (HG.out.on hb2).on hb3, hw3 ▸ heap_alloc_new w2 _, ?_, HGK.out, HGK.out, by simp, by simp, ⟨hc1, hc2⟩, Nat.le_trans HB1.out.size hb2.size⟩⟩
    refine LiesX.of_own (own_below ho hb3) fun b hb e => ?_
    have h1 := (ho.lt b hb)
    have h2 := HG.out.qlt.2
    rcases e with e | e <;> omega
  generalize w2.heap.size = mp at HP0 ⊢
  clear ho hc1 hc2 hb2 hw3 HG HB1 HRN HGK
  go_wp2
  go_loopw [11] (fun s11 wr => ∃ i : Nat, i ≤ m ∧ s11 = .int .i64 (i : Int) ∧ Hid (GpE w g q mp M N wr)) (fun s11 _ => m - (intOf s11).toNat)
  case atStart => exact ⟨0, Nat.zero_le _, rfl, HP0⟩
  case round =>
    clear HP0
    obtain ⟨i, hi, rfl, HR⟩ := hrel
    by_cases hlt : i < m
    · have hil : i < ls.length := by rw [HLen.out]; exact hlt
      obtain ⟨bb, off, rfl, hbl, c0, c1, c2⟩ := acts_at HL.out hil
      have HY := Lib.hid (HOK.out _ (List.getElem_mem hil))
      generalize ls[i] = y at c0 c1 c2 HY
      have z0 := (HR.out.below.cell (p := ⟨bb, off + i * 3, none⟩) hbl).trans c0
      have z1 := (HR.out.below.cell (p := ⟨bb, off + i * 3 + 1, none⟩) hbl).trans c1
      have z2 := (HR.out.below.cell (p := ⟨bb, off + i * 3 + 2, none⟩) hbl).trans c2
      clear c0 c1 c2 hil
      go_upto_region 8 with fail
      clear z0 z1 z2
      have HR1 := Lib.hid (HR.out.on (alloc_below wr (.cells #[.bool y.g, .int .i64 y.P, .int .u64 (y.u : Int)] 32)))
      have HA1 : Hid (ABox wr.heap.size y (wr.alloc (.cells #[.bool y.g, .int .i64 y.P, .int .u64 (y.u : Int)] 32))) := heap_alloc_new wr _
      generalize wr.alloc (.cells #[.bool y.g, .int .i64 y.P, .int .u64 (y.u : Int)] 32) = W1 at HR1 HA1 ⊢
      generalize wr.heap.size = ab at HA1 ⊢
      clear HR hbl
      have a0 := HA1.out.c0
      go_upto_if 39 with fail
      go_cut [13, 14, 15, 16] from 37 to 72 (fun _ _ _ _ wx => Hid (GpE w g q mp M N wx) ∧ Hid (ABox ab y wx))
      case first =>
        obtain ⟨l, A1, c1, h1⟩ := HR1.out
        have H1 := Lib.hid h1
        have m0 := h1.c0
        have m1 := h1.c1
        have a1 := HA1.out.c1
        have a2 := HA1.out.c2
        cases hyg : y.g
        · have HC := Lib.hid (h1.mtell hyg)
          rw [hyg] at a0
          clear h1
          go_wp2_with fail
          refine HC.out.mono ?_
          rintro e V1 ⟨A', c', rfl, hD⟩
          have h2 := H1.out.on hD.out.2.2.1
          go_upto_region 14 with fail
          generalize hW2 : World.alloc V1 _ = W2
          have h3 := h2.on (hW2 ▸ alloc_below V1 _)
          have x0 : W2.cell? ⟨V1.heap.size, 0, none⟩ = some (.slice A' N c') := hW2 ▸ cell_of_row _ _ 0 _ _ _ (heap_alloc_new V1 _)
          have x1 : W2.cell? ⟨V1.heap.size, 1, none⟩ = some (.int .i64 (M : Int)) := hW2 ▸ cell_of_row _ _ 1 _ _ _ (heap_alloc_new V1 _)
          have n0 := h3.c0
          have n1 := h3.c1
          have nf0 := h3.fr 0
          have nf1 := h3.fr 1
          have HW2 := Lib.hid hW2
          clear m0 m1 a0 a1 a2 h2 h3 hW2 HC
          go_upto_region 15 with fail
          generalize hW3 : World.setCell (W2.setCell _ _) _ _ = W3
          obtain ⟨hS, hA⟩ := H1.out.step HY.out hD.out HA1.out HW2.out hW3
          have HS := Lib.hid hS
          have HA3 := Lib.hid hA
          have b1 := hA.c1
          have b2 := hA.c2
          have hT := tell_act hS.gr hyg
          unfold gptr at hT
          clear x0 x1 n0 n1 nf0 nf1 hW3 HW2 hS hA hD H1
          generalize tellB l y.P y.u = tb at hT ⊢
          go_wp2_with fail
          refine hT.mono ?_
          rintro e W5 ⟨rfl, h1, h2⟩
          have HE : Hid (GpE w g q mp M N W5) := ⟨_, A', c', HS.out.gact HY.out h1 h2⟩
          have HA5 : Hid (ABox ab y W5) := HA3.out.only h2 (HA3.out.ne HS.out.gr)
          have dn : (tb != tb) = false := by simp
          clear hT h1 h2 HS HA3 b1 b2
          go_wp2
          go_meet
          exact ⟨HE, HA5⟩
        · have HC := Lib.hid (h1.mgone hyg)
          rw [hyg] at a0
          clear h1
          go_wp2_with fail
          refine HC.out.mono ?_
          rintro e V1 ⟨A', c', rfl, hD⟩
          have h2 := H1.out.on hD.out.2.2.1
          go_upto_region 10 with fail
          generalize hW2 : World.alloc V1 _ = W2
          have h3 := h2.on (hW2 ▸ alloc_below V1 _)
          have x0 : W2.cell? ⟨V1.heap.size, 0, none⟩ = some (.slice A' N c') := hW2 ▸ cell_of_row _ _ 0 _ _ _ (heap_alloc_new V1 _)
          have x1 : W2.cell? ⟨V1.heap.size, 1, none⟩ = some (.int .i64 (M : Int)) := hW2 ▸ cell_of_row _ _ 1 _ _ _ (heap_alloc_new V1 _)
          have n0 := h3.c0
          have n1 := h3.c1
          have nf0 := h3.fr 0
          have nf1 := h3.fr 1
          have HW2 := Lib.hid hW2
          clear m0 m1 a0 a1 a2 h2 h3 hW2 HC
          go_upto_region 11 with fail
          generalize hW3 : World.setCell (W2.setCell _ _) _ _ = W3
          obtain ⟨hS, hA⟩ := H1.out.step HY.out hD.out HA1.out HW2.out hW3
          have HS := Lib.hid hS
          have HA3 := Lib.hid hA
          have b1 := hA.c1
          have b2 := hA.c2
          have hT := gone_act hS.gr hyg
          unfold gptr at hT
          clear x0 x1 n0 n1 nf0 nf1 hW3 HW2 hS hA hD H1
          generalize (goneN l M y.P : Int) = tb at hT ⊢
          go_wp2_with fail
          refine hT.mono ?_
          rintro e W5 ⟨rfl, h1, h2⟩
          have HE : Hid (GpE w g q mp M N W5) := ⟨_, A', c', HS.out.gact HY.out h1 h2⟩
          have HA5 : Hid (ABox ab y W5) := HA3.out.only h2 (HA3.out.ne HS.out.gr)
          have dn : (tb != tb) = false := by simp
          clear hT h1 h2 HS HA3 b1 b2
          go_wp2
          go_meet
          exact ⟨HE, HA5⟩
      case rest =>
        have hcut' := hcut
        obtain ⟨hE, HA⟩ := hcut'
        obtain ⟨l, A1, c1, h⟩ := hE.out
        have a1 := HA.out.c1
        have m0 := h.c0
        have m1 := h.c1
        clear hE a0 HY
        obtain ⟨yg, P, yu⟩ := y
        dsimp only at a1
        by_cases hp : hasB l P = true
        · obtain ⟨k, rfl, hk⟩ := hasB_iff.1 hp
          have hkN : k < N := by rw [← h.lk]; exact hk
          obtain ⟨b, o2, rfl, hbl, hcc⟩ := dws_at h.lies hk
          have ct := (hcc k hk).1
          have HO : Hid (ofN l (k : Int) = (wat l k).t) := by show _ = _; unfold ofN; rw [if_pos hp]; rfl
          generalize (wat l k).t = t at ct HO
          clear hcc hp hk
          go_upto_region 20 with fail
          clear ct hbl
          by_cases hu0 : u = 0
          · subst hu0
            have hlt2 := h.lt
            have x1 := later_cell (b := mp) hlt2 m0
            have x2 := later_cell (b := mp) hlt2 m1
            have hla := HA.out.lt
            have x3 := later_cell (b := ab) hla a1
            have hof := h.of (k : Int)
            rw [HO.out] at hof
            have hlm := h.lim
            have hma := h.may 0
            have hle := h.left 0 (by decide)
            have hml := h.mlim
            have hmf := h.mleft 0
            rw [show (decide (0 < 0) && decide (0 ≤ lim l)) = false from rfl] at hma
            generalize lim l = L at hlm hma hle hml hmf
            generalize L - 0 = R at hle hmf
            have e2 : ((L : Int) != (L : Int)) = false := by simp
            have e4 : ((R : Int) != (R : Int)) = false := by simp
            have e1 : ((t : Int) != (t : Int)) = false := by simp
            have HN := Lib.hid hcut
            clear h m0 m1 hlt2 hla a1 HR1 HA1 HA HO
            go_wp2_with fail
            refine wp_region_later mixed (by kernel_rfl) ?_
            repeat (go_big_quiet_step (first | (go_at_call 14; exact later_of (hof _)) | (go_at_call 15; exact later_of (hlm _)) | (go_at_call 16; exact later_of (hml _)) | (go_at_call 17; exact later_of (hma _)) | (go_at_call 18; exact later_of (hle _)) | (go_at_call 19; exact later_of (hmf _))))
            refine wpQuiet_nil ?_
            intro _ hw'
            obtain ⟨p, rfl⟩ := hw'
            have HN9 : Hid (GpE w g q mp M N p.w) := HN.out.1.out.on p.hb
            generalize p.w = wm at HN9 ⊢
            clear x1 x2 x3 hof hlm hma hle hml hmf HN
            go_wp2
            try simp only [Int.natCast_zero]
            go_roundw
            case rel => exact ⟨i + 1, by omega, by go_num, HN9⟩
            case measure => simp [intOf]; omega
          · skip
            have hlt2 := h.lt
            have x1 := later_cell (b := mp) hlt2 m0
            have x2 := later_cell (b := mp) hlt2 m1
            have hla := HA.out.lt
            have x3 := later_cell (b := ab) hla a1
            have hof := h.of (k : Int)
            rw [HO.out] at hof
            have hlm := h.lim
            have hma := h.may u
            have hle := h.left u hu
            have hml := h.mlim
            have hmf := h.mleft u
            have hu1 : decide (0 < u) = true := by simp; omega
            rw [hu1, Bool.true_and] at hma
            generalize lim l = L at hlm hma hle hml hmf
            generalize L - u = R at hle hmf
            have e3 : (decide (u ≤ L) != decide (u ≤ L)) = false := by simp
            have e5 : ((u ≤ L) != (u ≤ L)) = false := by simp
            have e2 : ((L : Int) != (L : Int)) = false := by simp
            have e4 : ((R : Int) != (R : Int)) = false := by simp
            have e1 : ((t : Int) != (t : Int)) = false := by simp
            have HN := Lib.hid hcut
            clear h m0 m1 hlt2 hla a1 HR1 HA1 HA HO
            go_wp2_with fail
            refine wp_region_later mixed (by kernel_rfl) ?_
            repeat (go_big_quiet_step (first | (go_at_call 14; exact later_of (hof _)) | (go_at_call 15; exact later_of (hlm _)) | (go_at_call 16; exact later_of (hml _)) | (go_at_call 17; exact later_of (hma _)) | (go_at_call 18; exact later_of (hle _)) | (go_at_call 19; exact later_of (hmf _))))
            refine wpQuiet_nil ?_
            intro _ hw'
            obtain ⟨p, rfl⟩ := hw'
            have HN9 : Hid (GpE w g q mp M N p.w) := HN.out.1.out.on p.hb
            generalize p.w = wm at HN9 ⊢
            clear x1 x2 x3 hof hlm hma hle hml hmf HN
            go_wp2
            go_roundw
            case rel => exact ⟨i + 1, by omega, by go_num, HN9⟩
            case measure => simp [intOf]; omega
        · have HO : Hid (ofN l P = 0) := by show _ = _; unfold ofN; rw [if_neg hp]
          have hP : P < 0 ∨ (N : Int) ≤ P := by
            by_cases h' : P < 0
            · exact .inl h'
            · refine .inr ?_
              have : ¬ P.toNat < N := fun h9 => hp ((hasB_iff (l := l) (P := P)).2 ⟨P.toNat, by omega, by rw [h.lk]; exact h9⟩)
              omega
          clear hp
          rcases hP with hP | hP
          · go_upto_region 20 with fail
            by_cases hu0 : u = 0
            · subst hu0
              have hlt2 := h.lt
              have x1 := later_cell (b := mp) hlt2 m0
              have x2 := later_cell (b := mp) hlt2 m1
              have hla := HA.out.lt
              have x3 := later_cell (b := ab) hla a1
              have hof := h.of P
              rw [HO.out] at hof
              have hlm := h.lim
              have hma := h.may 0
              have hle := h.left 0 (by decide)
              have hml := h.mlim
              have hmf := h.mleft 0
              rw [show (decide (0 < 0) && decide (0 ≤ lim l)) = false from rfl] at hma
              generalize lim l = L at hlm hma hle hml hmf
              generalize L - 0 = R at hle hmf
              have e2 : ((L : Int) != (L : Int)) = false := by simp
              have e4 : ((R : Int) != (R : Int)) = false := by simp
              have HN := Lib.hid hcut
              clear h m0 m1 hlt2 hla a1 HR1 HA1 HA HO
              go_wp2_with fail
              refine wp_region_later mixed (by kernel_rfl) ?_
              repeat (go_big_quiet_step (first | (go_at_call 14; exact later_of (hof _)) | (go_at_call 15; exact later_of (hlm _)) | (go_at_call 16; exact later_of (hml _)) | (go_at_call 17; exact later_of (hma _)) | (go_at_call 18; exact later_of (hle _)) | (go_at_call 19; exact later_of (hmf _))))
              refine wpQuiet_nil ?_
              intro _ hw'
              obtain ⟨p, rfl⟩ := hw'
              have HN9 : Hid (GpE w g q mp M N p.w) := HN.out.1.out.on p.hb
              generalize p.w = wm at HN9 ⊢
              clear x1 x2 x3 hof hlm hma hle hml hmf HN
              go_wp2
              try simp only [Int.natCast_zero]
              go_roundw
              case rel => exact ⟨i + 1, by omega, by go_num, HN9⟩
              case measure => simp [intOf]; omega
            · skip
              have hlt2 := h.lt
              have x1 := later_cell (b := mp) hlt2 m0
              have x2 := later_cell (b := mp) hlt2 m1
              have hla := HA.out.lt
              have x3 := later_cell (b := ab) hla a1
              have hof := h.of P
              rw [HO.out] at hof
              have hlm := h.lim
              have hma := h.may u
              have hle := h.left u hu
              have hml := h.mlim
              have hmf := h.mleft u
              have hu1 : decide (0 < u) = true := by simp; omega
              rw [hu1, Bool.true_and] at hma
              generalize lim l = L at hlm hma hle hml hmf
              generalize L - u = R at hle hmf
              have e3 : (decide (u ≤ L) != decide (u ≤ L)) = false := by simp
              have e5 : ((u ≤ L) != (u ≤ L)) = false := by simp
              have e2 : ((L : Int) != (L : Int)) = false := by simp
              have e4 : ((R : Int) != (R : Int)) = false := by simp
              have HN := Lib.hid hcut
              clear h m0 m1 hlt2 hla a1 HR1 HA1 HA HO
              go_wp2_with fail
              refine wp_region_later mixed (by kernel_rfl) ?_
              repeat (go_big_quiet_step (first | (go_at_call 14; exact later_of (hof _)) | (go_at_call 15; exact later_of (hlm _)) | (go_at_call 16; exact later_of (hml _)) | (go_at_call 17; exact later_of (hma _)) | (go_at_call 18; exact later_of (hle _)) | (go_at_call 19; exact later_of (hmf _))))
              refine wpQuiet_nil ?_
              intro _ hw'
              obtain ⟨p, rfl⟩ := hw'
              have HN9 : Hid (GpE w g q mp M N p.w) := HN.out.1.out.on p.hb
              generalize p.w = wm at HN9 ⊢
              clear x1 x2 x3 hof hlm hma hle hml hmf HN
              go_wp2
              go_roundw
              case rel => exact ⟨i + 1, by omega, by go_num, HN9⟩
              case measure => simp [intOf]; omega
          · have hP0 : 0 ≤ P := by omega
            go_upto_region 20 with fail
            by_cases hu0 : u = 0
            · subst hu0
              have hlt2 := h.lt
              have x1 := later_cell (b := mp) hlt2 m0
              have x2 := later_cell (b := mp) hlt2 m1
              have hla := HA.out.lt
              have x3 := later_cell (b := ab) hla a1
              have hof := h.of P
              rw [HO.out] at hof
              have hlm := h.lim
              have hma := h.may 0
              have hle := h.left 0 (by decide)
              have hml := h.mlim
              have hmf := h.mleft 0
              rw [show (decide (0 < 0) && decide (0 ≤ lim l)) = false from rfl] at hma
              generalize lim l = L at hlm hma hle hml hmf
              generalize L - 0 = R at hle hmf
              have e2 : ((L : Int) != (L : Int)) = false := by simp
              have e4 : ((R : Int) != (R : Int)) = false := by simp
              have HN := Lib.hid hcut
              clear h m0 m1 hlt2 hla a1 HR1 HA1 HA HO
              go_wp2_with fail
              refine wp_region_later mixed (by kernel_rfl) ?_
              repeat (go_big_quiet_step (first | (go_at_call 14; exact later_of (hof _)) | (go_at_call 15; exact later_of (hlm _)) | (go_at_call 16; exact later_of (hml _)) | (go_at_call 17; exact later_of (hma _)) | (go_at_call 18; exact later_of (hle _)) | (go_at_call 19; exact later_of (hmf _))))
              refine wpQuiet_nil ?_
              intro _ hw'
              obtain ⟨p, rfl⟩ := hw'
              have HN9 : Hid (GpE w g q mp M N p.w) := HN.out.1.out.on p.hb
              generalize p.w = wm at HN9 ⊢
              clear x1 x2 x3 hof hlm hma hle hml hmf HN
              go_wp2
              try simp only [Int.natCast_zero]
              go_roundw
              case rel => exact ⟨i + 1, by omega, by go_num, HN9⟩
              case measure => simp [intOf]; omega
            · skip
              have hlt2 := h.lt
              have x1 := later_cell (b := mp) hlt2 m0
              have x2 := later_cell (b := mp) hlt2 m1
              have hla := HA.out.lt
              have x3 := later_cell (b := ab) hla a1
              have hof := h.of P
              rw [HO.out] at hof
              have hlm := h.lim
              have hma := h.may u
              have hle := h.left u hu
              have hml := h.mlim
              have hmf := h.mleft u
              have hu1 : decide (0 < u) = true := by simp; omega
              rw [hu1, Bool.true_and] at hma
              generalize lim l = L at hlm hma hle hml hmf
              generalize L - u = R at hle hmf
              have e3 : (decide (u ≤ L) != decide (u ≤ L)) = false := by simp
              have e5 : ((u ≤ L) != (u ≤ L)) = false := by simp
              have e2 : ((L : Int) != (L : Int)) = false := by simp
              have e4 : ((R : Int) != (R : Int)) = false := by simp
              have HN := Lib.hid hcut
              clear h m0 m1 hlt2 hla a1 HR1 HA1 HA HO
              go_wp2_with fail
              refine wp_region_later mixed (by kernel_rfl) ?_
              repeat (go_big_quiet_step (first | (go_at_call 14; exact later_of (hof _)) | (go_at_call 15; exact later_of (hlm _)) | (go_at_call 16; exact later_of (hml _)) | (go_at_call 17; exact later_of (hma _)) | (go_at_call 18; exact later_of (hle _)) | (go_at_call 19; exact later_of (hmf _))))
              refine wpQuiet_nil ?_
              intro _ hw'
              obtain ⟨p, rfl⟩ := hw'
              have HN9 : Hid (GpE w g q mp M N p.w) := HN.out.1.out.on p.hb
              generalize p.w = wm at HN9 ⊢
              clear x1 x2 x3 hof hlm hma hle hml hmf HN
              go_wp2
              go_roundw
              case rel => exact ⟨i + 1, by omega, by go_num, HN9⟩
              case measure => simp [intOf]; omega
    · have hie : i = m := by omega
      go_wp2_with fail
      refine (awake_any wr).mono ?_
      rintro e w9 ⟨rfl, hb9⟩
      go_wp2
      go_ret
      exact ⟨rfl, HR.out.below.trans (hb9.mono HR.out.below.size)⟩

theorem own : ownKnob Try.prog.godebug = none := by kernel_rfl
theorem laidOut : laidOutB Try.prog = true := by kernel_rfl

set_option maxRecDepth 100000 in
theorem grantPlays_lifted (os : Os) (started : os.Started) (H : Type) (enc : TypeId × Value → H) :
    ReturnsInHanded {} Try.checked os 3 .any (Rows.grantPlaysSpec.pre6 enc Try.prog Try.f3 Rows.grantPlaysRow.domain false) (Rows.grantPlaysSpec.post enc Try.prog Try.f3 false true false false) := by
  refine returnsInHanded_of_change (C := Try.checked) own started (by kernel_rfl) Try.func3
    (ChangeSpec.witness6 (enc := enc) (C := Try.checked) false ⟨#[], #[.int .i64 0, .int .i64 0, .slice none 0 0, .int .u64 0], []⟩ 8 (by kernel_rfl) (by kernel_rfl) (by kernel_rfl) (by kernel_rfl)) ?_
  intro W base args ds gs before hval0 hW _ _
  have hval : ∀ (j : Nat) t v, Try.f3.params[j]? = some t → args[j]? = some v → Value.okWide Try.prog W .any base t v := hval0
  have hW' := hW
  obtain ⟨p, q, hA0, hV, rfl, _, _⟩ := hW
  have hA : DataW.TrodAll enc Try.prog W 0 (fun _ => true) true Try.f3.params.toList args.toList ds p := hA0
  rw [Try.params3] at hA hval
  obtain ⟨v0, vs0, d0, ds0, p0, q0, hargs, rfl, rfl, h0, r0⟩ := trodAll_cons hA
  obtain ⟨v1, vs1, d1, ds1, p1, q1, rfl, rfl, rfl, h1, r1⟩ := trodAll_cons r0
  obtain ⟨v2, vs2, d2, ds2, p2, q2, rfl, rfl, rfl, h2, r2⟩ := trodAll_cons r1
  obtain ⟨v3, vs3, d3, ds3, p3, q3, rfl, rfl, rfl, h3, r3⟩ := trodAll_cons r2
  obtain ⟨rfl, rfl, rfl⟩ := trodAll_nil r3
  obtain rfl : args = #[v0, v1, v2, v3] := by cases args; simp_all
  obtain ⟨rfl, rfl⟩ := trodVars_none hV
  have k0 := h0
  have lt0 : ∀ x ∈ p0, x.block < W.heap.size := by obtain ⟨m, hm⟩ := k0; exact DataW.trod_lt m _ _ _ hm
  have k1 := h1
  have lt1 : ∀ x ∈ p1, x.block < W.heap.size := by obtain ⟨m, hm⟩ := k1; exact DataW.trod_lt m _ _ _ hm
  have k2 := h2
  have lt2 : ∀ x ∈ p2, x.block < W.heap.size := by obtain ⟨m, hm⟩ := k2; exact DataW.trod_lt m _ _ _ hm
  have k3 := h3
  have lt3 : ∀ x ∈ p3, x.block < W.heap.size := by obtain ⟨m, hm⟩ := k3; exact DataW.trod_lt m _ _ _ hm
  obtain ⟨a0, rfl, _, _, wf0⟩ := open_int Try.underlying3 (hval 0 3 v0 rfl rfl) h0
  obtain ⟨a1, rfl, _, _, _⟩ := open_int Try.underlying3 (hval 1 3 v1 rfl rfl) h1
  obtain ⟨a3, rfl, _, _, wf3⟩ := open_int Try.underlying23 (hval 3 23 v3 rfl rfl) h3
  have hwalk : Calls Try.prog 3 #[.int .i64 a0, .int .i64 a1, v2, .int .u64 a3] W fun e w' => e = .returned (.bool true) ∧ Below W.heap.size W w' := by
    obtain ⟨fuel2, hf2⟩ := h2
    obtain ⟨x2, len2, cap2, rfl⟩ := okWide_slice Try.underlying22 (hval 2 22 v2 rfl rfl)
    obtain ⟨l, A, n, c, hv, hl, hc, hm, hL, hO⟩ := open_acts (by simpa [Value.cells] using hf2)
    injection hv with e1 e2 e3
    subst e1 e2 e3
    have b3 := bounds_u64 wf3
    obtain ⟨u, rfl⟩ : ∃ u : Nat, a3 = (u : Int) := ⟨a3.toNat, by omega⟩
    by_cases hn : 200 < len2
    · exact plays_many a0 a1 _ _ _ u W hn
    · exact plays_few a0 a1 (bounds_i64 wf0) x2 len2 cap2 u (by omega) l W (by omega) hl hL hO
  clear hA0 hval0
  refine hwalk.mono fun e W' ⟨he, bel⟩ => ?_
  subst he
  exact ⟨_, rfl, _, _, _, [], _, [], hW', trodAll_mk1 (shut_bool Try.underlying4 _), (trodAll_cons_mk (Below.trod laidOut (by kernel_rfl) (of_decide_eq_true (by kernel_rfl)) k0 bel lt0) (trodAll_cons_mk (Below.trod laidOut (by kernel_rfl) (of_decide_eq_true (by kernel_rfl)) k1 bel lt1) (trodAll_cons_mk (Below.trod laidOut (by kernel_rfl) (of_decide_eq_true (by kernel_rfl)) k2 bel lt2) (trodAll_cons_mk (Below.trod laidOut (by kernel_rfl) (of_decide_eq_true (by kernel_rfl)) k3 bel lt3) trodAll_mk0)))), rfl, bel.frame _, fun h => by cases h⟩

theorem grantPlays_proved : Rows.GrantPlaysSaid :=
  OpenClaim.holds_of_wide 3 Try.f3 rfl rfl rfl rfl rfl rfl rfl ⟨rfl, rfl, rfl, rfl, rfl⟩ rfl rfl rfl rfl rfl (by kernel_rfl) Try.func3 (by kernel_rfl)
    (of_decide_eq_true (by kernel_rfl)) (by unfold Func.isWrapper; first | (rw [if_pos (by decide +kernel)]; kernel_rfl) | (rw [if_neg (by decide +kernel)]; exact ⟨rfl, rfl⟩))
    (fun os started H enc _ => grantPlays_lifted os started H enc)

end Go.Proofs.Ytenaoinkjdaoeaa
