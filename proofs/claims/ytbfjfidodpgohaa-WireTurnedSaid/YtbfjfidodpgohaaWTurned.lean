/- WireTurned: for every frame, every place and every 32 bits the call returns true (a frame in which bits were turned that lie within 32 in a row isn't read), and changes nothing that was there. No conditions. -/
import Derived.Test.YtbfjfidodpgohaaT23
import Derived.Test.YtbfjfidodpgohaaT33
import Derived.ChangeOld

namespace Go.Proofs.Ytbfjfidodpgohaa
open Go.ChangeShapes Go.WideShapes Go.ChangeAt Go.RowKit Go.Sort

theorem get_bad {l : List UInt8} (h : fitsOf l = ([], 5)) : getOf l = (Fr.zero, 5) := by
  unfold getOf
  rw [h]
  rfl

set_option maxRecDepth 100000 in
theorem turned_great (F : Fr) (cs : Array Value) (p s : Int) (w : World) (hF : FrV w (fun _ => False) F cs) (hg : greatB F = true) :
    Calls Try.prog 6 #[.agg cs, .int .i64 p, .int .u32 s] w fun e w' => e = .returned (.bool true) ∧ RowKit.Below w.heap.size w w' := by
  have hB : RowKit.Below w.heap.size w (w.alloc (.cells cs 33)) := (RowKit.Below.refl _ _).alloc (Nat.le_refl _) _
  have HG : Hid (∀ W, RowKit.Below w.heap.size w W → Calls Try.prog 15 #[.agg cs] W fun e w' => e = .returned (.bool true) ∧ RowKit.Below W.heap.size W w') := fun W hW => by
    have := refGreat_any F cs W (FrL.on hF.slots hW)
    rw [hg] at this
    exact this
  have HS := Lib.hid hF.size
  have HB := Lib.hid hB
  clear hF hg hB
  go_enter Try.func6, Try.ntmps6
  go_wp2_with (first | (refine load_frame (.tmp 3) rfl (heap_alloc_new _ _) HS.out ?_) | fail)
  refine (HG.out _ HB.out).mono ?_
  rintro e w1 ⟨rfl, hb1⟩
  have HB1 : Hid (RowKit.Below w.heap.size w w1) := HB.out.trans (hb1.mono HB.out.size)
  clear hb1
  go_wp2_with fail
  refine (awake_any w1).mono ?_
  rintro e w2 ⟨rfl, hb2⟩
  go_wp2
  go_ret
  exact ⟨rfl, HB1.out.trans (hb2.mono HB1.out.size)⟩

set_option maxRecDepth 100000 in
theorem turned_not (F : Fr) (cs : Array Value) (p s : Int) (w : World) (hF : FrV w (fun _ => False) F cs) (hw : F.Wf) (hg : greatB F = false) (hm : mayF F = false ∨ s = 0) :
    Calls Try.prog 6 #[.agg cs, .int .i64 p, .int .u32 s] w fun e w' => e = .returned (.bool true) ∧ RowKit.Below w.heap.size w w' := by
  have hok := great_ok hg hw
  have hB : RowKit.Below w.heap.size w (w.alloc (.cells cs 33)) := (RowKit.Below.refl _ _).alloc (Nat.le_refl _) _
  have HG : Hid (∀ W, RowKit.Below w.heap.size w W → Calls Try.prog 15 #[.agg cs] W fun e w' => e = .returned (.bool false) ∧ RowKit.Below W.heap.size W w') := fun W hW => by
    have := refGreat_any F cs W (FrL.on hF.slots hW)
    rw [hg] at this
    exact this
  have HM : Hid (∀ W, RowKit.Below w.heap.size w W → Calls Try.prog 16 #[.agg cs] W fun e w' => e = .returned (.bool (mayF F)) ∧ RowKit.Below W.heap.size W w') := fun W hW => refMayF_any F cs W hok (FrL.on hF.slots hW)
  have HS := Lib.hid hF.size
  have HB := Lib.hid hB
  have HR0 : Hid ((w.alloc (.cells cs 33)).heap[w.heap.size]? = some (.cells cs 33 (0, 0))) := heap_alloc_new _ _
  clear hF hg hB hok hw
  by_cases h1 : mayF F = false
  · rw [h1] at HM
    clear h1 hm
    go_enter Try.func6, Try.ntmps6
    go_wp2_with (first | (refine load_frame (.tmp 3) rfl HR0.out HS.out ?_) | fail)
    refine (HG.out _ HB.out).mono ?_
    rintro e w1 ⟨rfl, hb1⟩
    have HR1 : Hid (w1.heap[w.heap.size]? = some (.cells cs 33 (0, 0))) := (hb1.block _ (Array.getElem?_eq_some_iff.1 HR0.out).1).trans HR0.out
    have HB1 : Hid (RowKit.Below w.heap.size w w1) := HB.out.trans (hb1.mono HB.out.size)
    clear hb1
    go_wp2_with (first | (refine load_frame_on (.tmp 3) rfl rfl HR1.out HS.out ?_) | fail)
    refine (HM.out _ HB1.out).mono ?_
    rintro e w2 ⟨rfl, hb2⟩
    have HB2 : Hid (RowKit.Below w.heap.size w w2) := HB1.out.trans (hb2.mono HB1.out.size)
    clear hb2
    go_wp2_with fail
    refine (awake_any w2).mono ?_
    rintro e w3 ⟨rfl, hb3⟩
    go_wp2
    go_ret
    exact ⟨rfl, HB2.out.trans (hb3.mono HB2.out.size)⟩
  · have h2 : s = 0 := hm.resolve_left h1
    subst h2
    have h3 : mayF F = true := by simpa using h1
    rw [h3] at HM
    clear h1 hm h3
    go_enter Try.func6, Try.ntmps6
    go_wp2_with (first | (refine load_frame (.tmp 3) rfl HR0.out HS.out ?_) | fail)
    refine (HG.out _ HB.out).mono ?_
    rintro e w1 ⟨rfl, hb1⟩
    have HR1 : Hid (w1.heap[w.heap.size]? = some (.cells cs 33 (0, 0))) := (hb1.block _ (Array.getElem?_eq_some_iff.1 HR0.out).1).trans HR0.out
    have HB1 : Hid (RowKit.Below w.heap.size w w1) := HB.out.trans (hb1.mono HB.out.size)
    clear hb1
    go_wp2_with (first | (refine load_frame_on (.tmp 3) rfl rfl HR1.out HS.out ?_) | fail)
    refine (HM.out _ HB1.out).mono ?_
    rintro e w2 ⟨rfl, hb2⟩
    have HB2 : Hid (RowKit.Below w.heap.size w w2) := HB1.out.trans (hb2.mono HB1.out.size)
    clear hb2
    go_wp2_with fail
    refine (awake_any w2).mono ?_
    rintro e w3 ⟨rfl, hb3⟩
    go_wp2
    go_ret
    exact ⟨rfl, HB2.out.trans (hb3.mono HB2.out.size)⟩

set_option maxRecDepth 100000 in
set_option maxHeartbeats 3200000 in
theorem turned_walk (F : Fr) (cs : Array Value) (p : Int) (s : Nat) (w : World) (hF : FrV w (fun _ => False) F cs) (hw : F.Wf) (hg : greatB F = false) (hm : mayF F = true) (hs : s < 4294967296) (hs0 : 0 < s) :
    Calls Try.prog 6 #[.agg cs, .int .i64 p, .int .u32 (s : Int)] w fun e w' => e = .returned (.bool true) ∧ RowKit.Below w.heap.size w w' := by
  have hok := great_ok hg hw
  have hB : RowKit.Below w.heap.size w (w.alloc (.cells cs 33)) := (RowKit.Below.refl _ _).alloc (Nat.le_refl _) _
  have HG : Hid (∀ W, RowKit.Below w.heap.size w W → Calls Try.prog 15 #[.agg cs] W fun e w' => e = .returned (.bool false) ∧ RowKit.Below W.heap.size W w') := fun W hW => by
    have := refGreat_any F cs W (FrL.on hF.slots hW)
    rw [hg] at this
    exact this
  have HM : Hid (∀ W, RowKit.Below w.heap.size w W → Calls Try.prog 16 #[.agg cs] W fun e w' => e = .returned (.bool true) ∧ RowKit.Below W.heap.size W w') := fun W hW => by
    have := refMayF_any F cs W hok (FrL.on hF.slots hW)
    rw [hm] at this
    exact this
  have HP : Hid (∀ W, RowKit.Below w.heap.size w W → Calls Try.prog 13 #[.agg cs] W (PutYes W F)) := fun W hW => wirePut_yes F cs W hok (hF.on hW) hm
  have hpl := put_len hm
  have HS := Lib.hid hF.size
  have HB := Lib.hid hB
  have HR0 : Hid ((w.alloc (.cells cs 33)).heap[w.heap.size]? = some (.cells cs 33 (0, 0))) := heap_alloc_new _ _
  have hput : putOf F = markOf (aheadOf F) := rfl
  have hput4 : (putOf F).length ≤ 4000 := put_4000 hok (great_data hg) hm
  have HPut := Lib.hid hput
  unfold PutYes at HP
  generalize putOf F = lp at HP hpl hput4 HPut
  generalize aheadOf F = la at HPut
  have hd2 : ((s : Int) == 0) = false := by simp; omega
  clear hF hg hB hok hw hm hput
  go_enter Try.func6, Try.ntmps6
  go_wp2_with (first | (refine load_frame (.tmp 3) rfl HR0.out HS.out ?_) | fail)
  refine (HG.out _ HB.out).mono ?_
  rintro e w1 ⟨rfl, hb1⟩
  have HR1 : Hid (w1.heap[w.heap.size]? = some (.cells cs 33 (0, 0))) := (hb1.block _ (Array.getElem?_eq_some_iff.1 HR0.out).1).trans HR0.out
  have HB1 : Hid (RowKit.Below w.heap.size w w1) := HB.out.trans (hb1.mono HB.out.size)
  clear hb1 HG HR0
  go_wp2_with (first | (refine load_frame_on (.tmp 3) rfl rfl HR1.out HS.out ?_) | fail)
  refine (HM.out _ HB1.out).mono ?_
  rintro e w2 ⟨rfl, hb2⟩
  have HR2 : Hid (w2.heap[w.heap.size]? = some (.cells cs 33 (0, 0))) := (hb2.block _ (Array.getElem?_eq_some_iff.1 HR1.out).1).trans HR1.out
  have HB2 : Hid (RowKit.Below w.heap.size w w2) := HB1.out.trans (hb2.mono HB1.out.size)
  clear hb2 HM HR1
  go_wp2_with (first | (refine load_frame (.tmp 3) rfl HR2.out HS.out ?_) | fail)
  refine (HP.out _ HB2.out).mono ?_
  rintro e w3 ⟨A1, n1, c1, rfl, hn1, hc1, hcm1, ho1, hb3⟩
  have hn11 : 11 ≤ n1 := by have := hn1.out; omega
  have hn14 : n1 ≤ 4000 := by have := hn1.out; omega
  have hnlt : decide ((n1 : Int) < 11) = false := by simp; omega
  obtain ⟨g, cap, hv, _, _⟩ := ho1.form (by omega)
  obtain ⟨rfl, rfl⟩ : A1 = some ⟨g, 0, none⟩ ∧ c1 = cap := by
    injection hv with h1 _ h2
    exact ⟨h1, h2⟩
  clear hv
  have hsz2 := HB2.out.size
  have hgw : w.heap.size ≤ g := by have := (ho1.lt g rfl).1; omega
  have HB3 : Hid (RowKit.Below w.heap.size w w3) := HB2.out.trans (hb3.mono HB2.out.size)
  have HN1 : Hid ((markOf la).length = n1) := by rw [← HPut.out]; exact hn1
  have HS0 : Hid (BurstRel w la 0 s 0 g n1 c1 w3) := ⟨lp, by rw [HPut.out]; exact Turned.start _ _ _, own_base ho1 hsz2, HB3.out⟩
  have HO1 := Lib.hid (own_base ho1 hsz2)
  clear ho1 hb3 hn1 HP HR2 hsz2 HS0
  by_cases hp0 : p < 0 ∨ 8 * (n1 : Int) - 32 < p
  · by_cases hp1 : p < 0
    · have hd3 : decide (p < 0) = true := by simpa using hp1
      clear hp0
      go_wp2_with fail
      refine (awake_any w3).mono ?_
      rintro e w4 ⟨rfl, hb4⟩
      go_wp2
      go_ret
      exact ⟨rfl, HB3.out.trans (hb4.mono HB3.out.size)⟩
    · have hd3 : decide (p < 0) = false := by simp; omega
      have hd4 : decide (8 * (n1 : Int) - 32 < p) = true := by simp; omega
      clear hp0
      go_wp2_with fail
      refine (awake_any w3).mono ?_
      rintro e w4 ⟨rfl, hb4⟩
      go_wp2
      go_ret
      exact ⟨rfl, HB3.out.trans (hb4.mono HB3.out.size)⟩
  · obtain ⟨p', rfl⟩ := Int.eq_ofNat_of_zero_le (show 0 ≤ p by omega)
    have hp8 : p' + 32 ≤ 8 * n1 := by omega
    have hd3 : decide ((p' : Int) < 0) = false := by simp
    have hd4 : decide (8 * (n1 : Int) - 32 < (p' : Int)) = false := by simp; omega
    have HST : Hid (BurstRel w la p' s 0 g n1 c1 w3) := ⟨lp, by rw [HPut.out]; exact Turned.start _ _ _, HO1.out, HB3.out⟩
    clear hp0 HO1
    go_wp2_with fail
    go_loopw [9, 10] (fun i _ wr => ∃ (q : Nat), q ≤ 32 ∧ i = .int .i64 q ∧ BurstRel w la p' s q g n1 c1 wr) (fun i _ _ => 32 - (intOf i).toNat)
    case atStart => exact ⟨0, Nat.zero_le _, rfl, HST.out⟩
    case round =>
      obtain ⟨q, hq, rfl, hR⟩ := hrel
      by_cases hlt : q < 32
      · have hx := bit_tmod s q
        by_cases hbit : s / 2 ^ q % 2 = 1
        · rw [hbit] at hx
          have HBt : Hid (s.testBit q = true) := by
            show s.testBit q = true
            rw [Nat.testBit_eq_decide_div_mod_eq, hbit]; rfl
          clear hbit
          obtain ⟨l', hT, hown, hbr⟩ := hR
          have hll : l'.length = n1 := by rw [hT.1]; exact HN1.out
          have hk8 : (p' + q) / 8 < n1 := by omega
          have hcell : wr.cell? ⟨g, (p' + q) / 8, none⟩ = some (.int .u8 ((l'.getD ((p' + q) / 8) 0).toNat : Int)) := by
            rw [hown.cellAt _ (by omega), bvs_at (by omega)]
            simp [bv, List.getD, hll, hk8]
          have hfr := hown.frozenAt ((p' + q) / 8)
          have HLL := Lib.hid hll
          have hx8 := (l'.getD ((p' + q) / 8) 0).toNat_lt
          have HT := Lib.hid hT
          have HOWN := Lib.hid hown
          have HBR := Lib.hid hbr
          clear hll hT hown hbr HST
          go_wp2_with fail
          rw [show (p' : Int) + (q : Int) = ((p' + q : Nat) : Int) from rfl]
          generalize hkk : p' + q = k at hk8 hcell hfr hx8 ⊢
          have HK := Lib.hid hkk
          generalize hyy : (l'.getD (k / 8) 0).toNat = y at hcell hx8
          have HY := Lib.hid hyy
          clear hkk hyy
          have hkb : k ≤ 100000 := by have := HK.out; omega
          go_region
          all_goals
            go_wp2
            go_roundw
            case rel =>
              refine ⟨q + 1, by omega, by go_num, ?_⟩
              exact BurstRel.yes HT.out HOWN.out HBR.out HBt.out HK.out (by have := HN1.out; have := HK.out; omega) HY.out hgw
            case measure => simp [intOf]; omega
        · have hb0 : s / 2 ^ q % 2 = 0 := by omega
          rw [hb0] at hx
          have HBt : Hid (s.testBit q = false) := by
            show s.testBit q = false
            rw [Nat.testBit_eq_decide_div_mod_eq, hb0]; rfl
          clear hbit hb0
          go_wp2
          go_roundw
          case rel => exact ⟨q + 1, by omega, by go_num, hR.no HBt.out⟩
          case measure => simp [intOf]; omega
      · have hq32 : q = 32 := by omega
        obtain ⟨l', hT, hown, hbr⟩ := hR
        have hT' : Turned (markOf la) l' p' s 32 := by rw [hq32] at hT; exact hT
        have hf := turned_bad hT' (by have := HN1.out; omega) hs (by omega)
        have hll : l'.length = n1 := by rw [hT.1]; exact HN1.out
        have HGet : Hid (Calls Try.prog 8 #[.slice (some ⟨g, 0, none⟩) n1 c1] wr (GetGot wr (Fr.zero, 5))) := by
          have := wireGet_any (some ⟨g, 0, none⟩) n1 c1 l' wr hll hn14 hc1 hcm1 (Lies.of_own hown)
          rw [get_bad hf] at this
          exact this
        have HBR := Lib.hid hbr
        clear hT hT' hf hll hq32 HST hown hbr
        go_wp2_with fail
        refine HGet.out.mono ?_
        rintro e w5 ⟨cs5, rfl, hfv, -, hb5⟩
        have HS5 := Lib.hid hfv.size
        have H15 := Lib.hid hfv.one
        have hB5 : RowKit.Below w5.heap.size w5 (w5.alloc (.cells cs5 33)) := (RowKit.Below.refl _ _).alloc (Nat.le_refl _) _
        have HSame : Hid (Calls Try.prog 10 #[.agg cs5, .agg zeroCells] (w5.alloc (.cells cs5 33)) fun e w' => e = .returned (.bool true) ∧ RowKit.Below (w5.alloc (.cells cs5 33)).heap.size (w5.alloc (.cells cs5 33)) w') := refSame_any Fr.zero cs5 zeroCells _ zero_ok (hfv.on hB5).slots (zero_frv _ (fun _ => False)).slots
        have HB5 : Hid (RowKit.Below w.heap.size w (w5.alloc (.cells cs5 33))) := (HBR.out.trans (hb5.mono HBR.out.size)).trans (hB5.mono (Nat.le_trans HBR.out.size hb5.size))
        clear hfv hb5 hB5 HGet
        go_wp2_with (first | (refine store_frame_new (.tmp 11) (.tmp 76) rfl rfl rfl rfl HS5.out H15.out ?_) | (refine load_frame_on (.tmp 11) rfl rfl (heap_alloc_new _ _) HS5.out ?_) | fail)
        refine HSame.out.mono ?_
        rintro e w6 ⟨rfl, hb6⟩
        have HB6 : Hid (RowKit.Below w.heap.size w w6) := HB5.out.trans (hb6.mono HB5.out.size)
        clear hb6 HSame
        go_wp2_with fail
        refine (awake_any w6).mono ?_
        rintro e w7 ⟨rfl, hb7⟩
        go_wp2
        go_ret
        exact ⟨rfl, HB6.out.trans (hb7.mono HB6.out.size)⟩

theorem wireTurned_any {v : Value} {F : Fr} {cs : Array Value} {w : World} (hv : v = .agg cs) (hF : FrV w (fun _ => False) F cs) (hw : F.Wf) (p s : Int) (hs : 0 ≤ s) (hs2 : s < 4294967296) :
    Calls Try.prog 6 #[v, .int .i64 p, .int .u32 s] w fun e w' => e = .returned (.bool true) ∧ RowKit.Below w.heap.size w w' := by
  subst hv
  by_cases hg : greatB F = true
  · exact turned_great F cs p s w hF hg
  · have hg' : greatB F = false := by simpa using hg
    by_cases hm : mayF F = false ∨ s = 0
    · exact turned_not F cs p s w hF hw hg' hm
    · obtain ⟨s', rfl⟩ := Int.eq_ofNat_of_zero_le hs
      have hm1 : mayF F = true := by
        cases h : mayF F
        · exact absurd (.inl h) hm
        · rfl
      exact turned_walk F cs p s' w hF hw hg' hm1 (by omega) (by
        have : (s' : Int) ≠ 0 := fun h => hm (.inr h)
        omega)

theorem own : ownKnob Try.prog.godebug = none := by kernel_rfl
theorem laidOut : laidOutB Try.prog = true := by kernel_rfl

set_option maxRecDepth 100000 in
theorem wireTurned_lifted (os : Os) (started : os.Started) (H : Type) (enc : TypeId × Value → H) :
    ReturnsInHanded {} Try.checked os 6 .any (Rows.wireTurnedSpec.pre6 enc Try.prog Try.f6 Rows.wireTurnedRow.domain false) (Rows.wireTurnedSpec.post enc Try.prog Try.f6 false true false false) := by
  refine returnsInHanded_of_change (C := Try.checked) own started (by kernel_rfl) Try.func6
    (ChangeSpec.witness6 (enc := enc) (C := Try.checked) false ⟨#[], #[.agg #[.int .u8 0, .int .u8 0, .int .u8 0, .int .u8 0, .int .u64 0, .int .u64 0, .int .u32 0, .int .u32 0, .int .u32 0, .int .u64 0, .int .u64 0, .slice none 0 0, .slice none 0 0, .slice none 0 0, .slice none 0 0, .slice none 0 0], .int .i64 0, .int .u32 0], []⟩ 8 (by kernel_rfl) (by kernel_rfl) (by kernel_rfl) (by kernel_rfl)) ?_
  intro W base args ds gs before hval0 hW _ _
  have hval : ∀ (j : Nat) t v, Try.f6.params[j]? = some t → args[j]? = some v → Value.okWide Try.prog W .any base t v := hval0
  have hW' := hW
  obtain ⟨p, q, hA0, hV, rfl, _, _⟩ := hW
  have hA : DataW.TrodAll enc Try.prog W 0 (fun _ => true) true Try.f6.params.toList args.toList ds p := hA0
  rw [Try.params6] at hA hval
  obtain ⟨v0, vs0, d0, ds0, p0, q0, hargs, rfl, rfl, h0, r0⟩ := trodAll_cons hA
  obtain ⟨v1, vs1, d1, ds1, p1, q1, rfl, rfl, rfl, h1, r1⟩ := trodAll_cons r0
  obtain ⟨v2, vs2, d2, ds2, p2, q2, rfl, rfl, rfl, h2, r2⟩ := trodAll_cons r1
  obtain ⟨rfl, rfl, rfl⟩ := trodAll_nil r2
  obtain rfl : args = #[v0, v1, v2] := by cases args; simp_all
  obtain ⟨rfl, rfl⟩ := trodVars_none hV
  have k0 := h0
  have lt0 : ∀ x ∈ p0, x.block < W.heap.size := by obtain ⟨m, hm⟩ := k0; exact DataW.trod_lt m _ _ _ hm
  have k1 := h1
  have lt1 : ∀ x ∈ p1, x.block < W.heap.size := by obtain ⟨m, hm⟩ := k1; exact DataW.trod_lt m _ _ _ hm
  have k2 := h2
  have lt2 : ∀ x ∈ p2, x.block < W.heap.size := by obtain ⟨m, hm⟩ := k2; exact DataW.trod_lt m _ _ _ hm
  obtain ⟨a1, rfl, _, _, _⟩ := open_int Try.underlying3 (hval 1 3 v1 rfl rfl) h1
  obtain ⟨a2, rfl, _, _, wf2⟩ := open_int Try.underlying29 (hval 2 29 v2 rfl rfl) h2
  have hwalk : Calls Try.prog 6 #[v0, .int .i64 a1, .int .u32 a2] W fun e w' => e = .returned (.bool true) ∧ Below W.heap.size W w' := by
    obtain ⟨F, cs, hv, hF, hwf⟩ := open_frame (hval 0 33 v0 rfl rfl) h0
    exact wireTurned_any hv hF hwf a1 a2 (by have := bounds_u32 wf2; omega) (by have := bounds_u32 wf2; omega)
  clear hA0 hval0
  refine hwalk.mono fun e W' ⟨he, bel⟩ => ?_
  subst he
  exact ⟨_, rfl, _, _, _, [], _, [], hW', trodAll_mk1 (shut_bool Try.underlying4 _), (trodAll_cons_mk (Below.trod laidOut (by kernel_rfl) (of_decide_eq_true (by kernel_rfl)) k0 bel lt0) (trodAll_cons_mk (Below.trod laidOut (by kernel_rfl) (of_decide_eq_true (by kernel_rfl)) k1 bel lt1) (trodAll_cons_mk (Below.trod laidOut (by kernel_rfl) (of_decide_eq_true (by kernel_rfl)) k2 bel lt2) trodAll_mk0))), rfl, bel.frame _, fun h => by cases h⟩

theorem wireTurned_proved : Rows.WireTurnedSaid :=
  OpenClaim.holds_of_wide 6 Try.f6 rfl rfl rfl rfl rfl rfl rfl ⟨rfl, rfl, rfl, rfl, rfl⟩ rfl rfl rfl rfl rfl (by kernel_rfl) Try.func6 (by kernel_rfl)
    (of_decide_eq_true (by kernel_rfl)) (by unfold Func.isWrapper; first | (rw [if_pos (by decide +kernel)]; kernel_rfl) | (rw [if_neg (by decide +kernel)]; exact ⟨rfl, rfl⟩))
    (fun os started H enc _ => wireTurned_lifted os started H enc)

end Go.Proofs.Ytbfjfidodpgohaa
