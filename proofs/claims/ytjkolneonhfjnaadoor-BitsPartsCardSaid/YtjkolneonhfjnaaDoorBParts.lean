/- BitsParts: for every number and every list of places the call returns true (what is missing and what is there are all places, each once, whatever was put in; together it is put in as one by one), and changes nothing that was there. Condition: the library's table lies as its initialiser lays it (the card ties that). -/
import Derived.Test.YtjkolneonhfjnaaDoorBsK
import Derived.Test.YtjkolneonhfjnaaDoorBsO
import Derived.Deep.CutBlock
namespace Go.Proofs.YtjkolneonhfjnaaDoor
open Go.ChangeShapes Go.WideShapes Go.ChangeAt Go.RowKit

set_option maxRecDepth 20000 in
theorem bitsParts_great (z : Int) (A : Option Addr) (nl c : Nat) (w : World) (hT : Tab w) (hg : 300 < nl ∨ 2000 < z) : Calls Tryd.prog 4 #[.int .i64 z, .slice A nl c] w fun e w' => e = .returned (.bool true) ∧ Below w.heap.size w w' := by
  have HA := Lib.hid (awake_any w hT)
  clear hT
  by_cases h1 : (300 : Int) < (nl : Int)
  · clear hg
    go_enter Tryd.func4, Tryd.ntmps4
    go_wp2_with fail
    refine HA.out.mono ?_
    rintro e w' ⟨rfl, hb⟩
    have HB := Lib.hid hb
    clear hb
    go_wp2_with fail
    go_ret
    exact ⟨rfl, HB.out⟩
  · have h2 : (2000 : Int) < z := by omega
    clear hg
    go_enter Tryd.func4, Tryd.ntmps4
    go_wp2_with fail
    refine HA.out.mono ?_
    rintro e w' ⟨rfl, hb⟩
    have HB := Lib.hid hb
    clear hb
    go_wp2_with fail
    go_ret
    exact ⟨rfl, HB.out⟩

set_option maxRecDepth 20000 in
set_option maxHeartbeats 3200000 in
theorem bitsParts_walk (z : Int) (A : Option Addr) (nl c : Nat) (l : List Int) (w : World) (hl : l.length = nl) (hL : Lies w w.heap.size A (zvs l)) (hT : Tab w) (hn : nl ≤ 300) (hz : z ≤ 2000) : Calls Tryd.prog 4 #[.int .i64 z, .slice A nl c] w fun e w' => e = .returned (.bool true) ∧ Below w.heap.size w w' := by
  have HT := Lib.hid hT
  have HL := Lib.hid hl
  have HA := Lib.hid hL
  obtain ⟨N, hN⟩ : ∃ N, z.toNat = N := ⟨_, rfl⟩
  have hN2 : N ≤ 2000 := by omega
  have HZ := Lib.hid (show max z 0 = (N : Int) by omega)
  have HN := Lib.hid (fun (W : World) => new_any z N hN W (by omega))
  have d1 : decide ((300 : Int) < (nl : Int)) = false := by simp; omega
  have d2 : decide ((2000 : Int) < z) = false := by simp; omega
  clear hT hl hL hz hN
  go_enter Tryd.func4, Tryd.ntmps4
  go_wp2_with fail
  refine (HN.out _).mono ?_
  rintro e w1 ⟨p, q, rfl, hS1, hp, hq, hb1⟩
  go_wp2_with fail
  refine (HN.out _).mono ?_
  rintro e w2 ⟨p2, q2, rfl, hS2, hp2, hq2, hb2⟩
  have H2 := TwoS.start hS1 hp hq hb1 hS2 hp2 hq2 hb2
  clear hS1 hp hq hb1 hS2 hp2 hq2 hb2 HN
  have HP := Lib.hid (H2.put1 A nl c l HL.out (by omega) (H2.argA HA.out))
  have HM0 := Lib.hid (show cntS (List.replicate N false) = 0 from cnt_none N)
  have HML := Lib.hid (show (List.replicate N false).length = N from List.length_replicate)
  generalize List.replicate N false = m at H2 HP HM0 HML
  clear H2
  rw [HM0.out] at HP
  go_wp2_with fail
  refine HP.out.mono ?_
  rintro e w3 ⟨rfl, h3⟩
  have H3 := Lib.hid h3
  clear h3 HP HM0
  have hcB : cntS (putS m l) - 0 ≤ 2000 := by
    have h1 := cnt_le (putS m l)
    have h2 := putS_len m l
    have h3 := HML.out
    omega
  rw [Nat.sub_zero] at hcB ⊢
  have HCC := Lib.hid (rfl : cntS (putS m l) = cntS (putS m l))
  generalize hC0 : cntS (putS m l) = C0 at hcB HCC ⊢
  have HC0 := Lib.hid hC0
  clear hC0 HCC
  go_wp2_with fail
  go_loopw [8] (fun s8 wr => ∃ j : Nat, j ≤ nl ∧ s8 = .int .i64 (j : Int) ∧ TwoS w p q p2 q2 (putS m l) (putS m (l.take j)) wr) (fun s8 _ => nl - (Lib.intOf s8).toNat)
  case atStart => exact ⟨0, Nat.zero_le _, rfl, H3.out⟩
  case round =>
    obtain ⟨j, hj, rfl, h4⟩ := hrel
    have H4 := Lib.hid h4
    clear h4
    by_cases hjn : j < nl
    · have hjl : j < l.length := by have := HL.out; omega
      obtain ⟨b, off, eA, hlt, hc0⟩ := HA.out.at_ (zvs_at hjl)
      have hc := (H4.out.below.cell (p := ⟨b, off + j, none⟩) hlt).trans hc0
      subst eA
      have HNX := Lib.hid (putS_next m l j hjl)
      generalize l[j] = x at hc HNX
      have HXA := Lib.hid (H4.out.on ((Below.refl _ _).alloc (Nat.le_refl _) (.cells #[.int .i64 x] 3)))
      have HP := Lib.hid (HXA.out.put2 (some ⟨wr.heap.size, 0, none⟩) 1 1 [x] rfl (by decide) (H4.out.new2 #[.int .i64 x] 3))
      clear hjl hlt hc0
      generalize hXA : World.alloc wr _ = XA at HP HXA
      go_wp2_with fail
      refine HP.out.mono ?_
      rintro e V6 ⟨rfl, h6, -⟩
      rw [putS_one, ← HNX.out] at h6
      have H6 := Lib.hid h6
      clear h6 HP HXA hXA hc
      go_wp2_with fail
      exact ⟨⟨j + 1, by omega, rfl, H6.out⟩, by simp [Lib.intOf]; omega⟩
    · obtain rfl : nl = j := by omega
      rw [show l.take nl = l from List.take_of_length_le (by have := HL.out; omega)] at H4
      have HML2 := Lib.hid ((putS_len m l).trans HML.out)
      clear HML hjn
      generalize putS m l = M at H4 HML2 HC0
      have HM1 := Lib.hid (missing_any H4.out.a (H4.out.tab HT.out) 0 0 rfl 2000)
      go_wp2_with fail
      refine HM1.out.mono ?_
      rintro e w5 ⟨A5, n5, c5, rfl, hn5, hc5, hm5, ho5, hb5⟩
      have H5 := Lib.hid (H4.out.on hb5)
      have hall : missL M 0 2000 = upTo M 0 M.length := (miss_all (Nat.le_refl _) (Nat.le_trans (upTo_le M 0 _) (by rw [HML2.out]; exact hN2))).symm
      rw [hall] at ho5 hn5
      have HL5 := Lib.hid (Lies.of_own ho5)
      have HLN := Lib.hid hn5.out
      have HSZ := Lib.hid (show Calls Tryd.prog 14 #[.pointer (some ⟨p, 0, none⟩)] w5 fun e w' => e = .returned (.int .i64 (N : Int)) ∧ w' = w5 by have := size_any H5.out.a; rwa [HML2.out] at this)
      have HH1 := Lib.hid (fun i => has_any H5.out.a i)
      have HH2 := Lib.hid (fun i => has_any H5.out.b i)
      have hn5B : n5 ≤ 2000 := by have := upTo_le M 0 M.length; rw [hn5.out, HML2.out] at this; omega
      clear ho5 hb5 HM1 H4 hall hn5
      go_wp2_with fail
      go_loopw [10, 11] (fun s10 s11 wr2 => ∃ (i a : Nat), i ≤ N ∧ s11 = .int .i64 (i : Int) ∧ s10 = .int .i64 (a : Int) ∧ (upTo M 0 i).length = a ∧ wr2 = w5) (fun _ s11 _ => N - (Lib.intOf s11).toNat)
      case atStart => exact ⟨0, 0, Nat.zero_le _, rfl, rfl, rfl, rfl⟩
      case round =>
        obtain ⟨i, a, hi, rfl, rfl, ha, rfl⟩ := hrel
        have HAT := Lib.hid ha
        clear ha
        by_cases hiN : i < N
        · have hiM : i < M.length := by have := HML2.out; omega
          have hh1 := HH1.out (i : Int)
          have hh2 := HH2.out (i : Int)
          rw [inS_nat] at hh1 hh2
          cases hv : M.getD i false
          · rw [hv] at hh1 hh2
            obtain ⟨hal, hcell, hnx⟩ := miss_at hiM hv HAT.out
            obtain ⟨b, off, eA, hlt, hc⟩ := HL5.out.at_ hcell
            subst eA
            have han : a < n5 := by rw [← HLN.out]; exact hal
            have HNX := Lib.hid hnx
            clear hv hal hcell hlt hiM hnx
            go_wp2_with (go_at_call 14; refine HSZ.out.mono ?_; rintro e w' ⟨rfl, rfl⟩)
            refine hh1.mono ?_
            rintro e w' ⟨rfl, rfl⟩
            go_wp2_with fail
            refine hh2.mono ?_
            rintro e w' ⟨rfl, rfl⟩
            go_wp2_with fail
            refine hh1.mono ?_
            rintro e w' ⟨rfl, rfl⟩
            go_wp2_with (go_at_call 14; refine HSZ.out.mono ?_; rintro e w' ⟨rfl, rfl⟩)
            exact ⟨⟨i + 1, a + 1, hiN, rfl, rfl, HNX.out, trivial⟩, by simp [Lib.intOf]; omega⟩
          · rw [hv] at hh1 hh2
            have HNX := Lib.hid (miss_no hiM hv HAT.out)
            clear hv hiM
            go_wp2_with (go_at_call 14; refine HSZ.out.mono ?_; rintro e w' ⟨rfl, rfl⟩)
            refine hh1.mono ?_
            rintro e w' ⟨rfl, rfl⟩
            go_wp2_with fail
            refine hh2.mono ?_
            rintro e w' ⟨rfl, rfl⟩
            go_wp2_with fail
            refine hh1.mono ?_
            rintro e w' ⟨rfl, rfl⟩
            go_wp2_with (go_at_call 14; refine HSZ.out.mono ?_; rintro e w' ⟨rfl, rfl⟩)
            exact ⟨⟨i + 1, a, hiN, rfl, rfl, HNX.out, trivial⟩, by simp [Lib.intOf]; omega⟩
        · obtain rfl : N = i := by omega
          have e : n5 = a := by rw [← HLN.out, ← HAT.out, HML2.out]
          have hsum : C0 + a = N := by have := there_missing M; rw [HML2.out, HC0.out, HAT.out] at this; exact this
          subst e
          have hs : (C0 : Int) + (n5 : Int) = (N : Int) := by omega
          have hC := count_any H5.out.a
          rw [HC0.out] at hC
          have hAW := awake_any _ (H5.out.tab HT.out)
          have hz := HZ.out
          have e1 : ((n5 : Int) == (n5 : Int)) = true := by simp
          have e2 : ((C0 : Int) == (C0 : Int)) = true := by simp
          have e3 : ((N : Int) == (N : Int)) = true := by simp
          clear hiN hsum HML2 HC0
          go_wp2_with (first
            | (go_at_call 14; refine HSZ.out.mono ?_; rintro e w' ⟨rfl, rfl⟩)
            | (go_at_call 15; refine hC.mono ?_; rintro e w' ⟨rfl, rfl⟩))
          refine hAW.mono ?_
          rintro e w8 ⟨rfl, hb8⟩
          have H8 := Lib.hid (H5.out.on hb8)
          clear hb8 hAW H5
          go_wp2_with fail
          go_ret
          exact ⟨rfl, H8.out.below⟩

/-! ### The frame -/
theorem bitsParts_reads (os : Os) {H : Type} (enc : TypeId × Value → H) : ∃ places, DataW.whole enc Tryd.prog ((laidWorld os).forCall (fun _ _ => 0) ⟨#[], #[.int .i64 0, .slice none 0 0], []⟩).memory Tryd.f4.params.toList Rows.bitsPartsSpec.vars false #[.int .i64 0, .slice none 0 0].toList 8 = some ([.lit (.int .i64 0), .nil], [], places) :=
  ⟨[], by kernel_rfl⟩
theorem bitsParts_laid (os : Os) : laidMet Tryd.prog Rows.bitsPartsRow.laid ((laidWorld os).forCall (fun _ _ => 0) ⟨#[], #[.int .i64 0, .slice none 0 0], []⟩).memory :=
  laidMet_of_run' 8 (by kernel_rfl) (by kernel_rfl)

set_option maxRecDepth 100000 in
theorem bitsParts_contract (H : Type) (enc : TypeId × Value → H) (W : World) (base : Nat) (args : Array Value) (ds gs : List (DataW H)) (before : List MemPlace)
    (hval : ∀ (j : Nat) t v, Tryd.f4.params[j]? = some t → args[j]? = some v → Value.okWide Tryd.prog W .any base t v)
    (hW : DataW.Whole enc Tryd.prog Tryd.f4.params.toList Rows.bitsPartsSpec.vars false W args.toList ds gs before) (hL : laidMetH Tryd.prog Rows.bitsPartsRow.laid W) :
    Calls Tryd.prog 4 args W fun e W' => ∃ v, e = .returned v ∧ Rows.bitsPartsSpec.post enc Tryd.prog Tryd.f4 false true false false W args v W' := by
  have hT : Tab W := tab_of hL
  have hW' := hW
  obtain ⟨p, q, hA0, hV, rfl, _, _⟩ := hW
  have hA : DataW.TrodAll enc Tryd.prog W 0 (fun _ => true) true Tryd.f4.params.toList args.toList ds p := hA0
  rw [Tryd.params4] at hA hval
  obtain ⟨v0, vs0, d0, ds0, p0, q0, hargs, rfl, rfl, h0, r0⟩ := trodAll_cons hA
  obtain ⟨v1, vs1, d1, ds1, p1, q1, rfl, rfl, rfl, h1, r1⟩ := trodAll_cons r0
  obtain ⟨rfl, rfl, rfl⟩ := trodAll_nil r1
  obtain rfl : args = #[v0, v1] := by cases args; simp_all
  obtain ⟨rfl, rfl⟩ := trodVars_none hV
  have k0 := h0
  have lt0 : ∀ x ∈ p0, x.block < W.heap.size := by obtain ⟨m, hm⟩ := k0; exact DataW.trod_lt m _ _ _ hm
  have k1 := h1
  have lt1 : ∀ x ∈ p1, x.block < W.heap.size := by obtain ⟨m, hm⟩ := k1; exact DataW.trod_lt m _ _ _ hm
  obtain ⟨a0, rfl, _, _, _⟩ := open_int Tryd.underlying3 (hval 0 3 v0 rfl rfl) h0
  have hwalk : Calls Tryd.prog 4 #[.int .i64 a0, v1] W fun e w' => e = .returned (.bool true) ∧ Below W.heap.size W w' := by
    obtain ⟨a1, len1, cap1, rfl⟩ := okWide_slice Tryd.underlying22 (hval 1 22 v1 rfl rfl)
    obtain ⟨fuel1, hf1⟩ := h1
    obtain ⟨l, A, n, c, hv, hl, _, _, hL⟩ := open_zs Tryd.underlying22 Tryd.underlying3 (by kernel_rfl) (by simpa [Value.cells] using hf1)
    injection hv with e1 e2 e3
    subst e1 e2 e3
    by_cases hg : 300 < len1 ∨ 2000 < a0
    · exact bitsParts_great a0 a1 len1 cap1 W hT hg
    · exact bitsParts_walk a0 a1 len1 cap1 l W hl hL hT (by omega) (by omega)
  clear hA0 hL
  refine hwalk.mono fun e W' ⟨he, bel⟩ => ?_
  subst he
  exact ⟨_, rfl, _, _, _, [], _, [], hW', trodAll_mk1 (shut_bool Tryd.underlying4 _), (trodAll_cons_mk (Below.trod laidOut (by kernel_rfl) (of_decide_eq_true (by kernel_rfl)) k0 bel lt0) (trodAll_cons_mk (Below.trod laidOut (by kernel_rfl) (of_decide_eq_true (by kernel_rfl)) k1 bel lt1) trodAll_mk0)), rfl, bel.frame _, fun h => by cases h⟩

set_option maxRecDepth 100000 in
theorem bitsParts_lifted (os : Os) (started : os.Started) (H : Type) (enc : TypeId × Value → H) (F : Stop.Interp) :
    ReturnsInHanded {} Tryd.checked os 4 .any ((OpenSpec.ofChange Rows.bitsPartsSpec).preRow enc Tryd.prog Tryd.f4 Rows.bitsPartsRow.domain false Rows.bitsPartsRow.laid) (((OpenSpec.ofChange Rows.bitsPartsSpec).at F).post enc Tryd.prog Tryd.f4 false true false false) := by
  obtain ⟨places, hx⟩ := bitsParts_reads os enc
  refine returnsInHanded_of_row (C := Tryd.checked) (s := OpenSpec.ofChange Rows.bitsPartsSpec) own started (by kernel_rfl) Tryd.func4
    (witness_row_at (enc := enc) (C := Tryd.checked) false (laidWorld os) #[.int .i64 0, .slice none 0 0] rfl (by kernel_rfl) (by kernel_rfl) (by kernel_rfl)
      (OpenSpec.preRow_of_cond 8 hx (by kernel_rfl) (fun k hk => by cases hk) (by kernel_rfl) (bitsParts_laid os))) ?_
  intro W base args ds gs before hval hW _ _ _ hL _ _
  exact bitsParts_contract H enc W base args ds gs before hval hW hL

theorem bitsParts_said : Rows.BitsPartsSaid :=
  OpenClaim.holds_of_cond 4 Tryd.f4 rfl rfl rfl rfl rfl rfl rfl ⟨rfl, rfl, rfl, rfl, rfl⟩ rfl rfl rfl rfl rfl (by kernel_rfl) Tryd.func4 (by kernel_rfl)
    (of_decide_eq_true (by kernel_rfl)) (by unfold Func.isWrapper; first | (rw [if_pos (by decide +kernel)]; kernel_rfl) | (rw [if_neg (by decide +kernel)]; exact ⟨rfl, rfl⟩))
    (fun os started H enc _ F => by rw [OpenClaim.pre_eq_preRow]; exact bitsParts_lifted os started H enc F)

theorem bitsParts_plain (f : FuncId) (fn : Func) (hf : Tryd.pinned.checked.prog.funcNamed "unison/unisonlaw11.BitsParts" = some f) (hfn : Tryd.pinned.checked.prog.funcs[f]? = some fn) :
    false = Tryd.pinned.checked.prog.looks [] ∧ ∀ (j : Nat) t, fn.params[j]? = some t → Tryd.pinned.checked.prog.wantsStandIn t = false := by
  obtain rfl : f = 4 := Option.some.inj ((show Tryd.prog.funcNamed "unison/unisonlaw11.BitsParts" = some 4 by kernel_rfl).symm.trans hf) |>.symm
  obtain rfl : fn = Tryd.f4 := (Option.some.inj (Tryd.func4.symm.trans hfn)).symm
  refine ⟨by kernel_rfl, fun j t ht => ?_⟩
  rw [Tryd.params4] at ht
  have hm := Array.mem_of_getElem? ht
  have hs : t = 3 ∨ t = 22 := by simpa using hm
  clear hm ht
  rcases hs with rfl | rfl
  · exact (show Tryd.prog.wantsStandIn 3 = false by kernel_rfl)
  · exact (show Tryd.prog.wantsStandIn 22 = false by kernel_rfl)

theorem bitsParts_proved : Rows.BitsPartsCardSaid :=
  Claim7.holds_tied_plain_at .later [] _ _ _ _ bitsParts_said (fun _ h => by cases h) (by kernel_rfl) (fun _ h => by cases h) bitsParts_row_tie rfl ⟨rfl, rfl⟩ (by kernel_rfl) rfl bitsParts_plain (by kernel_rfl)

end Go.Proofs.YtjkolneonhfjnaaDoor
