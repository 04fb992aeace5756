/- BitsTurns: for every number and every list of places the call returns true (in which order places are put in, and how often, plays no part), and changes nothing that was there. Condition: the library's table lies as its initialiser lays it (the card ties that). -/
import Derived.Test.YtjkolneonhfjnaaDoorBsK
import Derived.Test.YtjkolneonhfjnaaDoorBsN
import Derived.Deep.CutBlock
namespace Go.Proofs.YtjkolneonhfjnaaDoor
open Go.ChangeShapes Go.WideShapes Go.ChangeAt Go.RowKit

set_option maxRecDepth 20000 in
theorem bitsTurns_great (z : Int) (A : Option Addr) (nl c : Nat) (w : World) (hT : Tab w) (hg : 300 < nl ∨ 2000 < z) : Calls Tryd.prog 6 #[.int .i64 z, .slice A nl c] w fun e w' => e = .returned (.bool true) ∧ Below w.heap.size w w' := by
  have HA := Lib.hid (awake_any w hT)
  clear hT
  by_cases h1 : (300 : Int) < (nl : Int)
  · clear hg
    go_enter Tryd.func6, Tryd.ntmps6
    go_wp2_with fail
    refine HA.out.mono ?_
    rintro e w' ⟨rfl, hb⟩
    have HB := Lib.hid hb
    clear hb
    go_wp2_with fail
    go_ret
    exact ⟨rfl, HB.out⟩
  · have h2 : (2000 : Int) < z := by omega
    clear hg
    go_enter Tryd.func6, Tryd.ntmps6
    go_wp2_with fail
    refine HA.out.mono ?_
    rintro e w' ⟨rfl, hb⟩
    have HB := Lib.hid hb
    clear hb
    go_wp2_with fail
    go_ret
    exact ⟨rfl, HB.out⟩

set_option maxRecDepth 20000 in
set_option maxHeartbeats 3200000 in
theorem bitsTurns_walk (z : Int) (A : Option Addr) (nl c : Nat) (l : List Int) (w : World) (hl : l.length = nl) (hL : Lies w w.heap.size A (zvs l)) (hT : Tab w) (hn : nl ≤ 300) (hz : z ≤ 2000) : Calls Tryd.prog 6 #[.int .i64 z, .slice A nl c] w fun e w' => e = .returned (.bool true) ∧ Below w.heap.size w w' := by
  have HT := Lib.hid hT
  have HL := Lib.hid hl
  have HA := Lib.hid hL
  obtain ⟨N, hN⟩ : ∃ N, z.toNat = N := ⟨_, rfl⟩
  have HN := Lib.hid (fun (W : World) => new_any z N hN W (by omega))
  have d1 : decide ((300 : Int) < (nl : Int)) = false := by simp; omega
  have d2 : decide ((2000 : Int) < z) = false := by simp; omega
  clear hT hl hL hz
  go_enter Tryd.func6, Tryd.ntmps6
  go_wp2_with fail
  refine (HN.out _).mono ?_
  rintro e w1 ⟨p, q, rfl, hS1, hp, hq, hb1⟩
  go_wp2_with fail
  refine (HN.out _).mono ?_
  rintro e w2 ⟨p2, q2, rfl, hS2, hp2, hq2, hb2⟩
  have H2 := TwoS.start hS1 hp hq hb1 hS2 hp2 hq2 hb2
  clear hS1 hp hq hb1 hS2 hp2 hq2 hb2 HN
  have HP := Lib.hid (H2.put1 A nl c l HL.out (by omega) (H2.argA HA.out))
  have HM : Hid (List.replicate N false = List.replicate N false) := rfl
  clear HM
  generalize List.replicate N false = m at H2 HP
  clear H2
  go_wp2_with fail
  refine HP.out.mono ?_
  rintro e w3 ⟨rfl, h3⟩
  have H3 := Lib.hid h3
  clear h3 HP
  go_wp2_with fail
  go_loopw [7] (fun s7 wr => ∃ (j : Nat) (L : List Int), j ≤ nl ∧ s7 = .int .i64 ((j : Int) - 1) ∧ TwoS w p q p2 q2 (putS m l) (putS m L) wr ∧ (∀ x, x ∈ L ↔ x ∈ l.drop j)) (fun s7 _ => (Lib.intOf s7 + 1).toNat)
  case atStart =>
    refine ⟨nl, [], Nat.le_refl _, rfl, H3.out, fun x => ?_⟩
    rw [List.drop_of_length_le (by have := HL.out; omega)]
  case round =>
    obtain ⟨j, L, hj, rfl, h4, hmem⟩ := hrel
    have H4 := Lib.hid h4
    have HMEM := Lib.hid hmem
    clear h4 hmem
    by_cases hj0 : j = 0
    · subst hj0
      have e : putS m L = putS m l := putS_same m (by have := HMEM.out; simpa using this)
      rw [e] at H4
      clear HMEM e
      generalize putS m l = M at H4
      have hC := count_any H4.out.a
      have hC2 := count_any H4.out.b
      have hF := full_any H4.out.a
      have hF2 := full_any H4.out.b
      have hcB : cntS M ≤ 1048576 := Nat.le_trans (cnt_le M) H4.out.a.lt.2.2.2
      generalize hfb : ((cntS M : Int) == (M.length : Int)) = fb at hF hF2
      generalize cntS M = C at hC hC2 hfb hcB
      have e1 : ((C : Int) == (C : Int)) = true := by simp
      have e2 : (fb == fb) = true := by simp
      have hM1 := missing_any H4.out.a (H4.out.tab HT.out) 0 0 rfl 2000
      have HM1 := Lib.hid hM1
      clear hfb hM1
      go_wp2_with (first
        | (go_at_call 15; first | (refine hC.mono ?_; rintro e w' ⟨rfl, rfl⟩) | (refine hC2.mono ?_; rintro e w' ⟨rfl, rfl⟩))
        | (go_at_call 16; first | (refine hF.mono ?_; rintro e w' ⟨rfl, rfl⟩) | (refine hF2.mono ?_; rintro e w' ⟨rfl, rfl⟩)))
      refine HM1.out.mono ?_
      rintro e w5 ⟨A5, n5, c5, rfl, hn5, hc5, hm5, ho5, hb5⟩
      have H5 := Lib.hid (H4.out.on hb5)
      have HL5 := Lib.hid (Lies.of_own ho5)
      have HM2 := Lib.hid (missing_any H5.out.b (H5.out.tab HT.out) 0 0 rfl 2000)
      clear hC hC2 hF hF2 ho5 hb5 HM1 H4
      go_wp2_with fail
      refine HM2.out.mono ?_
      rintro e w6 ⟨A6, n6, c6, rfl, hn6, hc6, hm6, ho6, hb6⟩
      obtain rfl : n5 = n6 := hn5.out.symm.trans hn6.out
      have H6 := Lib.hid (H5.out.on hb6)
      have hlen : n5 ≤ 2000 := by rw [← hn5.out]; exact miss_len M 0
      have HSM := Lib.hid (refSame_any A5 A6 n5 c5 c6 (missL M 0 2000) hn5.out hlen (HL5.out.on hb6) (Lies.of_own ho6))
      clear ho6 hb6 HM2 H5 HL5 hn6 hlen
      go_wp2_with fail
      refine HSM.out.mono ?_
      rintro e w7 ⟨rfl, hb7⟩
      have H7 := Lib.hid (H6.out.on hb7)
      have HAW := Lib.hid (awake_any w7 (H7.out.tab HT.out))
      clear hb7 HSM H6
      go_wp2_with fail
      refine HAW.out.mono ?_
      rintro e w8 ⟨rfl, hb8⟩
      have H8 := Lib.hid (H7.out.on hb8)
      clear hb8 HAW H7
      go_wp2_with fail
      go_ret
      exact ⟨rfl, H8.out.below⟩
    · obtain ⟨i, rfl⟩ : ∃ i, j = i + 1 := ⟨j - 1, by omega⟩
      have hil : i < l.length := by have := HL.out; omega
      have ei : (((i + 1 : Nat) : Int)) - 1 = (i : Int) := by omega
      rw [ei]
      clear ei hj0
      obtain ⟨b, off, eA, hlt, hc⟩ := HA.out.at_ (zvs_at hil)
      subst eA
      have HMEM2 := Lib.hid (show ∀ x, x ∈ L ++ [l[i], l[i]] ↔ x ∈ l.drop i from fun x => by
        rw [List.drop_eq_getElem_cons hil, List.mem_append, HMEM.out]
        simp only [List.mem_cons, List.not_mem_nil, or_false, or_self]
        exact ⟨fun h => h.elim .inr .inl, fun h => h.elim .inr .inl⟩)
      generalize l[i] = x at hc HMEM2
      have z0 : ∀ V, OnlyE wr V (DS p2 q2) → V.cell? ⟨b, off + i, none⟩ = some (.int .i64 x) := fun V hV =>
        (World.cell?_of_block (hV.same b (Nat.lt_of_lt_of_le hlt H4.out.below.size) (by have h1 := H4.out.hp2; have h2 := H4.out.hq2; rintro (e | e) <;> omega))).trans ((H4.out.below.cell (p := ⟨b, off + i, none⟩) hlt).trans hc)
      have hiB : i < 300 := by have := HL.out; omega
      have hil2 : i < nl := by have := HL.out; omega
      clear HMEM hil hc hlt
      go_wp2_with fail
      have hHD : OnlyE wr wr.drew (DS p2 q2) := onlyE_drew _ _
      refine wp_region_held_drew (S := fun V => OnlyE wr V (DS p2 q2)) (by kernel_rfl) hHD (fun hHeld => ?_)
      clear hHD
      have hHeld : OnlyE wr wr.drew (DS p2 q2) := onlyE_drew _ _
      have HX := Lib.hid (H4.out.on (Below.refl _ _).drew)
      generalize wr.drew = X at hHeld HX ⊢
      refine wpAnyH_takeAt (i := 0) (d := 30) (v := ?_) rfl rfl (by kernel_rfl) (by kernel_rfl) (by kernel_rfl) (fun _ _ _ h => h) (Or.inl ⟨by rfl, ?_⟩) hHeld ?_
      rotate_left
      · (intro _ hSw; go_simp; try with_reducible rfl)
      simp only [List.setIfInBounds_toArray, List.set_cons_zero, List.set_cons_succ]
      refine wpAnyH_takeAt (i := 1) (d := 31) (v := ?_) rfl rfl (by kernel_rfl) (by kernel_rfl) (by kernel_rfl) (fun _ _ _ h => h) (Or.inl ⟨by rfl, ?_⟩) hHeld ?_
      rotate_left
      · (intro _ hSw; go_simp; try with_reducible rfl)
      simp only [List.setIfInBounds_toArray, List.set_cons_zero, List.set_cons_succ]
      refine wpAnyH_takeAt (i := 2) (d := 32) (v := ?_) rfl rfl (by kernel_rfl) (by kernel_rfl) (by kernel_rfl) (fun _ _ _ h => h) (Or.inl ⟨by rfl, ?_⟩) hHeld ?_
      rotate_left
      · (intro _ hSw; go_simp; try with_reducible rfl)
      simp only [List.setIfInBounds_toArray, List.set_cons_zero, List.set_cons_succ]
      refine wpAnyH_takeAt (i := 3) (d := 33) (v := ?_) rfl rfl (by kernel_rfl) (by kernel_rfl) (by kernel_rfl) (fun _ _ _ h => h) (Or.inl ⟨by rfl, ?_⟩) hHeld ?_
      rotate_left
      · (intro _ hSw; go_simp; try with_reducible rfl)
      simp only [List.setIfInBounds_toArray, List.set_cons_zero, List.set_cons_succ]
      refine wpAnyH_takeAt (i := 4) (d := 34) (v := ?_) rfl rfl (by kernel_rfl) (by kernel_rfl) (by kernel_rfl) (fun _ _ _ h => h) (Or.inl ⟨by rfl, ?_⟩) hHeld ?_
      rotate_left
      · (intro _ hSw; go_simp; try with_reducible rfl)
      simp only [List.setIfInBounds_toArray, List.set_cons_zero, List.set_cons_succ]
      refine wpAnyH_takeAt (i := 5) (d := 35) (v := ?_) rfl rfl (by kernel_rfl) (by kernel_rfl) (by kernel_rfl) (fun _ _ _ h => h) (Or.inl ⟨by rfl, ?_⟩) hHeld ?_
      rotate_left
      · (intro _ hSw; go_simp; try with_reducible rfl)
      simp only [List.setIfInBounds_toArray, List.set_cons_zero, List.set_cons_succ]
      refine wpAnyH_takeAt (i := 6) (d := 36) (v := ?_) rfl rfl (by kernel_rfl) (by kernel_rfl) (by kernel_rfl) (fun _ _ _ h => h) (Or.inl ⟨by rfl, ?_⟩) hHeld ?_
      rotate_left
      · (intro _ hSw; go_simp; try with_reducible rfl)
      simp only [List.setIfInBounds_toArray, List.set_cons_zero, List.set_cons_succ]
      refine wpAnyH_takeAt (i := 7) (d := 37) (v := ?_) rfl rfl (by kernel_rfl) (by kernel_rfl) (by kernel_rfl) (fun _ _ _ h => h) (Or.inl ⟨by rfl, ?_⟩) hHeld ?_
      rotate_left
      · (intro _ hSw; go_simp; try with_reducible rfl)
      simp only [List.setIfInBounds_toArray, List.set_cons_zero, List.set_cons_succ]
      refine wpAnyH_takeAt (i := 8) (d := 38) (v := ?_) rfl rfl (by kernel_rfl) (by kernel_rfl) (by kernel_rfl) (fun _ _ _ h => h) (Or.inl ⟨by rfl, ?_⟩) hHeld ?_
      rotate_left
      · (intro _ hSw; go_simp; try with_reducible rfl)
      simp only [List.setIfInBounds_toArray, List.set_cons_zero, List.set_cons_succ]
      refine wpAnyH_ready (rs := [9]) (by kernel_rfl) (by simp) ?_
      refine AllReadyH.cons rfl (fun K hK => ?_) AllReadyH.nil
      go_simp
      have hH : OnlyE wr (X.alloc (.cells #[.int .i64 x, .int .i64 x] 3)) (DS p2 q2) := OnlyE.trans hHeld (OnlyE.of_below ((Below.refl _ _).alloc (Nat.le_refl _) _))
      have HXA := Lib.hid (HX.out.on ((Below.refl _ _).alloc (Nat.le_refl _) (.cells #[.int .i64 x, .int .i64 x] 3)))
      have HP := Lib.hid (HXA.out.put2 (some ⟨X.heap.size, 0, none⟩) 2 2 [x, x] rfl (by decide) (HX.out.new2 #[.int .i64 x, .int .i64 x] 3))
      refine hK.out _ _ hH (fun _ => ?_)
      clear hK K hHeld
      have hHeld := hH
      clear hH HX
      generalize hXA : World.alloc X _ = XA at HP HXA hHeld
      refine wpAnyH_ready (rs := [10]) (by kernel_rfl) (by simp) ?_
      refine AllReadyH.cons rfl (fun K hK => ?_) AllReadyH.nil
      go_simp
      refine HP.out.mono ?_
      rintro e V6 ⟨rfl, h6, ho6⟩
      have hH : OnlyE wr V6 (DS p2 q2) := OnlyE.trans hHeld ho6
      have H6 := Lib.hid h6
      refine hK.out _ _ hH (fun _ => ?_)
      clear hK K hHeld hH HP h6 ho6
      refine wpAnyH_done (by kernel_rfl) ?_ _
      clear z0
      go_wp2_with fail
      have H6b := H6.out
      rw [← putS_append] at H6b
      exact ⟨⟨i, L ++ [x, x], by omega, by go_num, H6b, HMEM2.out⟩, by simp [Lib.intOf]⟩

/-! ### The frame -/
theorem bitsTurns_reads (os : Os) {H : Type} (enc : TypeId × Value → H) : ∃ places, DataW.whole enc Tryd.prog ((laidWorld os).forCall (fun _ _ => 0) ⟨#[], #[.int .i64 0, .slice none 0 0], []⟩).memory Tryd.f6.params.toList Rows.bitsTurnsSpec.vars false #[.int .i64 0, .slice none 0 0].toList 8 = some ([.lit (.int .i64 0), .nil], [], places) :=
  ⟨[], by kernel_rfl⟩
theorem bitsTurns_laid (os : Os) : laidMet Tryd.prog Rows.bitsTurnsRow.laid ((laidWorld os).forCall (fun _ _ => 0) ⟨#[], #[.int .i64 0, .slice none 0 0], []⟩).memory :=
  laidMet_of_run' 8 (by kernel_rfl) (by kernel_rfl)

set_option maxRecDepth 100000 in
theorem bitsTurns_contract (H : Type) (enc : TypeId × Value → H) (W : World) (base : Nat) (args : Array Value) (ds gs : List (DataW H)) (before : List MemPlace)
    (hval : ∀ (j : Nat) t v, Tryd.f6.params[j]? = some t → args[j]? = some v → Value.okWide Tryd.prog W .any base t v)
    (hW : DataW.Whole enc Tryd.prog Tryd.f6.params.toList Rows.bitsTurnsSpec.vars false W args.toList ds gs before) (hL : laidMetH Tryd.prog Rows.bitsTurnsRow.laid W) :
    Calls Tryd.prog 6 args W fun e W' => ∃ v, e = .returned v ∧ Rows.bitsTurnsSpec.post enc Tryd.prog Tryd.f6 false true false false W args v W' := by
  have hT : Tab W := tab_of hL
  have hW' := hW
  obtain ⟨p, q, hA0, hV, rfl, _, _⟩ := hW
  have hA : DataW.TrodAll enc Tryd.prog W 0 (fun _ => true) true Tryd.f6.params.toList args.toList ds p := hA0
  rw [Tryd.params6] at hA hval
  obtain ⟨v0, vs0, d0, ds0, p0, q0, hargs, rfl, rfl, h0, r0⟩ := trodAll_cons hA
  obtain ⟨v1, vs1, d1, ds1, p1, q1, rfl, rfl, rfl, h1, r1⟩ := trodAll_cons r0
  obtain ⟨rfl, rfl, rfl⟩ := trodAll_nil r1
  obtain rfl : args = #[v0, v1] := by cases args; simp_all
  obtain ⟨rfl, rfl⟩ := trodVars_none hV
  have k0 := h0
  have lt0 : ∀ x ∈ p0, x.block < W.heap.size := by obtain ⟨m, hm⟩ := k0; exact DataW.trod_lt m _ _ _ hm
  have k1 := h1
  have lt1 : ∀ x ∈ p1, x.block < W.heap.size := by obtain ⟨m, hm⟩ := k1; exact DataW.trod_lt m _ _ _ hm
  obtain ⟨a0, rfl, _, _, _⟩ := open_int Tryd.underlying3 (hval 0 3 v0 rfl rfl) h0
  have hwalk : Calls Tryd.prog 6 #[.int .i64 a0, v1] W fun e w' => e = .returned (.bool true) ∧ Below W.heap.size W w' := by
    obtain ⟨a1, len1, cap1, rfl⟩ := okWide_slice Tryd.underlying22 (hval 1 22 v1 rfl rfl)
    obtain ⟨fuel1, hf1⟩ := h1
    obtain ⟨l, A, n, c, hv, hl, _, _, hL⟩ := open_zs Tryd.underlying22 Tryd.underlying3 (by kernel_rfl) (by simpa [Value.cells] using hf1)
    injection hv with e1 e2 e3
    subst e1 e2 e3
    by_cases hg : 300 < len1 ∨ 2000 < a0
    · exact bitsTurns_great a0 a1 len1 cap1 W hT hg
    · exact bitsTurns_walk a0 a1 len1 cap1 l W hl hL hT (by omega) (by omega)
  clear hA0 hL
  refine hwalk.mono fun e W' ⟨he, bel⟩ => ?_
  subst he
  exact ⟨_, rfl, _, _, _, [], _, [], hW', trodAll_mk1 (shut_bool Tryd.underlying4 _), (trodAll_cons_mk (Below.trod laidOut (by kernel_rfl) (of_decide_eq_true (by kernel_rfl)) k0 bel lt0) (trodAll_cons_mk (Below.trod laidOut (by kernel_rfl) (of_decide_eq_true (by kernel_rfl)) k1 bel lt1) trodAll_mk0)), rfl, bel.frame _, fun h => by cases h⟩

set_option maxRecDepth 100000 in
theorem bitsTurns_lifted (os : Os) (started : os.Started) (H : Type) (enc : TypeId × Value → H) (F : Stop.Interp) :
    ReturnsInHanded {} Tryd.checked os 6 .any ((OpenSpec.ofChange Rows.bitsTurnsSpec).preRow enc Tryd.prog Tryd.f6 Rows.bitsTurnsRow.domain false Rows.bitsTurnsRow.laid) (((OpenSpec.ofChange Rows.bitsTurnsSpec).at F).post enc Tryd.prog Tryd.f6 false true false false) := by
  obtain ⟨places, hx⟩ := bitsTurns_reads os enc
  refine returnsInHanded_of_row (C := Tryd.checked) (s := OpenSpec.ofChange Rows.bitsTurnsSpec) own started (by kernel_rfl) Tryd.func6
    (witness_row_at (enc := enc) (C := Tryd.checked) false (laidWorld os) #[.int .i64 0, .slice none 0 0] rfl (by kernel_rfl) (by kernel_rfl) (by kernel_rfl)
      (OpenSpec.preRow_of_cond 8 hx (by kernel_rfl) (fun k hk => by cases hk) (by kernel_rfl) (bitsTurns_laid os))) ?_
  intro W base args ds gs before hval hW _ _ _ hL _ _
  exact bitsTurns_contract H enc W base args ds gs before hval hW hL

theorem bitsTurns_said : Rows.BitsTurnsSaid :=
  OpenClaim.holds_of_cond 6 Tryd.f6 rfl rfl rfl rfl rfl rfl rfl ⟨rfl, rfl, rfl, rfl, rfl⟩ rfl rfl rfl rfl rfl (by kernel_rfl) Tryd.func6 (by kernel_rfl)
    (of_decide_eq_true (by kernel_rfl)) (by unfold Func.isWrapper; first | (rw [if_pos (by decide +kernel)]; kernel_rfl) | (rw [if_neg (by decide +kernel)]; exact ⟨rfl, rfl⟩))
    (fun os started H enc _ F => by rw [OpenClaim.pre_eq_preRow]; exact bitsTurns_lifted os started H enc F)

theorem bitsTurns_plain (f : FuncId) (fn : Func) (hf : Tryd.pinned.checked.prog.funcNamed "unison/unisonlaw11.BitsTurns" = some f) (hfn : Tryd.pinned.checked.prog.funcs[f]? = some fn) :
    false = Tryd.pinned.checked.prog.looks [] ∧ ∀ (j : Nat) t, fn.params[j]? = some t → Tryd.pinned.checked.prog.wantsStandIn t = false := by
  obtain rfl : f = 6 := Option.some.inj ((show Tryd.prog.funcNamed "unison/unisonlaw11.BitsTurns" = some 6 by kernel_rfl).symm.trans hf) |>.symm
  obtain rfl : fn = Tryd.f6 := (Option.some.inj (Tryd.func6.symm.trans hfn)).symm
  refine ⟨by kernel_rfl, fun j t ht => ?_⟩
  rw [Tryd.params6] at ht
  have hm := Array.mem_of_getElem? ht
  have hs : t = 3 ∨ t = 22 := by simpa using hm
  clear hm ht
  rcases hs with rfl | rfl
  · exact (show Tryd.prog.wantsStandIn 3 = false by kernel_rfl)
  · exact (show Tryd.prog.wantsStandIn 22 = false by kernel_rfl)

theorem bitsTurns_proved : Rows.BitsTurnsCardSaid :=
  Claim7.holds_tied_plain_at .later [] _ _ _ _ bitsTurns_said (fun _ h => by cases h) (by kernel_rfl) (fun _ h => by cases h) bitsTurns_row_tie rfl ⟨rfl, rfl⟩ (by kernel_rfl) rfl bitsTurns_plain (by kernel_rfl)

end Go.Proofs.YtjkolneonhfjnaaDoor
