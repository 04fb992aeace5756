/- GatherNil: for every id and every number of a kind the call returns true (a nil gatherer has no parts, and makes PartBad of all), and changes nothing that was there. Condition: the library's table lies as its initialiser lays it (the card ties that). -/
import Derived.Test.YthkongnjokmmfaaDoorGaK
namespace Go.Proofs.YthkongnjokmmfaaDoor
open Go.ChangeShapes Go.WideShapes Go.ChangeAt Go.RowKit

set_option maxRecDepth 100000 in
set_option maxHeartbeats 3200000 in
theorem gatherNil_walk (x : Id) (k : Nat) (w : World) : Calls Tryd.prog 4 #[valId x, .int .u8 (k : Int)] w fun e w' => e = .returned (.bool true) ∧ Below w.heap.size w w' := by
  have HW := Lib.hid (fun W => want_nil x W)
  have HP : Hid (∀ W, Calls Tryd.prog 10 #[.pointer none, .agg #[.int .u8 0, .int .u8 0, .int .u8 0, .int .u8 (x.f : Int), .int .u64 (x.s : Int), .int .u64 0, .int .u32 0, .int .u32 1, .int .u32 0, .int .u64 0, .int .u64 0, .slice none 0 0, .slice none 0 0, .slice none 0 0, .slice none 0 0, .slice none 0 0]] W fun e w' => e = .returned (.tuple #[.slice none 0 0, .int .u8 1]) ∧ Below W.heap.size W w') := fun W =>
    gput_nil ⟨0, 0, 0, x, 0, 0, 1, 0, 0, 0, [], [], [], [], []⟩ _ W ⟨fun _ => (none, 0), rfl, Lies.nil, Lies.nil, Lies.nil, Lies.nil, Lies.nil⟩
  have HFN := Lib.hid (fun W => first_nil x W)
  unfold valId at *
  go_enter Tryd.func4, Tryd.ntmps4
  go_wp2_with fail
  generalize hw0 : World.alloc w _ = w0
  obtain ⟨hs0, hG, hcc⟩ := box1 w w0 _ _ hw0
  have hb0 : Below w.heap.size w w0 := hG.below
  have HI : Hid (∀ V, Below w0.heap.size w0 V → V.cell? ⟨w.heap.size, 0, none⟩ = some (.int .u8 (x.f : Int)) ∧ V.cell? ⟨w.heap.size, 1, none⟩ = some (.int .u64 (x.s : Int))) := fun V hV => ⟨(hV.cell (p := ⟨w.heap.size, 0, none⟩) (by show w.heap.size < w0.heap.size; omega)).trans (hcc 0 _ rfl), (hV.cell (p := ⟨w.heap.size, 1, none⟩) (by show w.heap.size < w0.heap.size; omega)).trans (hcc 1 _ rfl)⟩
  have HB0 := Lib.hid hb0
  clear hw0 hG hcc hb0 hs0
  refine (HW.out w0).mono ?_
  rintro e w1 ⟨rfl, hb1⟩
  have H1 := Lib.hid hb1
  obtain ⟨a0, a1⟩ := HI.out w1 hb1
  clear hb1 HW
  go_wp2_with fail
  refine (HP.out w1).mono ?_
  rintro e w2 ⟨rfl, hb2⟩
  have H2 := Lib.hid (H1.out.trans (hb2.mono H1.out.size))
  clear a0 a1 hb2 HP H1
  obtain ⟨a0, a1⟩ := HI.out w2 H2.out
  go_wp2_with fail
  refine (HFN.out w2).mono ?_
  rintro e w3 ⟨rfl, hb3⟩
  have H3 := Lib.hid (H2.out.trans (hb3.mono H2.out.size))
  clear a0 a1 hb3 HFN H2
  obtain ⟨a0, a1⟩ := HI.out w3 H3.out
  go_wp2_with fail
  generalize hw4 : World.alloc w3 _ = w4
  have hb4 : Below w3.heap.size w3 w4 := by rw [← hw4]; exact (Below.refl _ _).alloc (Nat.le_refl _) _
  refine (drop_nil _ _ _ _ rfl w4).mono ?_
  rintro e w5 ⟨rfl, hb5⟩
  have H5 := Lib.hid (HB0.out.trans ((H3.out.trans ((hb4.trans (hb5.mono hb4.size)).mono H3.out.size)).mono HB0.out.size))
  clear a0 a1 hb4 hb5 H3 hw4 HI HB0
  go_wp2_with (first
    | (go_at_call 20; refine (ids_nil _).mono ?_; rintro e w' ⟨rfl, rfl⟩)
    | (go_at_call 14; refine (used_nil _).mono ?_; rintro e w' ⟨rfl, rfl⟩)
    | (go_at_call 18; refine (gcount_nil _ _).mono ?_; rintro e w' ⟨rfl, rfl⟩))
  refine (awake_any _).mono ?_
  rintro e w6 ⟨rfl, hb6⟩
  have H6 := Lib.hid (H5.out.trans (hb6.mono H5.out.size))
  clear hb6 H5
  go_wp2
  go_ret
  exact ⟨rfl, H6.out⟩

/-! ### The frame -/
theorem gatherNil_reads (os : Os) {H : Type} (enc : TypeId × Value → H) : ∃ places, DataW.whole enc Tryd.prog ((laidWorld os).forCall (fun _ _ => 0) ⟨#[], #[.agg #[.int .u8 0, .int .u64 0], .int .u8 0], []⟩).memory Tryd.f4.params.toList Rows.gatherNilSpec.vars false #[.agg #[.int .u8 0, .int .u64 0], .int .u8 0].toList 8 = some ([.agg [.lit (.int .u8 0), .lit (.int .u64 0)], .lit (.int .u8 0)], [], places) :=
  ⟨[], by kernel_rfl⟩
theorem gatherNil_laid (os : Os) : laidMet Tryd.prog Rows.gatherNilRow.laid ((laidWorld os).forCall (fun _ _ => 0) ⟨#[], #[.agg #[.int .u8 0, .int .u64 0], .int .u8 0], []⟩).memory :=
  laidMet_of_run' 8 (by kernel_rfl) (by kernel_rfl)

set_option maxRecDepth 100000 in
theorem gatherNil_contract (H : Type) (enc : TypeId × Value → H) (W : World) (base : Nat) (args : Array Value) (ds gs : List (DataW H)) (before : List MemPlace)
    (hval : ∀ (j : Nat) t v, Tryd.f4.params[j]? = some t → args[j]? = some v → Value.okWide Tryd.prog W .any base t v)
    (hW : DataW.Whole enc Tryd.prog Tryd.f4.params.toList Rows.gatherNilSpec.vars false W args.toList ds gs before) (hL : laidMetH Tryd.prog Rows.gatherNilRow.laid W) :
    Calls Tryd.prog 4 args W fun e W' => ∃ v, e = .returned v ∧ Rows.gatherNilSpec.post enc Tryd.prog Tryd.f4 false true false false W args v W' := by
  have hT : Tab W := tab_of hL
  have hW' := hW
  obtain ⟨p, q, hA0, hV, rfl, _, _⟩ := hW
  have hA : DataW.TrodAll enc Tryd.prog W 0 (fun _ => true) true Tryd.f4.params.toList args.toList ds p := hA0
  rw [Tryd.params4] at hA hval
  obtain ⟨v0, vs0, d0, ds0, p0, q0, hargs, rfl, rfl, h0, r0⟩ := trodAll_cons hA
  obtain ⟨v1, vs1, d1, ds1, p1, q1, rfl, rfl, rfl, h1, r1⟩ := trodAll_cons r0
  obtain ⟨rfl, rfl, rfl⟩ := trodAll_nil r1
  obtain rfl : args = #[v0, v1] := by cases args; simp_all
  obtain ⟨rfl, rfl⟩ := trodVars_none hV
  have k0 := h0
  have lt0 : ∀ x ∈ p0, x.block < W.heap.size := by obtain ⟨m, hm⟩ := k0; exact DataW.trod_lt m _ _ _ hm
  have k1 := h1
  have lt1 : ∀ x ∈ p1, x.block < W.heap.size := by obtain ⟨m, hm⟩ := k1; exact DataW.trod_lt m _ _ _ hm
  obtain ⟨x, hx⟩ := open_id (hval 0 25 v0 rfl rfl) h0
  obtain rfl := hx
  obtain ⟨a1, rfl, _, _, wf1⟩ := open_int Tryd.underlying5 (hval 1 5 v1 rfl rfl) h1
  have b1 := bounds_u8 wf1
  obtain ⟨kk, rfl⟩ : ∃ k : Nat, a1 = (k : Int) := ⟨a1.toNat, by omega⟩
  have hwalk : Calls Tryd.prog 4 #[valId x, .int .u8 (kk : Int)] W fun e w' => e = .returned (.bool true) ∧ Below W.heap.size W w' := gatherNil_walk x kk W
  clear hA0 hL
  refine hwalk.mono fun e W' ⟨he, bel⟩ => ?_
  subst he
  exact ⟨_, rfl, _, _, _, [], _, [], hW', trodAll_mk1 (shut_bool Tryd.underlying4 _), (trodAll_cons_mk (Below.trod laidOut (by kernel_rfl) (of_decide_eq_true (by kernel_rfl)) k0 bel lt0) (trodAll_cons_mk (Below.trod laidOut (by kernel_rfl) (of_decide_eq_true (by kernel_rfl)) k1 bel lt1) trodAll_mk0)), rfl, bel.frame _, fun h => by cases h⟩

set_option maxRecDepth 100000 in
theorem gatherNil_lifted (os : Os) (started : os.Started) (H : Type) (enc : TypeId × Value → H) (F : Stop.Interp) :
    ReturnsInHanded {} Tryd.checked os 4 .any ((OpenSpec.ofChange Rows.gatherNilSpec).preRow enc Tryd.prog Tryd.f4 Rows.gatherNilRow.domain false Rows.gatherNilRow.laid) (((OpenSpec.ofChange Rows.gatherNilSpec).at F).post enc Tryd.prog Tryd.f4 false true false false) := by
  obtain ⟨places, hx⟩ := gatherNil_reads os enc
  refine returnsInHanded_of_row (C := Tryd.checked) (s := OpenSpec.ofChange Rows.gatherNilSpec) own started (by kernel_rfl) Tryd.func4
    (witness_row_at (enc := enc) (C := Tryd.checked) false (laidWorld os) #[.agg #[.int .u8 0, .int .u64 0], .int .u8 0] rfl (by kernel_rfl) (by kernel_rfl) (by kernel_rfl)
      (OpenSpec.preRow_of_cond 8 hx (by kernel_rfl) (fun k hk => by cases hk) (by kernel_rfl) (gatherNil_laid os))) ?_
  intro W base args ds gs before hval hW _ _ _ hL _ _
  exact gatherNil_contract H enc W base args ds gs before hval hW hL

theorem gatherNil_said : Rows.GatherNilSaid :=
  OpenClaim.holds_of_cond 4 Tryd.f4 rfl rfl rfl rfl rfl rfl rfl ⟨rfl, rfl, rfl, rfl, rfl⟩ rfl rfl rfl rfl rfl (by kernel_rfl) Tryd.func4 (by kernel_rfl)
    (of_decide_eq_true (by kernel_rfl)) (by unfold Func.isWrapper; first | (rw [if_pos (by decide +kernel)]; kernel_rfl) | (rw [if_neg (by decide +kernel)]; exact ⟨rfl, rfl⟩))
    (fun os started H enc _ F => by rw [OpenClaim.pre_eq_preRow]; exact gatherNil_lifted os started H enc F)

theorem gatherNil_plain (f : FuncId) (fn : Func) (hf : Tryd.pinned.checked.prog.funcNamed "unison/unisonlaw13.GatherNil" = some f) (hfn : Tryd.pinned.checked.prog.funcs[f]? = some fn) :
    false = Tryd.pinned.checked.prog.looks [] ∧ ∀ (j : Nat) t, fn.params[j]? = some t → Tryd.pinned.checked.prog.wantsStandIn t = false := by
  obtain rfl : f = 4 := Option.some.inj ((show Tryd.prog.funcNamed "unison/unisonlaw13.GatherNil" = some 4 by kernel_rfl).symm.trans hf) |>.symm
  obtain rfl : fn = Tryd.f4 := (Option.some.inj (Tryd.func4.symm.trans hfn)).symm
  refine ⟨by kernel_rfl, fun j t ht => ?_⟩
  rw [Tryd.params4] at ht
  have hm := Array.mem_of_getElem? ht
  have hs : t = 25 ∨ t = 5 := by simpa using hm
  clear hm ht
  rcases hs with rfl | rfl
  · exact (show Tryd.prog.wantsStandIn 25 = false by kernel_rfl)
  · exact (show Tryd.prog.wantsStandIn 5 = false by kernel_rfl)

theorem gatherNil_proved : Rows.GatherNilCardSaid :=
  Claim7.holds_tied_plain_at .later [] _ _ _ _ gatherNil_said (fun _ h => by cases h) (by kernel_rfl) (fun _ h => by cases h) gatherNil_row_tie rfl ⟨rfl, rfl⟩ (by kernel_rfl) rfl gatherNil_plain (by kernel_rfl)

end Go.Proofs.YthkongnjokmmfaaDoor
