/- StoreNil: for every id the call returns true (a nil store has nothing, and takes nothing), and changes nothing that was there. No conditions. -/
import Derived.Test.YtnpdjlcekmpmoaaSoN
import Derived.ChangeOld
namespace Go.Proofs.Ytnpdjlcekmpmoaa
open Go.ChangeShapes Go.WideShapes Go.ChangeAt Go.RowKit

theorem ids_one (w : World) (x : Id) : Lies (w.alloc (.cells #[.int .u8 (x.f : Int), .int .u64 (x.s : Int)] 33)) (w.alloc (.cells #[.int .u8 (x.f : Int), .int .u64 (x.s : Int)] 33)).heap.size (some ⟨w.heap.size, 0, none⟩) (flat encId [x]) :=
  (lies_new w #[.int .u8 (x.f : Int), .int .u64 (x.s : Int)] 33).more (by simp)

set_option maxRecDepth 20000 in
set_option maxHeartbeats 1600000 in
theorem storeNil_walk (x : Id) (w : World) : Calls Try.prog 6 #[valId x] w fun e w' => e = .returned (.bool true) ∧ Below w.heap.size w w' := by
  unfold valId
  go_enter Try.func6, Try.ntmps6
  go_wp2_with fail
  generalize hw0 : World.alloc w _ = w0
  obtain ⟨hs0, hG, hcc⟩ := box1 w w0 _ _ hw0
  have HB0 := Lib.hid hG.below
  have k0 := hcc 0 _ rfl
  have k1 := hcc 1 _ rfl
  clear hcc hw0 hG
  refine (get_nil x w0).mono ?_
  rintro e w1 ⟨rfl, hb1⟩
  have x0 := (hb1.cell (p := ⟨w.heap.size, 0, none⟩) (by show w.heap.size < _; omega)).trans k0
  have x1 := (hb1.cell (p := ⟨w.heap.size, 1, none⟩) (by show w.heap.size < _; omega)).trans k1
  have hs1 : w.heap.size < w1.heap.size := by have := hb1.size; omega
  have HB1 := Lib.hid (HB0.out.trans (hb1.mono HB0.out.size))
  clear hb1 k0 k1 HB0 hs0
  go_wp2_with fail
  generalize hw2 : World.alloc w1 _ = w2
  have hb2 : Below w1.heap.size w1 w2 := hw2 ▸ alloc_below w1 _
  have y0 := (hb2.cell (p := ⟨w.heap.size, 0, none⟩) hs1).trans x0
  have y1 := (hb2.cell (p := ⟨w.heap.size, 1, none⟩) hs1).trans x1
  have HB2 := Lib.hid (HB1.out.trans (hb2.mono HB1.out.size))
  have hs2 : w.heap.size < w2.heap.size := Nat.lt_of_lt_of_le hs1 hb2.size
  refine (put_nil x _ 1 1 w2).mono ?_
  rintro e w3 ⟨rfl, hb3⟩
  have z0 := (hb3.cell (p := ⟨w.heap.size, 0, none⟩) hs2).trans y0
  have z1 := (hb3.cell (p := ⟨w.heap.size, 1, none⟩) hs2).trans y1
  have HB3 := Lib.hid (HB2.out.trans (hb3.mono HB2.out.size))
  clear hb2 hb3 x0 x1 y0 y1 hw2 HB1 HB2 hs1 hs2
  go_wp2_with fail
  refine (has_nil _ 1 1 [x] _ rfl (by omega) (ids_one w3 x)).mono ?_
  rintro e w4 ⟨rfl, hb4⟩
  have HB4 : Hid (Below w.heap.size w w4) := (HB3.out.trans ((alloc_below w3 _).mono HB3.out.size)).trans (hb4.mono (by have := HB3.out.size; simp; omega))
  clear hb4 z0 z1 HB3
  go_wp2_with fail
  refine (has_nil none 0 0 [] w4 rfl (by omega) Lies.nil).mono ?_
  rintro e w5 ⟨rfl, hb5⟩
  have HB5 := Lib.hid (HB4.out.trans (hb5.mono HB4.out.size))
  clear hb5 HB4
  go_wp2_with fail
  generalize hw6 : World.alloc (World.alloc w5 _) _ = w6
  have HB6 : Hid (Below w.heap.size w w6) := by
    show Below _ _ _
    subst hw6
    exact HB5.out.trans ((((Below.refl _ _).alloc (Nat.le_refl _) _).alloc (by simp) _).mono HB5.out.size)
  clear hw6
  refine (drop_nil _ 1 1 w6).mono ?_
  rintro e w7 ⟨rfl, hb7⟩
  have HB7 := Lib.hid (HB6.out.trans (hb7.mono HB6.out.size))
  clear hb7 HB6
  go_wp2_with (first
    | (go_at_call 17; refine (held_nil _).mono ?_; rintro e w' ⟨rfl, rfl⟩)
    | (go_at_call 16; refine (floor_nil _).mono ?_; rintro e w' ⟨rfl, rfl⟩)
    | (go_at_call 12; refine (used_nil _).mono ?_; rintro e w' ⟨rfl, rfl⟩)
    | (go_at_call 14; refine (len_nil _).mono ?_; rintro e w' ⟨rfl, rfl⟩)
    | (go_at_call 8; refine (awake_any _).mono ?_; rintro e w' ⟨rfl, hb⟩))
  go_ret
  exact ⟨rfl, HB7.out.trans (hb.mono HB7.out.size)⟩

theorem own : ownKnob Try.prog.godebug = none := by kernel_rfl
theorem laidOut : laidOutB Try.prog = true := by kernel_rfl

set_option maxRecDepth 100000 in
theorem storeNil_lifted (os : Os) (started : os.Started) (H : Type) (enc : TypeId × Value → H) :
    ReturnsInHanded {} Try.checked os 6 .any (Rows.storeNilSpec.pre6 enc Try.prog Try.f6 Rows.storeNilRow.domain false) (Rows.storeNilSpec.post enc Try.prog Try.f6 false true false false) := by
  refine returnsInHanded_of_change (C := Try.checked) own started (by kernel_rfl) Try.func6
    (ChangeSpec.witness6 (enc := enc) (C := Try.checked) false ⟨#[], #[.agg #[.int .u8 0, .int .u64 0]], []⟩ 8 (by kernel_rfl) (by kernel_rfl) (by kernel_rfl) (by kernel_rfl)) ?_
  intro W base args ds gs before hval0 hW _ _
  have hval : ∀ (j : Nat) t v, Try.f6.params[j]? = some t → args[j]? = some v → Value.okWide Try.prog W .any base t v := hval0
  have hW' := hW
  obtain ⟨p, q, hA0, hV, rfl, _, _⟩ := hW
  have hA : DataW.TrodAll enc Try.prog W 0 (fun _ => true) true Try.f6.params.toList args.toList ds p := hA0
  rw [Try.params6] at hA hval
  obtain ⟨v0, vs0, d0, ds0, p0, q0, hargs, rfl, rfl, h0, r0⟩ := trodAll_cons hA
  obtain ⟨rfl, rfl, rfl⟩ := trodAll_nil r0
  obtain rfl : args = #[v0] := by cases args; simp_all
  obtain ⟨rfl, rfl⟩ := trodVars_none hV
  have k0 := h0
  have lt0 : ∀ x ∈ p0, x.block < W.heap.size := by obtain ⟨m, hm⟩ := k0; exact DataW.trod_lt m _ _ _ hm
  obtain ⟨x, hx⟩ := open_id (hval 0 33 v0 rfl rfl) h0
  obtain rfl := hx
  have hwalk : Calls Try.prog 6 #[valId x] W fun e w' => e = .returned (.bool true) ∧ Below W.heap.size W w' := storeNil_walk x W
  clear hA0 hval0
  refine hwalk.mono fun e W' ⟨he, bel⟩ => ?_
  subst he
  exact ⟨_, rfl, _, _, _, [], _, [], hW', trodAll_mk1 (shut_bool Try.underlying4 _), (trodAll_cons_mk (Below.trod laidOut (by kernel_rfl) (of_decide_eq_true (by kernel_rfl)) k0 bel lt0) trodAll_mk0), rfl, bel.frame _, fun h => by cases h⟩

theorem storeNil_proved : Rows.StoreNilSaid :=
  OpenClaim.holds_of_wide 6 Try.f6 rfl rfl rfl rfl rfl rfl rfl ⟨rfl, rfl, rfl, rfl, rfl⟩ rfl rfl rfl rfl rfl (by kernel_rfl) Try.func6 (by kernel_rfl)
    (of_decide_eq_true (by kernel_rfl)) (by unfold Func.isWrapper; first | (rw [if_pos (by decide +kernel)]; kernel_rfl) | (rw [if_neg (by decide +kernel)]; exact ⟨rfl, rfl⟩))
    (fun os started H enc _ => storeNil_lifted os started H enc)

end Go.Proofs.Ytnpdjlcekmpmoaa
