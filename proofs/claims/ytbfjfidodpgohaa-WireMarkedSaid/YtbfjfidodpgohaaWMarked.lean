/- WireMarked: for every list of bytes the call returns true (the frame of these bytes marked, and of these with their right length ahead and marked, or the error, is the document's), and changes nothing that was there. No conditions. -/
import Derived.Test.YtbfjfidodpgohaaWgj
import Derived.Test.YtbfjfidodpgohaaWMk
import Derived.ChangeOld

namespace Go.Proofs.Ytbfjfidodpgohaa
open Go.ChangeShapes Go.WideShapes Go.ChangeAt Go.RowKit

set_option maxRecDepth 100000 in
theorem wireMarked_long (A : Option Addr) (n c : Nat) (w : World) (hn : 3000 < n) :
    Calls Try.prog 4 #[.slice A n c] w fun e w' => e = .returned (.bool true) ∧ Below w.heap.size w w' := by
  have hd : (3000 : Int) < (n : Int) := by omega
  go_enter Try.func4, Try.ntmps4
  go_wp2_with fail
  refine (awake_any w).mono ?_
  rintro e w1 ⟨rfl, hb⟩
  go_wp2
  go_ret
  exact ⟨rfl, hb⟩

/-- A frame that is held in a box: its row, and what its cells are. -/
structure FrB (w : World) (g : Nat) (F : Fr) (cs : Array Value) : Prop where
  row : w.heap[g]? = some (.cells cs 33 (0, 0))
  is : FrL w F cs
theorem FrB.on {w w' : World} {g : Nat} {F : Fr} {cs : Array Value} (h : FrB w g F cs) (hb : Below w.heap.size w w') : FrB w' g F cs :=
  ⟨(hb.block _ (Array.getElem?_eq_some_iff.1 h.row).1).trans h.row, h.is.on hb⟩
theorem FrB.new {w : World} {F : Fr} {cs : Array Value} (h : FrL w F cs) : FrB (w.alloc (.cells cs 33)) w.heap.size F cs :=
  ⟨heap_alloc_new _ _, h.on ((Below.refl _ _).alloc (Nat.le_refl _) _)⟩

set_option maxRecDepth 100000 in
set_option maxHeartbeats 3200000 in
theorem wireMarked_walk (A : Option Addr) (n c : Nat) (l : List UInt8) (w : World) (hl : l.length = n) (hn : n ≤ 3000) (hL : Lies w w.heap.size A (bvs l)) :
    Calls Try.prog 4 #[.slice A n c] w fun e w' => e = .returned (.bool true) ∧ Below w.heap.size w w' := by
  have HM := Lib.hid (refMark_got A n c l w hl (by omega) hL)
  have HW : Hid (∀ W, Below w.heap.size w W → Calls Try.prog 12 #[.slice A n c] W (BytGot W (wholeOf l))) := fun W hW => refWhole_any A n c l W hl (by omega) (hL.later hW)
  have hml : (markOf l).length ≤ 4000 := by unfold markOf; rw [List.length_append, four_length]; omega
  have hwl : (wholeOf l).length ≤ 4000 := by
    have := enc_len (n := l.length + 4) (by omega)
    unfold wholeOf markOf
    rw [List.length_append, List.length_append, four_length]
    omega
  have hd : ¬ (3000 : Int) < (n : Int) := by omega
  generalize markOf l = lm at HM hml
  generalize wholeOf l = lw at HW hwl
  clear hl hL
  go_enter Try.func4, Try.ntmps4
  go_wp2_with fail
  refine HM.out.mono ?_
  rintro e w1 ⟨A1, n1, c1, rfl, hn1, hc1, hcm1, hL1, hb1⟩
  have HW1 := Lib.hid (HW.out w1 hb1)
  have HB1 := Lib.hid hb1
  have HL1 := Lib.hid hL1
  have HN1 := Lib.hid hn1.out
  have HC1 : Hid (n1 ≤ c1 ∧ c1 ≤ maxLen) := ⟨hc1, hcm1⟩
  clear HM HW hn1 hc1 hcm1 hL1 hb1
  go_wp2_with fail
  refine HW1.out.mono ?_
  rintro e w2 ⟨A2, n2, c2, rfl, hn2, hc2, hcm2, hL2, hb2⟩
  have HB2 : Hid (Below w.heap.size w w2) := HB1.out.trans (hb2.mono HB1.out.size)
  have HGm : Hid (∀ W, Below w2.heap.size w2 W → Calls Try.prog 8 #[.slice A1 n1 c1] W (GetGot W (getOf lm))) := fun W hW => wireGet_any A1 n1 c1 lm W HN1.out (by have := HN1.out; omega) HC1.out.1 HC1.out.2 ((HL1.out.later hb2).later hW)
  have HRm : Hid (∀ W, Below w2.heap.size w2 W → Calls Try.prog 9 #[.slice A1 n1 c1] W (RefGot W (getOf lm))) := fun W hW => refGet_any A1 n1 c1 lm W HN1.out (by have := HN1.out; omega) HC1.out.1 HC1.out.2 ((HL1.out.later hb2).later hW)
  have HGw : Hid (∀ W, Below w2.heap.size w2 W → Calls Try.prog 8 #[.slice A2 n2 c2] W (GetGot W (getOf lw))) := fun W hW => wireGet_any A2 n2 c2 lw W hn2.out (by have := hn2.out; omega) hc2 hcm2 (hL2.later hW)
  have HRw : Hid (∀ W, Below w2.heap.size w2 W → Calls Try.prog 9 #[.slice A2 n2 c2] W (RefGot W (getOf lw))) := fun W hW => refGet_any A2 n2 c2 lw W hn2.out (by have := hn2.out; omega) hc2 hcm2 (hL2.later hW)
  clear HW1 HB1 HL1 HN1 HC1 hn2 hc2 hcm2 hL2 hb2 hml hwl
  generalize getOf lm = rm at HGm HRm
  generalize getOf lw = rw' at HGw HRw
  obtain ⟨Fm, em⟩ := rm
  obtain ⟨Fw, ew⟩ := rw'
  have q0 : ((em : Int) == (em : Int)) = true := beq_self_eq_true _
  have q1 : ((ew : Int) == (ew : Int)) = true := beq_self_eq_true _
  go_wp2_with fail
  refine (HGm.out w2 (Below.refl _ _)).mono ?_
  rintro e w3 ⟨cs1, rfl, hfv, hok, hb3⟩
  have HS1 := Lib.hid hfv.size
  have HO1 := Lib.hid hfv.one
  have HOKm := Lib.hid hok
  have hB3 : Below w3.heap.size w3 (w3.alloc (.cells cs1 33)) := (Below.refl _ _).alloc (Nat.le_refl _) _
  have HF1 := Lib.hid (FrB.new hfv.slots)
  have HB3 : Hid (Below w2.heap.size w2 (w3.alloc (.cells cs1 33))) := hb3.trans (hB3.mono hb3.size)
  clear hfv hok hb3 hB3 HGm
  go_wp2_with (first | (refine store_frame_new (.tmp 5) (.tmp 24) rfl rfl rfl rfl HS1.out HO1.out ?_) | fail)
  generalize hwa : w3.alloc (.cells cs1 33) = wa at HF1 HB3 ⊢
  clear hwa
  generalize w3.heap.size = g1 at HF1 ⊢
  refine (HGw.out wa HB3.out).mono ?_
  rintro e w4 ⟨cs2, rfl, hfv, hok, hb4⟩
  have HS2 := Lib.hid hfv.size
  have HO2 := Lib.hid hfv.one
  have HOKw := Lib.hid hok
  have hB4 : Below w4.heap.size w4 (w4.alloc (.cells cs2 33)) := (Below.refl _ _).alloc (Nat.le_refl _) _
  have HF2 := Lib.hid (FrB.new hfv.slots)
  have HF1b := Lib.hid ((HF1.out.on hb4).on hB4)
  have HB4 : Hid (Below w2.heap.size w2 (w4.alloc (.cells cs2 33))) := HB3.out.trans ((hb4.trans (hB4.mono hb4.size)).mono HB3.out.size)
  clear hfv hok hb4 hB4 HGw HF1 HB3
  go_wp2_with (first | (refine store_frame_new (.tmp 7) (.tmp 29) rfl rfl rfl rfl HS2.out HO2.out ?_) | fail)
  generalize hwb : w4.alloc (.cells cs2 33) = wb at HF1b HF2 HB4 ⊢
  clear hwb
  generalize w4.heap.size = g2 at HF2 ⊢
  refine (HRm.out wb HB4.out).mono ?_
  rintro e w5 ⟨cs3, rfl, HS3, HO3, hfl3, hb5⟩
  have hB5 : Below w5.heap.size w5 (w5.alloc (.cells cs3 33)) := (Below.refl _ _).alloc (Nat.le_refl _) _
  have HF3 := Lib.hid (FrB.new hfl3)
  have HF1c := Lib.hid ((HF1b.out.on hb5).on hB5)
  have HF2c := Lib.hid ((HF2.out.on hb5).on hB5)
  have HB5 : Hid (Below w2.heap.size w2 (w5.alloc (.cells cs3 33))) := HB4.out.trans ((hb5.trans (hB5.mono hb5.size)).mono HB4.out.size)
  clear hfl3 hb5 hB5 HRm HF1b HF2 HB4
  go_wp2_with (first | (refine store_frame_new (.tmp 9) (.tmp 34) rfl rfl rfl rfl HS3.out HO3.out ?_) | fail)
  generalize hwc : w5.alloc (.cells cs3 33) = wd at HF1c HF2c HF3 HB5 ⊢
  clear hwc
  generalize w5.heap.size = g3 at HF3 ⊢
  refine (HRw.out wd HB5.out).mono ?_
  rintro e w6 ⟨cs4, rfl, HS4, HO4, hfl4, hb6⟩
  have hB6 : Below w6.heap.size w6 (w6.alloc (.cells cs4 33)) := (Below.refl _ _).alloc (Nat.le_refl _) _
  have HF4 := Lib.hid (FrB.new hfl4)
  have HF1d := Lib.hid ((HF1c.out.on hb6).on hB6)
  have HF2d := Lib.hid ((HF2c.out.on hb6).on hB6)
  have HF3d := Lib.hid ((HF3.out.on hb6).on hB6)
  have HB6 : Hid (Below w2.heap.size w2 (w6.alloc (.cells cs4 33))) := HB5.out.trans ((hb6.trans (hB6.mono hb6.size)).mono HB5.out.size)
  clear hfl4 hb6 hB6 HRw HF1c HF2c HF3 HB5
  go_wp2_with (first | (refine store_frame_new (.tmp 11) (.tmp 39) rfl rfl rfl rfl HS4.out HO4.out ?_) | (refine load_frame_on (.tmp 5) rfl rfl HF1d.out.row HS1.out ?_) | (refine load_frame_on (.tmp 9) rfl rfl HF3d.out.row HS3.out ?_) | fail)
  generalize hwe : w6.alloc (.cells cs4 33) = we at HF1d HF2d HF3d HF4 HB6 ⊢
  clear hwe
  generalize w6.heap.size = g4 at HF4 ⊢
  refine (refSame_any Fm cs1 cs3 we HOKm.out HF1d.out.is HF3d.out.is).mono ?_
  rintro e w7 ⟨rfl, hb7⟩
  have HF2e := Lib.hid (HF2d.out.on hb7)
  have HF4e := Lib.hid (HF4.out.on hb7)
  have HB7 : Hid (Below w2.heap.size w2 w7) := HB6.out.trans (hb7.mono HB6.out.size)
  clear hb7 HF1d HF2d HF3d HF4 HB6
  go_wp2_with (first | (refine load_frame_on (.tmp 7) rfl rfl HF2e.out.row HS2.out ?_) | (refine load_frame_on (.tmp 11) rfl rfl HF4e.out.row HS4.out ?_) | fail)
  refine (refSame_any Fw cs2 cs4 w7 HOKw.out HF2e.out.is HF4e.out.is).mono ?_
  rintro e w8 ⟨rfl, hb8⟩
  have HB8 : Hid (Below w2.heap.size w2 w8) := HB7.out.trans (hb8.mono HB7.out.size)
  clear hb8 HF2e HF4e HB7
  go_wp2_with fail
  refine (awake_any w8).mono ?_
  rintro e w9 ⟨rfl, hb9⟩
  go_wp2
  go_ret
  exact ⟨rfl, HB2.out.trans ((HB8.out.trans (hb9.mono HB8.out.size)).mono HB2.out.size)⟩

theorem wireMarked_any {v : Value} {l : List UInt8} {w : World} (h : Byt w w.heap.size v l) :
    Calls Try.prog 4 #[v] w fun e w' => e = .returned (.bool true) ∧ Below w.heap.size w w' := by
  obtain ⟨A, n, c, rfl, hl, hc, hcm, hL⟩ := h
  by_cases hn : n ≤ 3000
  · exact wireMarked_walk A n c l w hl hn hL
  · exact wireMarked_long A n c w (by omega)

theorem own : ownKnob Try.prog.godebug = none := by kernel_rfl
theorem laidOut : laidOutB Try.prog = true := by kernel_rfl

set_option maxRecDepth 100000 in
theorem wireMarked_lifted (os : Os) (started : os.Started) (H : Type) (enc : TypeId × Value → H) :
    ReturnsInHanded {} Try.checked os 4 .any (Rows.wireMarkedSpec.pre6 enc Try.prog Try.f4 Rows.wireMarkedRow.domain false) (Rows.wireMarkedSpec.post enc Try.prog Try.f4 false true false false) := by
  refine returnsInHanded_of_change (C := Try.checked) own started (by kernel_rfl) Try.func4
    (ChangeSpec.witness6 (enc := enc) (C := Try.checked) false ⟨#[], #[.slice none 0 0], []⟩ 8 (by kernel_rfl) (by kernel_rfl) (by kernel_rfl) (by kernel_rfl)) ?_
  intro W base args ds gs before hval0 hW _ _
  have hval : ∀ (j : Nat) t v, Try.f4.params[j]? = some t → args[j]? = some v → Value.okWide Try.prog W .any base t v := hval0
  have hW' := hW
  obtain ⟨p, q, hA0, hV, rfl, _, _⟩ := hW
  have hA : DataW.TrodAll enc Try.prog W 0 (fun _ => true) true Try.f4.params.toList args.toList ds p := hA0
  rw [Try.params4] at hA hval
  obtain ⟨v0, vs0, d0, ds0, p0, q0, hargs, rfl, rfl, h0, r0⟩ := trodAll_cons hA
  obtain ⟨rfl, rfl, rfl⟩ := trodAll_nil r0
  obtain rfl : args = #[v0] := by cases args; simp_all
  obtain ⟨rfl, rfl⟩ := trodVars_none hV
  have k0 := h0
  have lt0 : ∀ x ∈ p0, x.block < W.heap.size := by obtain ⟨m, hm⟩ := k0; exact DataW.trod_lt m _ _ _ hm
  have hwalk : Calls Try.prog 4 #[v0] W fun e w' => e = .returned (.bool true) ∧ Below W.heap.size W w' := by
    obtain ⟨a0, len0, cap0, rfl⟩ := okWide_slice Try.underlying22 (hval 0 22 v0 rfl rfl)
    obtain ⟨fuel, hf⟩ := h0
    obtain ⟨l, hl⟩ := open_bytes Try.underlying22 Try.underlying5 (by kernel_rfl) (by simpa [Value.cells] using hf)
    exact wireMarked_any hl
  clear hA0 hval0
  refine hwalk.mono fun e W' ⟨he, bel⟩ => ?_
  subst he
  exact ⟨_, rfl, _, _, _, [], _, [], hW', trodAll_mk1 (shut_bool Try.underlying4 _), (trodAll_cons_mk (Below.trod laidOut (by kernel_rfl) (of_decide_eq_true (by kernel_rfl)) k0 bel lt0) trodAll_mk0), rfl, bel.frame _, fun h => by cases h⟩

theorem wireMarked_proved : Rows.WireMarkedSaid :=
  OpenClaim.holds_of_wide 4 Try.f4 rfl rfl rfl rfl rfl rfl rfl ⟨rfl, rfl, rfl, rfl, rfl⟩ rfl rfl rfl rfl rfl (by kernel_rfl) Try.func4 (by kernel_rfl)
    (of_decide_eq_true (by kernel_rfl)) (by unfold Func.isWrapper; first | (rw [if_pos (by decide +kernel)]; kernel_rfl) | (rw [if_neg (by decide +kernel)]; exact ⟨rfl, rfl⟩))
    (fun os started H enc _ => wireMarked_lifted os started H enc)

end Go.Proofs.Ytbfjfidodpgohaa
