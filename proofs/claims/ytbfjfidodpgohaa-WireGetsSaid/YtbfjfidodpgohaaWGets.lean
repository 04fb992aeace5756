/- WireGets: for every list of bytes the call returns true (the frame of these bytes, or the error, is the document's), and changes nothing that was there. No conditions. -/
import Derived.Test.YtbfjfidodpgohaaWgj
import Derived.ChangeOld

namespace Go.Proofs.Ytbfjfidodpgohaa
open Go.ChangeShapes Go.WideShapes Go.ChangeAt Go.RowKit

set_option maxRecDepth 100000 in
theorem wireGets_long (A : Option Addr) (n c : Nat) (w : World) (hn : 3000 < n) :
    Calls Try.prog 3 #[.slice A n c] w fun e w' => e = .returned (.bool true) ∧ Below w.heap.size w w' := by
  have hd : (3000 : Int) < (n : Int) := by omega
  go_enter Try.func3, Try.ntmps3
  go_wp2_with fail
  refine (awake_any w).mono ?_
  rintro e w1 ⟨rfl, hb⟩
  go_wp2
  go_ret
  exact ⟨rfl, hb⟩

/-- A frame that is held in a box: its row, and what its cells are. -/
structure FrB (w : World) (g : Nat) (F : Fr) (cs : Array Value) : Prop where
  row : w.heap[g]? = some (.cells cs 33 (0, 0))
  is : FrL w F cs
theorem FrB.on {w w' : World} {g : Nat} {F : Fr} {cs : Array Value} (h : FrB w g F cs) (hb : Below w.heap.size w w') : FrB w' g F cs :=
  ⟨(hb.block _ (Array.getElem?_eq_some_iff.1 h.row).1).trans h.row, h.is.on hb⟩
theorem FrB.new {w : World} {F : Fr} {cs : Array Value} (h : FrL w F cs) : FrB (w.alloc (.cells cs 33)) w.heap.size F cs :=
  ⟨heap_alloc_new _ _, h.on ((Below.refl _ _).alloc (Nat.le_refl _) _)⟩

set_option maxRecDepth 100000 in
set_option maxHeartbeats 1600000 in
theorem wireGets_walk (A : Option Addr) (n c : Nat) (l : List UInt8) (w : World) (hl : l.length = n) (hn : n ≤ 3000) (hc : n ≤ c) (hcm : c ≤ maxLen) (hL : Lies w w.heap.size A (bvs l)) :
    Calls Try.prog 3 #[.slice A n c] w fun e w' => e = .returned (.bool true) ∧ Below w.heap.size w w' := by
  have HG := Lib.hid (wireGet_any A n c l w hl (by omega) hc hcm hL)
  have HR : Hid (∀ W, Below w.heap.size w W → Calls Try.prog 9 #[.slice A n c] W (RefGot W (getOf l))) := fun W hW => refGet_any A n c l W hl (by omega) hc hcm (hL.later hW)
  have hd : ¬ (3000 : Int) < (n : Int) := by omega
  generalize getOf l = r at HG HR
  obtain ⟨F, er⟩ := r
  clear hl hc hcm hL
  have q0 : ((er : Int) == (er : Int)) = true := beq_self_eq_true _
  go_enter Try.func3, Try.ntmps3
  go_wp2_with fail
  refine HG.out.mono ?_
  rintro e w1 ⟨cs, rfl, hfv, hok, hb1⟩
  have HS := Lib.hid hfv.size
  have H1 := Lib.hid hfv.one
  have HOK := Lib.hid hok
  have hB : Below w1.heap.size w1 (w1.alloc (.cells cs 33)) := (Below.refl _ _).alloc (Nat.le_refl _) _
  have HF1 := Lib.hid (FrB.new hfv.slots)
  have HB1 : Hid (Below w.heap.size w (w1.alloc (.cells cs 33))) := hb1.trans (hB.mono hb1.size)
  clear hfv hok hb1 hB HG
  go_wp2_with (first | (refine store_frame_new (.tmp 3) (.tmp 14) rfl rfl rfl rfl HS.out H1.out ?_) | fail)
  generalize hw1 : w1.alloc (.cells cs 33) = wa at HF1 HB1 ⊢
  clear hw1
  generalize w1.heap.size = g1 at HF1 ⊢
  refine (HR.out wa HB1.out).mono ?_
  rintro e w2 ⟨cs2, rfl, HS2, H12, hfl2, hb2⟩
  have hB2 : Below w2.heap.size w2 (w2.alloc (.cells cs2 33)) := (Below.refl _ _).alloc (Nat.le_refl _) _
  have HF2 := Lib.hid (FrB.new hfl2)
  have HF1b := Lib.hid ((HF1.out.on hb2).on hB2)
  have HB2 : Hid (Below w.heap.size w (w2.alloc (.cells cs2 33))) := HB1.out.trans ((hb2.trans (hB2.mono hb2.size)).mono HB1.out.size)
  clear hfl2 hb2 hB2 HR HF1
  go_wp2_with (first | (refine store_frame_new (.tmp 5) (.tmp 19) rfl rfl rfl rfl HS2.out H12.out ?_) | (refine load_frame_on (.tmp 3) rfl rfl HF1b.out.row HS.out ?_) | (refine load_frame_on (.tmp 5) rfl rfl HF2.out.row HS2.out ?_) | fail)
  generalize hw2 : w2.alloc (.cells cs2 33) = wb at HF1b HF2 HB2 ⊢
  clear hw2
  generalize w2.heap.size = g2 at HF2 ⊢
  refine (refSame_any F cs cs2 wb HOK.out HF1b.out.is HF2.out.is).mono ?_
  rintro e w3 ⟨rfl, hb3⟩
  have HB3 : Hid (Below w.heap.size w w3) := HB2.out.trans (hb3.mono HB2.out.size)
  clear hb3
  go_wp2_with fail
  refine (awake_any w3).mono ?_
  rintro e w4 ⟨rfl, hb4⟩
  go_wp2
  go_ret
  exact ⟨rfl, HB3.out.trans (hb4.mono HB3.out.size)⟩

theorem wireGets_any {v : Value} {l : List UInt8} {w : World} (h : Byt w w.heap.size v l) :
    Calls Try.prog 3 #[v] w fun e w' => e = .returned (.bool true) ∧ Below w.heap.size w w' := by
  obtain ⟨A, n, c, rfl, hl, hc, hcm, hL⟩ := h
  by_cases hn : n ≤ 3000
  · exact wireGets_walk A n c l w hl hn hc hcm hL
  · exact wireGets_long A n c w (by omega)

theorem own : ownKnob Try.prog.godebug = none := by kernel_rfl
theorem laidOut : laidOutB Try.prog = true := by kernel_rfl

set_option maxRecDepth 100000 in
theorem wireGets_lifted (os : Os) (started : os.Started) (H : Type) (enc : TypeId × Value → H) :
    ReturnsInHanded {} Try.checked os 3 .any (Rows.wireGetsSpec.pre6 enc Try.prog Try.f3 Rows.wireGetsRow.domain false) (Rows.wireGetsSpec.post enc Try.prog Try.f3 false true false false) := by
  refine returnsInHanded_of_change (C := Try.checked) own started (by kernel_rfl) Try.func3
    (ChangeSpec.witness6 (enc := enc) (C := Try.checked) false ⟨#[], #[.slice none 0 0], []⟩ 8 (by kernel_rfl) (by kernel_rfl) (by kernel_rfl) (by kernel_rfl)) ?_
  intro W base args ds gs before hval0 hW _ _
  have hval : ∀ (j : Nat) t v, Try.f3.params[j]? = some t → args[j]? = some v → Value.okWide Try.prog W .any base t v := hval0
  have hW' := hW
  obtain ⟨p, q, hA0, hV, rfl, _, _⟩ := hW
  have hA : DataW.TrodAll enc Try.prog W 0 (fun _ => true) true Try.f3.params.toList args.toList ds p := hA0
  rw [Try.params3] at hA hval
  obtain ⟨v0, vs0, d0, ds0, p0, q0, hargs, rfl, rfl, h0, r0⟩ := trodAll_cons hA
  obtain ⟨rfl, rfl, rfl⟩ := trodAll_nil r0
  obtain rfl : args = #[v0] := by cases args; simp_all
  obtain ⟨rfl, rfl⟩ := trodVars_none hV
  have k0 := h0
  have lt0 : ∀ x ∈ p0, x.block < W.heap.size := by obtain ⟨m, hm⟩ := k0; exact DataW.trod_lt m _ _ _ hm
  have hwalk : Calls Try.prog 3 #[v0] W fun e w' => e = .returned (.bool true) ∧ Below W.heap.size W w' := by
    obtain ⟨a0, len0, cap0, rfl⟩ := okWide_slice Try.underlying22 (hval 0 22 v0 rfl rfl)
    obtain ⟨fuel, hf⟩ := h0
    obtain ⟨l, hl⟩ := open_bytes Try.underlying22 Try.underlying5 (by kernel_rfl) (by simpa [Value.cells] using hf)
    exact wireGets_any hl
  clear hA0 hval0
  refine hwalk.mono fun e W' ⟨he, bel⟩ => ?_
  subst he
  exact ⟨_, rfl, _, _, _, [], _, [], hW', trodAll_mk1 (shut_bool Try.underlying4 _), (trodAll_cons_mk (Below.trod laidOut (by kernel_rfl) (of_decide_eq_true (by kernel_rfl)) k0 bel lt0) trodAll_mk0), rfl, bel.frame _, fun h => by cases h⟩

theorem wireGets_proved : Rows.WireGetsSaid :=
  OpenClaim.holds_of_wide 3 Try.f3 rfl rfl rfl rfl rfl rfl rfl ⟨rfl, rfl, rfl, rfl, rfl⟩ rfl rfl rfl rfl rfl (by kernel_rfl) Try.func3 (by kernel_rfl)
    (of_decide_eq_true (by kernel_rfl)) (by unfold Func.isWrapper; first | (rw [if_pos (by decide +kernel)]; kernel_rfl) | (rw [if_neg (by decide +kernel)]; exact ⟨rfl, rfl⟩))
    (fun os started H enc _ => wireGets_lifted os started H enc)

end Go.Proofs.Ytbfjfidodpgohaa
