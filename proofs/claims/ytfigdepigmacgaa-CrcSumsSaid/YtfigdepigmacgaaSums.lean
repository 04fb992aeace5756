/- CrcSums: for every list of rows of bytes the call returns true (their sum is the document's sum of them all, one behind the other), and changes nothing that was there. No conditions. -/
import Derived.Test.YtfigdepigmacgaaCrcD
import Derived.Test.YtfigdepigmacgaaCrcE
import Derived.Test.YtfigdepigmacgaaJoin
import Derived.ChangeOld
namespace Go.Proofs.Ytfigdepigmacgaa
open Go.ChangeShapes Go.WideShapes Go.ChangeAt Go.RowKit

theorem crcSums_many (A : Option Addr) (n c : Nat) (w : World) (hn : 30 < n) :
    Calls Try.prog 3 #[.slice A n c] w fun e w' => e = .returned (.bool true) ∧ Below w.heap.size w w' := by
  go_enter Try.func3, Try.ntmps3
  go_wp2_with (first
    | (go_at_call 7; refine (great_many A n c _ hn).mono ?_; rintro e w' ⟨rfl, rfl⟩)
    | (go_at_call 8; refine (awake_any _).mono ?_; rintro e w' ⟨rfl, hb⟩))
  go_ret
  exact ⟨rfl, hb⟩

set_option maxHeartbeats 800000 in
theorem crcSums_great (A : Option Addr) (n c : Nat) (vs : List Value) (ls : List (List UInt8)) (w : World) (hn : n ≤ 30) (hl : vs.length = n) (h : Lies w w.heap.size A vs) (hr : BytRows w w.heap.size vs ls) (hany : (ls.any fun x => decide (300 < x.length)) = true) :
    Calls Try.prog 3 #[.slice A n c] w fun e w' => e = .returned (.bool true) ∧ Below w.heap.size w w' := by
  have HL := Lib.hid hl
  have HR := Lib.hid hr
  have HA := Lib.hid hany
  clear hl hr hany
  go_enter Try.func3, Try.ntmps3
  go_wp2_with (first
    | (go_at_call 7; refine (great_few A n c vs ls _ hn HL.out h HR.out).mono ?_; rw [HA.out]; rintro e w' ⟨rfl, rfl⟩)
    | (go_at_call 8; refine (awake_any _).mono ?_; rintro e w' ⟨rfl, hb⟩))
  go_ret
  exact ⟨rfl, hb⟩

set_option maxHeartbeats 800000 in
theorem crcSums_walk (A : Option Addr) (n c : Nat) (vs : List Value) (ls : List (List UInt8)) (w : World) (hn : n ≤ 30) (hl : vs.length = n) (h : Lies w w.heap.size A vs) (hr : BytRows w w.heap.size vs ls) (hls : ∀ x ∈ ls, x.length ≤ 300) :
    Calls Try.prog 3 #[.slice A n c] w fun e w' => e = .returned (.bool true) ∧ Below w.heap.size w w' := by
  have hany : (ls.any fun x => decide (300 < x.length)) = false := by
    rw [List.any_eq_false]; intro x hx; have := hls x hx; simp; omega
  have hfl := flatten_len ls hls
  have hlen : ls.flatten.length ≤ 9000 := by have := hr.1; omega
  have HL := Lib.hid hl
  have HR := Lib.hid hr
  have HA := Lib.hid hany
  have HLS := Lib.hid hls
  clear hl hr hany hls hfl
  go_enter Try.func3, Try.ntmps3
  go_wp2_with (go_at_call 7; refine (great_few A n c vs ls _ hn HL.out h HR.out).mono ?_; rw [HA.out]; rintro e w' ⟨rfl, rfl⟩)
  go_wp2_with fail
  refine (sum_any A n c vs ls _ HL.out (by omega) h HR.out (fun x hx => by have := HLS.out x hx; omega)).mono ?_
  unfold Summed rv
  rintro e w1 ⟨rfl, hb1⟩
  go_wp2_with fail
  refine (refJoin_any A n c vs ls _ HL.out (by omega) (h.later hb1) (HR.out.later hb1) (fun x hx => by have := HLS.out x hx; omega)).mono ?_
  intro e w2 ho
  obtain ⟨A2, n2, c2, rfl, hn2, hL2, hb2⟩ := ho.use
  have hn2b : n2 ≤ 9000 := by have := hn2.out; omega
  clear ho
  go_wp2_with fail
  refine (refSum_any A2 n2 c2 ls.flatten _ hn2.out (by omega) hL2).mono ?_
  unfold rv
  rintro e w3 ⟨rfl, rfl⟩
  have hb : Below w.heap.size w w2 := hb1.trans (hb2.mono hb1.size)
  clear hb1 hb2
  go_wp2_with fail
  refine (awake_any _).mono ?_
  rintro e w4 ⟨rfl, hb4⟩
  go_wp2
  go_ret
  exact ⟨rfl, hb.trans (hb4.mono hb.size)⟩

theorem crcSums_any {A : Option Addr} {n c : Nat} {vs : List Value} {ls : List (List UInt8)} {w : World} (hl : vs.length = n) (h : Lies w w.heap.size A vs) (hr : BytRows w w.heap.size vs ls) :
    Calls Try.prog 3 #[.slice A n c] w fun e w' => e = .returned (.bool true) ∧ Below w.heap.size w w' := by
  by_cases hn : n ≤ 30
  · by_cases hany : (ls.any fun x => decide (300 < x.length)) = true
    · exact crcSums_great A n c vs ls w hn hl h hr hany
    · refine crcSums_walk A n c vs ls w hn hl h hr (fun x hx => ?_)
      rw [Bool.not_eq_true, List.any_eq_false] at hany
      have := hany x hx
      simp at this
      omega
  · exact crcSums_many A n c w (by omega)

theorem own : ownKnob Try.prog.godebug = none := by kernel_rfl
theorem laidOut : laidOutB Try.prog = true := by kernel_rfl

set_option maxRecDepth 100000 in
theorem crcSums_lifted (os : Os) (started : os.Started) (H : Type) (enc : TypeId × Value → H) :
    ReturnsInHanded {} Try.checked os 3 .any (Rows.crcSumsSpec.pre6 enc Try.prog Try.f3 Rows.crcSumsRow.domain false) (Rows.crcSumsSpec.post enc Try.prog Try.f3 false true false false) := by
  refine returnsInHanded_of_change (C := Try.checked) own started (by kernel_rfl) Try.func3
    (ChangeSpec.witness6 (enc := enc) (C := Try.checked) false ⟨#[], #[.slice none 0 0], []⟩ 8 (by kernel_rfl) (by kernel_rfl) (by kernel_rfl) (by kernel_rfl)) ?_
  intro W base args ds gs before hval0 hW _ _
  have hval : ∀ (j : Nat) t v, Try.f3.params[j]? = some t → args[j]? = some v → Value.okWide Try.prog W .any base t v := hval0
  have hW' := hW
  obtain ⟨p, q, hA0, hV, rfl, _, _⟩ := hW
  have hA : DataW.TrodAll enc Try.prog W 0 (fun _ => true) true Try.f3.params.toList args.toList ds p := hA0
  rw [Try.params3] at hA hval
  obtain ⟨v0, vs0, d0, ds0, p0, q0, hargs, rfl, rfl, h0, r0⟩ := trodAll_cons hA
  obtain ⟨rfl, rfl, rfl⟩ := trodAll_nil r0
  obtain rfl : args = #[v0] := by cases args; simp_all
  obtain ⟨rfl, rfl⟩ := trodVars_none hV
  have k0 := h0
  have lt0 : ∀ x ∈ p0, x.block < W.heap.size := by obtain ⟨m, hm⟩ := k0; exact DataW.trod_lt m _ _ _ hm
  have hwalk : Calls Try.prog 3 #[v0] W fun e w' => e = .returned (.bool true) ∧ Below W.heap.size W w' := by
    obtain ⟨a0, len0, cap0, rfl⟩ := okWide_slice Try.underlying22 (hval 0 22 v0 rfl rfl)
    obtain ⟨fuel, hf⟩ := h0
    obtain ⟨ls, vs, A, n, c, hv, hl, _, _, hL, hR⟩ := open_byteRows Try.underlying22 (by kernel_rfl) Try.underlying28 Try.underlying5 (by kernel_rfl) (by simpa [Value.cells] using hf)
    rw [hv]
    exact crcSums_any hl hL hR
  clear hA0 hval0
  refine hwalk.mono fun e W' ⟨he, bel⟩ => ?_
  subst he
  exact ⟨_, rfl, _, _, _, [], _, [], hW', trodAll_mk1 (shut_bool Try.underlying4 _), (trodAll_cons_mk (Below.trod laidOut (by kernel_rfl) (of_decide_eq_true (by kernel_rfl)) k0 bel lt0) trodAll_mk0), rfl, bel.frame _, fun h => by cases h⟩

theorem crcSums_proved : Rows.CrcSumsSaid :=
  OpenClaim.holds_of_wide 3 Try.f3 rfl rfl rfl rfl rfl rfl rfl ⟨rfl, rfl, rfl, rfl, rfl⟩ rfl rfl rfl rfl rfl (by kernel_rfl) Try.func3 (by kernel_rfl)
    (of_decide_eq_true (by kernel_rfl)) (by unfold Func.isWrapper; first | (rw [if_pos (by decide +kernel)]; kernel_rfl) | (rw [if_neg (by decide +kernel)]; exact ⟨rfl, rfl⟩))
    (fun os started H enc _ => crcSums_lifted os started H enc)

end Go.Proofs.Ytfigdepigmacgaa
