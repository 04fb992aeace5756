/- CrcMarks: for every list of rows of bytes and every list of bytes the call returns true (marked rows are the document's, and fit; whether any bytes fit is the document's; what is handed in stays), and changes nothing that was there. No conditions. -/
import Derived.Test.YtfigdepigmacgaaCrcJ
import Derived.ChangeOld
namespace Go.Proofs.Ytfigdepigmacgaa
open Go.ChangeShapes Go.WideShapes Go.ChangeAt Go.RowKit

theorem crcMarks_many (A A0 : Option Addr) (m c n c0 : Nat) (w : World) (hm : 30 < m) :
    Calls Try.prog 4 #[.slice A m c, .slice A0 n c0] w fun e w' => e = .returned (.bool true) ∧ Below w.heap.size w w' := by
  go_enter Try.func4, Try.ntmps4
  go_wp2_with (first
    | (go_at_call 7; refine (great_many A m c _ hm).mono ?_; rintro e w' ⟨rfl, rfl⟩)
    | (go_at_call 8; refine (awake_any _).mono ?_; rintro e w' ⟨rfl, hb⟩))
  go_ret
  exact ⟨rfl, hb⟩

set_option maxHeartbeats 800000 in
theorem crcMarks_great (A A0 : Option Addr) (m c n c0 : Nat) (vs : List Value) (ls : List (List UInt8)) (w : World) (hm : m ≤ 30) (hl : vs.length = m) (h : Lies w w.heap.size A vs) (hr : BytRows w w.heap.size vs ls) (hany : (ls.any fun x => decide (300 < x.length)) = true) :
    Calls Try.prog 4 #[.slice A m c, .slice A0 n c0] w fun e w' => e = .returned (.bool true) ∧ Below w.heap.size w w' := by
  have HL := Lib.hid hl
  have HR := Lib.hid hr
  have HA := Lib.hid hany
  clear hl hr hany
  go_enter Try.func4, Try.ntmps4
  go_wp2_with (first
    | (go_at_call 7; refine (great_few A m c vs ls _ hm HL.out h HR.out).mono ?_; rw [HA.out]; rintro e w' ⟨rfl, rfl⟩)
    | (go_at_call 8; refine (awake_any _).mono ?_; rintro e w' ⟨rfl, hb⟩))
  go_ret
  exact ⟨rfl, hb⟩

set_option maxHeartbeats 800000 in
theorem crcMarks_long (A A0 : Option Addr) (m c n c0 : Nat) (vs : List Value) (ls : List (List UInt8)) (w : World) (hm : m ≤ 30) (hl : vs.length = m) (h : Lies w w.heap.size A vs) (hr : BytRows w w.heap.size vs ls) (hany : (ls.any fun x => decide (300 < x.length)) = false) (hn : 1000 < n) :
    Calls Try.prog 4 #[.slice A m c, .slice A0 n c0] w fun e w' => e = .returned (.bool true) ∧ Below w.heap.size w w' := by
  have HL := Lib.hid hl
  have HR := Lib.hid hr
  have HA := Lib.hid hany
  clear hl hr hany
  go_enter Try.func4, Try.ntmps4
  go_wp2_with (first
    | (go_at_call 7; refine (great_few A m c vs ls _ hm HL.out h HR.out).mono ?_; rw [HA.out]; rintro e w' ⟨rfl, rfl⟩)
    | (go_at_call 8; refine (awake_any _).mono ?_; rintro e w' ⟨rfl, hb⟩))
  go_ret
  exact ⟨rfl, hb⟩

theorem crcMarks_any {A : Option Addr} {m c : Nat} {v : Value} {vs : List Value} {ls : List (List UInt8)} {lb : List UInt8} {w : World} (hl : vs.length = m) (h : Lies w w.heap.size A vs) (hr : BytRows w w.heap.size vs ls) (hv : Byt w w.heap.size v lb) :
    Calls Try.prog 4 #[.slice A m c, v] w fun e w' => e = .returned (.bool true) ∧ Below w.heap.size w w' := by
  obtain ⟨A0, n, c0, rfl, hlb, hnc, hcm, hb0⟩ := hv
  by_cases hm : m ≤ 30
  · by_cases hany : (ls.any fun x => decide (300 < x.length)) = true
    · exact crcMarks_great A A0 m c n c0 vs ls w hm hl h hr hany
    · rw [Bool.not_eq_true] at hany
      by_cases hn : n ≤ 1000
      · refine crcMarks_walk A A0 m c n c0 vs ls lb w hm hl h hr (fun x hx => ?_) hlb hn hnc hcm hb0
        rw [List.any_eq_false] at hany
        have := hany x hx
        simp at this
        omega
      · exact crcMarks_long A A0 m c n c0 vs ls w hm hl h hr hany (by omega)
  · exact crcMarks_many A A0 m c n c0 w (by omega)

theorem own : ownKnob Try.prog.godebug = none := by kernel_rfl
theorem laidOut : laidOutB Try.prog = true := by kernel_rfl

set_option maxRecDepth 100000 in
theorem crcMarks_lifted (os : Os) (started : os.Started) (H : Type) (enc : TypeId × Value → H) :
    ReturnsInHanded {} Try.checked os 4 .any (Rows.crcMarksSpec.pre6 enc Try.prog Try.f4 Rows.crcMarksRow.domain false) (Rows.crcMarksSpec.post enc Try.prog Try.f4 false true false false) := by
  refine returnsInHanded_of_change (C := Try.checked) own started (by kernel_rfl) Try.func4
    (ChangeSpec.witness6 (enc := enc) (C := Try.checked) false ⟨#[], #[.slice none 0 0, .slice none 0 0], []⟩ 8 (by kernel_rfl) (by kernel_rfl) (by kernel_rfl) (by kernel_rfl)) ?_
  intro W base args ds gs before hval0 hW _ _
  have hval : ∀ (j : Nat) t v, Try.f4.params[j]? = some t → args[j]? = some v → Value.okWide Try.prog W .any base t v := hval0
  have hW' := hW
  obtain ⟨p, q, hA0, hV, rfl, _, _⟩ := hW
  have hA : DataW.TrodAll enc Try.prog W 0 (fun _ => true) true Try.f4.params.toList args.toList ds p := hA0
  rw [Try.params4] at hA hval
  obtain ⟨v0, vs0, d0, ds0, p0, q0, hargs, rfl, rfl, h0, r0⟩ := trodAll_cons hA
  obtain ⟨v1, vs1, d1, ds1, p1, q1, rfl, rfl, rfl, h1, r1⟩ := trodAll_cons r0
  obtain ⟨rfl, rfl, rfl⟩ := trodAll_nil r1
  obtain rfl : args = #[v0, v1] := by cases args; simp_all
  obtain ⟨rfl, rfl⟩ := trodVars_none hV
  have k0 := h0
  have lt0 : ∀ x ∈ p0, x.block < W.heap.size := by obtain ⟨m, hm⟩ := k0; exact DataW.trod_lt m _ _ _ hm
  have k1 := h1
  have lt1 : ∀ x ∈ p1, x.block < W.heap.size := by obtain ⟨m, hm⟩ := k1; exact DataW.trod_lt m _ _ _ hm
  have hwalk : Calls Try.prog 4 #[v0, v1] W fun e w' => e = .returned (.bool true) ∧ Below W.heap.size W w' := by
    obtain ⟨a0, len0, cap0, rfl⟩ := okWide_slice Try.underlying22 (hval 0 22 v0 rfl rfl)
    obtain ⟨a1, len1, cap1, rfl⟩ := okWide_slice Try.underlying28 (hval 1 28 v1 rfl rfl)
    obtain ⟨fuel, hf⟩ := h0
    obtain ⟨fuel1, hf1⟩ := h1
    obtain ⟨ls, vs, A, n, c, hv, hl, _, _, hL, hR⟩ := open_byteRows Try.underlying22 (by kernel_rfl) Try.underlying28 Try.underlying5 (by kernel_rfl) (by simpa [Value.cells] using hf)
    obtain ⟨lb, hlb⟩ := open_bytes Try.underlying28 Try.underlying5 (by kernel_rfl) (by simpa [Value.cells] using hf1)
    rw [hv]
    exact crcMarks_any hl hL hR hlb
  clear hA0 hval0
  refine hwalk.mono fun e W' ⟨he, bel⟩ => ?_
  subst he
  exact ⟨_, rfl, _, _, _, [], _, [], hW', trodAll_mk1 (shut_bool Try.underlying4 _), (trodAll_cons_mk (Below.trod laidOut (by kernel_rfl) (of_decide_eq_true (by kernel_rfl)) k0 bel lt0) (trodAll_cons_mk (Below.trod laidOut (by kernel_rfl) (of_decide_eq_true (by kernel_rfl)) k1 bel lt1) trodAll_mk0)), rfl, bel.frame _, fun h => by cases h⟩

theorem crcMarks_proved : Rows.CrcMarksSaid :=
  OpenClaim.holds_of_wide 4 Try.f4 rfl rfl rfl rfl rfl rfl rfl ⟨rfl, rfl, rfl, rfl, rfl⟩ rfl rfl rfl rfl rfl (by kernel_rfl) Try.func4 (by kernel_rfl)
    (of_decide_eq_true (by kernel_rfl)) (by unfold Func.isWrapper; first | (rw [if_pos (by decide +kernel)]; kernel_rfl) | (rw [if_neg (by decide +kernel)]; exact ⟨rfl, rfl⟩))
    (fun os started H enc _ => crcMarks_lifted os started H enc)

end Go.Proofs.Ytfigdepigmacgaa
