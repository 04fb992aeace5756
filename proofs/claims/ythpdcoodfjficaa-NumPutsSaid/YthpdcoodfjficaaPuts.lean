/- NumPuts: for every list of bytes, every list of numbers and every list of rows the call returns true (the bytes of the numbers, and of the rows, behind those handed in, are the document's; what is handed in stays), and changes nothing that was there. No conditions. -/
import Derived.Test.YthpdcoodfjficaaPutsB
import Derived.ChangeOld
namespace Go.Proofs.Ythpdcoodfjficaa
open Go.ChangeShapes Go.WideShapes Go.ChangeAt Go.RowKit

theorem numPuts_long (A0 : Option Addr) (n0 c0 : Nat) (v1 v2 : Value) (w : World) (hn : 300 < n0) :
    Calls Try.prog 3 #[.slice A0 n0 c0, v1, v2] w fun e w' => e = .returned (.bool true) ∧ Below w.heap.size w w' := by
  go_enter Try.func3, Try.ntmps3
  go_wp2_with (go_at_call 9; refine (awake_any _).mono ?_; rintro e w' ⟨rfl, hb⟩)
  go_ret
  exact ⟨rfl, hb⟩

theorem numPuts_many (A0 A : Option Addr) (n0 c0 n c : Nat) (v2 : Value) (w : World) (hn0 : n0 ≤ 300) (hn : 60 < n) :
    Calls Try.prog 3 #[.slice A0 n0 c0, .slice A n c, v2] w fun e w' => e = .returned (.bool true) ∧ Below w.heap.size w w' := by
  go_enter Try.func3, Try.ntmps3
  go_wp2_with (go_at_call 9; refine (awake_any _).mono ?_; rintro e w' ⟨rfl, hb⟩)
  go_ret
  exact ⟨rfl, hb⟩

theorem numPuts_great (A0 A : Option Addr) (n0 c0 n c : Nat) (v2 : Value) (w : World) (hn0 : n0 ≤ 300) (hn : n ≤ 60) (hg : Calls Try.prog 8 #[v2] w fun e w' => e = .returned (.bool true) ∧ w = w') :
    Calls Try.prog 3 #[.slice A0 n0 c0, .slice A n c, v2] w fun e w' => e = .returned (.bool true) ∧ Below w.heap.size w w' := by
  have HG := Lib.hid hg
  clear hg
  go_enter Try.func3, Try.ntmps3
  go_wp2_with (first
    | (go_at_call 8; refine HG.out.mono ?_; rintro e w' ⟨rfl, rfl⟩)
    | (go_at_call 9; refine (awake_any _).mono ?_; rintro e w' ⟨rfl, hb⟩))
  go_ret
  exact ⟨rfl, hb⟩

theorem numPuts_any {v0 : Value} {l : List UInt8} {w : World} (h0 : Byt w w.heap.size v0 l) (A A2 : Option Addr) (n c m c2 : Nat) (ns : List Nat) (vs : List Value) (ls : List (List UInt8)) (hl : ns.length = n) (h : Lies w w.heap.size A (uvs ns)) (hns : ∀ x ∈ ns, x < 18446744073709551616)
    (hl2 : vs.length = m) (h2 : Lies w w.heap.size A2 vs) (hr : BytRows w w.heap.size vs ls) :
    Calls Try.prog 3 #[v0, .slice A n c, .slice A2 m c2] w fun e w' => e = .returned (.bool true) ∧ Below w.heap.size w w' := by
  obtain ⟨A0, n0, c0, rfl, hl0, hc1, hc2, hL⟩ := h0
  by_cases hn0 : n0 ≤ 300
  · by_cases hn : n ≤ 60
    · by_cases hm : m ≤ 60
      · by_cases ha : (ls.any fun x => decide (300 < x.length)) = true
        · refine numPuts_great A0 A n0 c0 n c _ w hn0 hn ?_
          have := great_few A2 m c2 vs ls w hm hl2 h2 hr
          rwa [ha] at this
        · refine numPuts_walk A0 A A2 n0 c0 n c m c2 l ns vs ls w hl0 hn0 ⟨hc1, hc2⟩ hL hl hn h hns hl2 hm h2 hr (fun x hx => ?_)
          rw [Bool.not_eq_true, List.any_eq_false] at ha
          have := ha x hx
          simpa using this
      · exact numPuts_great A0 A n0 c0 n c _ w hn0 hn (great_many A2 m c2 w (by omega))
    · exact numPuts_many A0 A n0 c0 n c _ w hn0 (by omega)
  · exact numPuts_long A0 n0 c0 _ _ w (by omega)

theorem own : ownKnob Try.prog.godebug = none := by kernel_rfl
theorem laidOut : laidOutB Try.prog = true := by kernel_rfl

set_option maxRecDepth 100000 in
theorem numPuts_lifted (os : Os) (started : os.Started) (H : Type) (enc : TypeId × Value → H) :
    ReturnsInHanded {} Try.checked os 3 .any (Rows.numPutsSpec.pre6 enc Try.prog Try.f3 Rows.numPutsRow.domain false) (Rows.numPutsSpec.post enc Try.prog Try.f3 false true false false) := by
  refine returnsInHanded_of_change (C := Try.checked) own started (by kernel_rfl) Try.func3
    (ChangeSpec.witness6 (enc := enc) (C := Try.checked) false ⟨#[], #[.slice none 0 0, .slice none 0 0, .slice none 0 0], []⟩ 8 (by kernel_rfl) (by kernel_rfl) (by kernel_rfl) (by kernel_rfl)) ?_
  intro W base args ds gs before hval0 hW _ _
  have hval : ∀ (j : Nat) t v, Try.f3.params[j]? = some t → args[j]? = some v → Value.okWide Try.prog W .any base t v := hval0
  have hW' := hW
  obtain ⟨p, q, hA0, hV, rfl, _, _⟩ := hW
  have hA : DataW.TrodAll enc Try.prog W 0 (fun _ => true) true Try.f3.params.toList args.toList ds p := hA0
  rw [Try.params3] at hA hval
  obtain ⟨v0, vs0, d0, ds0, p0, q0, hargs, rfl, rfl, h0, r0⟩ := trodAll_cons hA
  obtain ⟨v1, vs1, d1, ds1, p1, q1, rfl, rfl, rfl, h1, r1⟩ := trodAll_cons r0
  obtain ⟨v2, vs2, d2, ds2, p2, q2, rfl, rfl, rfl, h2, r2⟩ := trodAll_cons r1
  obtain ⟨rfl, rfl, rfl⟩ := trodAll_nil r2
  obtain rfl : args = #[v0, v1, v2] := by cases args; simp_all
  obtain ⟨rfl, rfl⟩ := trodVars_none hV
  have k0 := h0
  have lt0 : ∀ x ∈ p0, x.block < W.heap.size := by obtain ⟨m, hm⟩ := k0; exact DataW.trod_lt m _ _ _ hm
  have k1 := h1
  have lt1 : ∀ x ∈ p1, x.block < W.heap.size := by obtain ⟨m, hm⟩ := k1; exact DataW.trod_lt m _ _ _ hm
  have k2 := h2
  have lt2 : ∀ x ∈ p2, x.block < W.heap.size := by obtain ⟨m, hm⟩ := k2; exact DataW.trod_lt m _ _ _ hm
  have hwalk : Calls Try.prog 3 #[v0, v1, v2] W fun e w' => e = .returned (.bool true) ∧ Below W.heap.size W w' := by
    obtain ⟨a0, len0, cap0, rfl⟩ := okWide_slice Try.underlying22 (hval 0 22 v0 rfl rfl)
    obtain ⟨a1, len1, cap1, rfl⟩ := okWide_slice Try.underlying23 (hval 1 23 v1 rfl rfl)
    obtain ⟨a2, len2, cap2, rfl⟩ := okWide_slice Try.underlying24 (hval 2 24 v2 rfl rfl)
    obtain ⟨fuel, hf⟩ := h0
    obtain ⟨fuel1, hf1⟩ := h1
    obtain ⟨fuel2, hf2⟩ := h2
    obtain ⟨l0, hl0⟩ := open_bytes Try.underlying22 Try.underlying5 (by kernel_rfl) (by simpa [Value.cells] using hf)
    obtain ⟨l, A, n, c, hv, hl, _, _, hL, hb⟩ := open_nums Try.underlying23 Try.underlying28 (by kernel_rfl) (by simpa [Value.cells] using hf1)
    obtain ⟨ls, vs, A2, m, c2, hv2, hl2, _, _, hL2, hR2⟩ := open_byteRows Try.underlying24 (by kernel_rfl) Try.underlying22 Try.underlying5 (by kernel_rfl) (by simpa [Value.cells] using hf2)
    rw [hv, hv2]
    exact numPuts_any hl0 A A2 n c m c2 l vs ls hl hL hb hl2 hL2 hR2
  clear hA0 hval0
  refine hwalk.mono fun e W' ⟨he, bel⟩ => ?_
  subst he
  exact ⟨_, rfl, _, _, _, [], _, [], hW', trodAll_mk1 (shut_bool Try.underlying4 _), (trodAll_cons_mk (Below.trod laidOut (by kernel_rfl) (of_decide_eq_true (by kernel_rfl)) k0 bel lt0) (trodAll_cons_mk (Below.trod laidOut (by kernel_rfl) (of_decide_eq_true (by kernel_rfl)) k1 bel lt1) (trodAll_cons_mk (Below.trod laidOut (by kernel_rfl) (of_decide_eq_true (by kernel_rfl)) k2 bel lt2) trodAll_mk0))), rfl, bel.frame _, fun h => by cases h⟩

theorem numPuts_proved : Rows.NumPutsSaid :=
  OpenClaim.holds_of_wide 3 Try.f3 rfl rfl rfl rfl rfl rfl rfl ⟨rfl, rfl, rfl, rfl, rfl⟩ rfl rfl rfl rfl rfl (by kernel_rfl) Try.func3 (by kernel_rfl)
    (of_decide_eq_true (by kernel_rfl)) (by unfold Func.isWrapper; first | (rw [if_pos (by decide +kernel)]; kernel_rfl) | (rw [if_neg (by decide +kernel)]; exact ⟨rfl, rfl⟩))
    (fun os started H enc _ => numPuts_lifted os started H enc)

end Go.Proofs.Ythpdcoodfjficaa
