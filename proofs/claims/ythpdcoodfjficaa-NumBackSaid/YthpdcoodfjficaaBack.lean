/- NumBack: for every list of numbers and every list of rows the call returns true (numbers and rows that were put are read, and nothing is left), and changes nothing that was there. No conditions. -/
import Derived.Test.YthpdcoodfjficaaBackA
import Derived.ChangeOld
namespace Go.Proofs.Ythpdcoodfjficaa
open Go.ChangeShapes Go.WideShapes Go.ChangeAt Go.RowKit

theorem numBack_long (A : Option Addr) (n c : Nat) (v : Value) (w : World) (hn : 60 < n) :
    Calls Try.prog 5 #[.slice A n c, v] w fun e w' => e = .returned (.bool true) ∧ Below w.heap.size w w' := by
  go_enter Try.func5, Try.ntmps5
  go_wp2_with (go_at_call 9; refine (awake_any _).mono ?_; rintro e w' ⟨rfl, hb⟩)
  go_ret
  exact ⟨rfl, hb⟩

theorem numBack_great (A : Option Addr) (n c : Nat) (v : Value) (w : World) (hn : n ≤ 60) (hg : Calls Try.prog 8 #[v] w fun e w' => e = .returned (.bool true) ∧ w = w') :
    Calls Try.prog 5 #[.slice A n c, v] w fun e w' => e = .returned (.bool true) ∧ Below w.heap.size w w' := by
  have HG := Lib.hid hg
  clear hg
  go_enter Try.func5, Try.ntmps5
  go_wp2_with (first
    | (go_at_call 8; refine HG.out.mono ?_; rintro e w' ⟨rfl, rfl⟩)
    | (go_at_call 9; refine (awake_any _).mono ?_; rintro e w' ⟨rfl, hb⟩))
  go_ret
  exact ⟨rfl, hb⟩

theorem numBack_any (A A2 : Option Addr) (n c m c2 : Nat) (ns : List Nat) (vs : List Value) (ls : List (List UInt8)) (w : World) (hl : ns.length = n) (h : Lies w w.heap.size A (uvs ns)) (hns : ∀ x ∈ ns, x < 18446744073709551616)
    (hl2 : vs.length = m) (h2 : Lies w w.heap.size A2 vs) (hr : BytRows w w.heap.size vs ls) :
    Calls Try.prog 5 #[.slice A n c, .slice A2 m c2] w fun e w' => e = .returned (.bool true) ∧ Below w.heap.size w w' := by
  by_cases hn : n ≤ 60
  · by_cases hm : m ≤ 60
    · by_cases ha : (ls.any fun x => decide (300 < x.length)) = true
      · refine numBack_great A n c _ w hn ?_
        have := great_few A2 m c2 vs ls w hm hl2 h2 hr
        rwa [ha] at this
      · refine numBack_walk A A2 n c m c2 ns vs ls w hl hn h hns hl2 hm h2 hr (fun x hx => ?_)
        rw [Bool.not_eq_true, List.any_eq_false] at ha
        have := ha x hx
        simpa using this
    · exact numBack_great A n c _ w hn (great_many A2 m c2 w (by omega))
  · exact numBack_long A n c _ w (by omega)

theorem own : ownKnob Try.prog.godebug = none := by kernel_rfl
theorem laidOut : laidOutB Try.prog = true := by kernel_rfl

set_option maxRecDepth 100000 in
theorem numBack_lifted (os : Os) (started : os.Started) (H : Type) (enc : TypeId × Value → H) :
    ReturnsInHanded {} Try.checked os 5 .any (Rows.numBackSpec.pre6 enc Try.prog Try.f5 Rows.numBackRow.domain false) (Rows.numBackSpec.post enc Try.prog Try.f5 false true false false) := by
  refine returnsInHanded_of_change (C := Try.checked) own started (by kernel_rfl) Try.func5
    (ChangeSpec.witness6 (enc := enc) (C := Try.checked) false ⟨#[], #[.slice none 0 0, .slice none 0 0], []⟩ 8 (by kernel_rfl) (by kernel_rfl) (by kernel_rfl) (by kernel_rfl)) ?_
  intro W base args ds gs before hval0 hW _ _
  have hval : ∀ (j : Nat) t v, Try.f5.params[j]? = some t → args[j]? = some v → Value.okWide Try.prog W .any base t v := hval0
  have hW' := hW
  obtain ⟨p, q, hA0, hV, rfl, _, _⟩ := hW
  have hA : DataW.TrodAll enc Try.prog W 0 (fun _ => true) true Try.f5.params.toList args.toList ds p := hA0
  rw [Try.params5] at hA hval
  obtain ⟨v0, vs0, d0, ds0, p0, q0, hargs, rfl, rfl, h0, r0⟩ := trodAll_cons hA
  obtain ⟨v1, vs1, d1, ds1, p1, q1, rfl, rfl, rfl, h1, r1⟩ := trodAll_cons r0
  obtain ⟨rfl, rfl, rfl⟩ := trodAll_nil r1
  obtain rfl : args = #[v0, v1] := by cases args; simp_all
  obtain ⟨rfl, rfl⟩ := trodVars_none hV
  have k0 := h0
  have lt0 : ∀ x ∈ p0, x.block < W.heap.size := by obtain ⟨m, hm⟩ := k0; exact DataW.trod_lt m _ _ _ hm
  have k1 := h1
  have lt1 : ∀ x ∈ p1, x.block < W.heap.size := by obtain ⟨m, hm⟩ := k1; exact DataW.trod_lt m _ _ _ hm
  have hwalk : Calls Try.prog 5 #[v0, v1] W fun e w' => e = .returned (.bool true) ∧ Below W.heap.size W w' := by
    obtain ⟨a0, len0, cap0, rfl⟩ := okWide_slice Try.underlying23 (hval 0 23 v0 rfl rfl)
    obtain ⟨a1, len1, cap1, rfl⟩ := okWide_slice Try.underlying24 (hval 1 24 v1 rfl rfl)
    obtain ⟨fuel, hf⟩ := h0
    obtain ⟨fuel1, hf1⟩ := h1
    obtain ⟨l, A, n, c, hv, hl, _, _, hL, hb⟩ := open_nums Try.underlying23 Try.underlying28 (by kernel_rfl) (by simpa [Value.cells] using hf)
    obtain ⟨ls, vs, A2, m, c2, hv2, hl2, _, _, hL2, hR2⟩ := open_byteRows Try.underlying24 (by kernel_rfl) Try.underlying22 Try.underlying5 (by kernel_rfl) (by simpa [Value.cells] using hf1)
    rw [hv, hv2]
    exact numBack_any A A2 n c m c2 l vs ls W hl hL hb hl2 hL2 hR2
  clear hA0 hval0
  refine hwalk.mono fun e W' ⟨he, bel⟩ => ?_
  subst he
  exact ⟨_, rfl, _, _, _, [], _, [], hW', trodAll_mk1 (shut_bool Try.underlying4 _), (trodAll_cons_mk (Below.trod laidOut (by kernel_rfl) (of_decide_eq_true (by kernel_rfl)) k0 bel lt0) (trodAll_cons_mk (Below.trod laidOut (by kernel_rfl) (of_decide_eq_true (by kernel_rfl)) k1 bel lt1) trodAll_mk0)), rfl, bel.frame _, fun h => by cases h⟩

theorem numBack_proved : Rows.NumBackSaid :=
  OpenClaim.holds_of_wide 5 Try.f5 rfl rfl rfl rfl rfl rfl rfl ⟨rfl, rfl, rfl, rfl, rfl⟩ rfl rfl rfl rfl rfl (by kernel_rfl) Try.func5 (by kernel_rfl)
    (of_decide_eq_true (by kernel_rfl)) (by unfold Func.isWrapper; first | (rw [if_pos (by decide +kernel)]; kernel_rfl) | (rw [if_neg (by decide +kernel)]; exact ⟨rfl, rfl⟩))
    (fun os started H enc _ => numBack_lifted os started H enc)

end Go.Proofs.Ythpdcoodfjficaa
