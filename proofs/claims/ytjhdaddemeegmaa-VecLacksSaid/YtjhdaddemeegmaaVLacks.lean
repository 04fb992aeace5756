/- VecLacks: for every two vectors the call returns true (one falls short of the other just if it doesn't cover it; of the greatest numbers of both by as much as of the other one), and changes nothing that was there. No conditions. -/
import Derived.Test.YtjhdaddemeegmaaVcF
import Derived.Test.YtjhdaddemeegmaaVcM
import Derived.ChangeOld
namespace Go.Proofs.Ytjhdaddemeegmaa
open Go.ChangeShapes Go.WideShapes Go.ChangeAt Go.RowKit

theorem vecLacks_long (A : Option Addr) (n c : Nat) (A2 : Option Addr) (m c2 : Nat) (w : World) (hn : 100 < n) :
    Calls Try.prog 8 #[.slice A n c, .slice A2 m c2] w fun e w' => e = .returned (.bool true) ∧ Below w.heap.size w w' := by
  have hd : decide (100 < (n : Int)) = true := by simp; omega
  go_enter Try.func8, Try.ntmps8
  go_wp2_with (go_at_call 9; refine (awake_any _).mono ?_; rintro e w' ⟨rfl, hb⟩)
  go_ret
  exact ⟨rfl, hb⟩

theorem vecLacks_long2 (A : Option Addr) (n c : Nat) (A2 : Option Addr) (m c2 : Nat) (w : World) (hn : n ≤ 100) (hm : 100 < m) :
    Calls Try.prog 8 #[.slice A n c, .slice A2 m c2] w fun e w' => e = .returned (.bool true) ∧ Below w.heap.size w w' := by
  have hd : decide (100 < (n : Int)) = false := by simp; omega
  have hd2 : decide (100 < (m : Int)) = true := by simp; omega
  go_enter Try.func8, Try.ntmps8
  go_wp2_with (go_at_call 9; refine (awake_any _).mono ?_; rintro e w' ⟨rfl, hb⟩)
  go_ret
  exact ⟨rfl, hb⟩

theorem lack_covers (a b : List Nat) : ∃ q : Nat, ∃ t : Bool, lackN a b = q ∧ coversB a [b] = t ∧ t = decide (q = 0) := by
  refine ⟨_, _, rfl, rfl, bool_ext ?_⟩
  rw [← lack_zero]
  simp

set_option maxHeartbeats 1600000 in
theorem vecLacks_walk (A : Option Addr) (n c : Nat) (a : List Nat) (A2 : Option Addr) (m c2 : Nat) (b : List Nat) (w : World) (hn : n ≤ 100) (hm : m ≤ 100)
    (hl : a.length = n) (hc1 : n ≤ c) (hc2 : c ≤ maxLen) (h : Lies w w.heap.size A (uvs a)) (hu : ∀ x ∈ a, x < 18446744073709551616)
    (hl2 : b.length = m) (hc3 : m ≤ c2) (hc4 : c2 ≤ maxLen) (h2 : Lies w w.heap.size A2 (uvs b)) (hu2 : ∀ x ∈ b, x < 18446744073709551616) :
    Calls Try.prog 8 #[.slice A n c, .slice A2 m c2] w fun e w' => e = .returned (.bool true) ∧ Below w.heap.size w w' := by
  have hd : decide (100 < (n : Int)) = false := by simp; omega
  have hd2 : decide (100 < (m : Int)) = false := by simp; omega
  have hva : Vec w w.heap.size (.slice A n c) a := ⟨A, n, c, rfl, hl, hc1, hc2, h⟩
  have hvb : Vec w w.heap.size (.slice A2 m c2) b := ⟨A2, m, c2, rfl, hl2, hc3, hc4, h2⟩
  have hlack := lack_any A n c w.heap.size a A2 m c2 b w (by omega) hl h hl2 h2 hu2
  have hlong : longN [a, b] ≤ 1000 := (long_le _ _).2 (by simp; omega)
  obtain ⟨q, t, hq, ht, hqt⟩ := lack_covers a b
  have HQ := Lib.hid hq
  have HM : Hid (lackN a (foldV max [a, b]) = q) := by rw [lack_max]; exact hq
  have HZ : Hid (lackN (foldV max [a, b]) b = 0) := lack_by_max a b
  have HML := Lib.hid (foldV_length max [a, b])
  have HMU : Hid (∀ x ∈ foldV max [a, b], x < 18446744073709551616) := max_lt (by simp; exact ⟨hu, hu2⟩)
  have HL := Lib.hid hl
  have HL2 := Lib.hid hl2
  have HU2 := Lib.hid hu2
  have HT := Lib.hid ht
  rw [hq] at hlack
  -- the calls, in every later world
  have J1 : Hid (∀ W : World, Below w.heap.size w W → Calls Try.prog 23 #[.slice A n c, .slice (some ⟨W.heap.size, 0, none⟩) 1 1] (W.alloc (.cells #[.slice A2 m c2] 22)) fun e w' => e = .returned (.bool t) ∧ W.alloc (.cells #[.slice A2 m c2] 22) = w') := fun W hW => by
    obtain ⟨r1, r2, r3⟩ := rows_laid (w := W) 22 (cs := #[.slice A2 m c2]) rfl (VecRows.cons (hvb.later hW) VecRows.nil)
    rw [← ht]
    exact covers_any A n c _ a _ 1 1 _ _ _ (by omega) (by omega) (by simp; omega) hl ((h.later hW).later r3) rfl r1 r2
  have J2 : Hid (∀ W : World, Below w.heap.size w W → Calls Try.prog 22 #[.slice (some ⟨W.heap.size, 0, none⟩) 2 2] (W.alloc (.cells #[.slice A n c, .slice A2 m c2] 22)) fun e w' => ∃ A5 n5 c5, e = .returned (.slice A5 n5 c5) ∧ Hid ((foldV max [a, b]).length = n5) ∧ n5 ≤ 1000 ∧ Lies w' w'.heap.size A5 (uvs (foldV max [a, b])) ∧ Below w.heap.size w w') := fun W hW => by
    obtain ⟨r1, r2, r3⟩ := rows_laid (w := W) 22 (cs := #[.slice A n c, .slice A2 m c2]) rfl (VecRows.cons (hva.later hW) (VecRows.cons (hvb.later hW) VecRows.nil))
    refine (max_any _ 2 2 _ _ _ (by omega) (by omega) (by unfold maxLen; omega) hlong rfl r1 r2).mono ?_
    intro e w' ho
    obtain ⟨A5, n5, c5, he, h5, _, _, hL5, hb5⟩ := ho.use
    refine ⟨A5, n5, c5, he, h5, by rw [← h5.out, HML.out]; exact hlong, hL5, ?_⟩
    have hb' := hW.trans (r3.mono hW.size)
    exact hb'.trans (hb5.mono hb'.size)
  have J3 : Hid (∀ (W : World) (A5 : Option Addr) (n5 c5 : Nat), Below w.heap.size w W → (foldV max [a, b]).length = n5 → n5 ≤ 1000 → Lies W W.heap.size A5 (uvs (foldV max [a, b])) → Calls Try.prog 15 #[.slice A n c, .slice A5 n5 c5] W fun e w' => e = .returned (.int .u64 (q : Int)) ∧ W = w') := fun W A5 n5 c5 hW e5 h5 hL5 => by
    have := lack_any A n c _ a A5 n5 c5 (foldV max [a, b]) W h5 hl (h.later hW) e5 hL5 HMU.out
    rw [HM.out] at this
    exact this
  have J4 : Hid (∀ (W : World) (A5 : Option Addr) (n5 c5 : Nat), Below w.heap.size w W → (foldV max [a, b]).length = n5 → Lies W W.heap.size A5 (uvs (foldV max [a, b])) → Calls Try.prog 15 #[.slice A5 n5 c5, .slice A2 m c2] W fun e w' => e = .returned (.int .u64 0) ∧ W = w') := fun W A5 n5 c5 hW e5 hL5 => by
    have := lack_any A5 n5 c5 _ (foldV max [a, b]) A2 m c2 b W (by omega) e5 hL5 hl2 (h2.later hW) HU2.out
    rw [HZ.out] at this
    exact this
  clear hva hvb hl hl2 hu hu2 hq ht HM HZ HML HMU HL HL2 HU2 HT HQ hlong h h2 hc2 hc4
  by_cases hq0 : q = 0
  · subst hq0
    obtain rfl : t = true := by simpa using hqt
    clear hqt
    go_enter Try.func8, Try.ntmps8
    go_wp2_with fail
    refine hlack.mono ?_
    rintro e w0 ⟨rfl, rfl⟩
    clear hlack
    go_wp2_with fail
    refine (J1.out w (Below.refl _ _)).mono ?_
    rintro e w1 ⟨rfl, rfl⟩
    have hb1 : Below w.heap.size w (w.alloc (.cells #[.slice A2 m c2] 22)) := (Below.refl _ _).alloc (Nat.le_refl _) _
    generalize World.alloc w _ = w1 at hb1 ⊢
    clear J1
    go_wp2_with fail
    refine (J2.out w1 hb1).mono ?_
    rintro e w3 ⟨A5, n5, c5, rfl, e5, hn5, hL5, hb3⟩
    go_wp2_with fail
    refine (J3.out w3 A5 n5 c5 hb3 e5.out hn5 hL5).mono ?_
    rintro e w4 ⟨rfl, rfl⟩
    clear J3 hL5 e5 hb1
    go_wp2_with fail
    refine (J2.out w3 hb3).mono ?_
    rintro e w4 ⟨A6, n6, c6, rfl, e6, hn6, hL6, hb4⟩
    go_wp2_with fail
    refine (J4.out w4 A6 n6 c6 hb4 e6.out hL6).mono ?_
    rintro e w5 ⟨rfl, rfl⟩
    clear J4 J2 hL6 e6 hb3
    go_wp2_with fail
    refine (awake_any _).mono ?_
    rintro e w5 ⟨rfl, hb5⟩
    go_wp2
    go_ret
    exact ⟨rfl, hb4.trans (hb5.mono hb4.size)⟩
  · obtain rfl : t = false := by simpa [hq0] using hqt
    have hqb : ((q : Int) == 0) = false := by simp; omega
    clear hqt
    go_enter Try.func8, Try.ntmps8
    go_wp2_with fail
    refine hlack.mono ?_
    rintro e w0 ⟨rfl, rfl⟩
    clear hlack
    go_wp2_with fail
    refine (J1.out w (Below.refl _ _)).mono ?_
    rintro e w1 ⟨rfl, rfl⟩
    have hb1 : Below w.heap.size w (w.alloc (.cells #[.slice A2 m c2] 22)) := (Below.refl _ _).alloc (Nat.le_refl _) _
    generalize World.alloc w _ = w1 at hb1 ⊢
    clear J1
    go_wp2_with fail
    refine (J2.out w1 hb1).mono ?_
    rintro e w3 ⟨A5, n5, c5, rfl, e5, hn5, hL5, hb3⟩
    go_wp2_with fail
    refine (J3.out w3 A5 n5 c5 hb3 e5.out hn5 hL5).mono ?_
    rintro e w4 ⟨rfl, rfl⟩
    clear J3 hL5 e5 hb1
    go_wp2_with fail
    refine (J2.out w3 hb3).mono ?_
    rintro e w4 ⟨A6, n6, c6, rfl, e6, hn6, hL6, hb4⟩
    go_wp2_with fail
    refine (J4.out w4 A6 n6 c6 hb4 e6.out hL6).mono ?_
    rintro e w5 ⟨rfl, rfl⟩
    clear J4 J2 hL6 e6 hb3
    go_wp2_with fail
    refine (awake_any _).mono ?_
    rintro e w5 ⟨rfl, hb5⟩
    go_wp2
    go_ret
    exact ⟨rfl, hb4.trans (hb5.mono hb4.size)⟩

theorem own : ownKnob Try.prog.godebug = none := by kernel_rfl
theorem laidOut : laidOutB Try.prog = true := by kernel_rfl

set_option maxRecDepth 100000 in
theorem vecLacks_lifted (os : Os) (started : os.Started) (H : Type) (enc : TypeId × Value → H) :
    ReturnsInHanded {} Try.checked os 8 .any (Rows.vecLacksSpec.pre6 enc Try.prog Try.f8 Rows.vecLacksRow.domain false) (Rows.vecLacksSpec.post enc Try.prog Try.f8 false true false false) := by
  refine returnsInHanded_of_change (C := Try.checked) own started (by kernel_rfl) Try.func8
    (ChangeSpec.witness6 (enc := enc) (C := Try.checked) false ⟨#[], #[.slice none 0 0, .slice none 0 0], []⟩ 8 (by kernel_rfl) (by kernel_rfl) (by kernel_rfl) (by kernel_rfl)) ?_
  intro W base args ds gs before hval0 hW _ _
  have hval : ∀ (j : Nat) t v, Try.f8.params[j]? = some t → args[j]? = some v → Value.okWide Try.prog W .any base t v := hval0
  have hW' := hW
  obtain ⟨p, q, hA0, hV, rfl, _, _⟩ := hW
  have hA : DataW.TrodAll enc Try.prog W 0 (fun _ => true) true Try.f8.params.toList args.toList ds p := hA0
  rw [Try.params8] at hA hval
  obtain ⟨v0, vs0, d0, ds0, p0, q0, hargs, rfl, rfl, h0, r0⟩ := trodAll_cons hA
  obtain ⟨v1, vs1, d1, ds1, p1, q1, rfl, rfl, rfl, h1, r1⟩ := trodAll_cons r0
  obtain ⟨rfl, rfl, rfl⟩ := trodAll_nil r1
  obtain rfl : args = #[v0, v1] := by cases args; simp_all
  obtain ⟨rfl, rfl⟩ := trodVars_none hV
  have k0 := h0
  have lt0 : ∀ x ∈ p0, x.block < W.heap.size := by obtain ⟨m, hm⟩ := k0; exact DataW.trod_lt m _ _ _ hm
  have k1 := h1
  have lt1 : ∀ x ∈ p1, x.block < W.heap.size := by obtain ⟨m, hm⟩ := k1; exact DataW.trod_lt m _ _ _ hm
  have hwalk : Calls Try.prog 8 #[v0, v1] W fun e w' => e = .returned (.bool true) ∧ Below W.heap.size W w' := by
    obtain ⟨a0, len0, cap0, rfl⟩ := okWide_slice Try.underlying22 (hval 0 22 v0 rfl rfl)
    obtain ⟨a1, len1, cap1, rfl⟩ := okWide_slice Try.underlying22 (hval 1 22 v1 rfl rfl)
    obtain ⟨fuel, hf⟩ := h0
    obtain ⟨fuel1, hf1⟩ := h1
    obtain ⟨a, A, n, c, hv, hl, hc1, hc2, hL, hu⟩ := open_nums Try.underlying22 Try.underlying23 (by kernel_rfl) (by simpa [Value.cells] using hf)
    obtain ⟨b, A2, m, c2, hv2, hl2, hc3, hc4, hL2, hu2⟩ := open_nums Try.underlying22 Try.underlying23 (by kernel_rfl) (by simpa [Value.cells] using hf1)
    rw [hv, hv2]
    by_cases hn : n ≤ 100
    · by_cases hm : m ≤ 100
      · exact vecLacks_walk A n c a A2 m c2 b W hn hm hl hc1 hc2 hL hu hl2 hc3 hc4 hL2 hu2
      · exact vecLacks_long2 A n c A2 m c2 W hn (by omega)
    · exact vecLacks_long A n c A2 m c2 W (by omega)
  clear hA0 hval0
  refine hwalk.mono fun e W' ⟨he, bel⟩ => ?_
  subst he
  exact ⟨_, rfl, _, _, _, [], _, [], hW', trodAll_mk1 (shut_bool Try.underlying4 _), (trodAll_cons_mk (Below.trod laidOut (by kernel_rfl) (of_decide_eq_true (by kernel_rfl)) k0 bel lt0) (trodAll_cons_mk (Below.trod laidOut (by kernel_rfl) (of_decide_eq_true (by kernel_rfl)) k1 bel lt1) trodAll_mk0)), rfl, bel.frame _, fun h => by cases h⟩

theorem vecLacks_proved : Rows.VecLacksSaid :=
  OpenClaim.holds_of_wide 8 Try.f8 rfl rfl rfl rfl rfl rfl rfl ⟨rfl, rfl, rfl, rfl, rfl⟩ rfl rfl rfl rfl rfl (by kernel_rfl) Try.func8 (by kernel_rfl)
    (of_decide_eq_true (by kernel_rfl)) (by unfold Func.isWrapper; first | (rw [if_pos (by decide +kernel)]; kernel_rfl) | (rw [if_neg (by decide +kernel)]; exact ⟨rfl, rfl⟩))
    (fun os started H enc _ => vecLacks_lifted os started H enc)

end Go.Proofs.Ytjhdaddemeegmaa
