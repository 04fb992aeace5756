/- WireOne: for every list of bytes the call returns true (what is read of bytes is put as these; each frame has one writing), and changes nothing that was there. No conditions. -/
import Derived.Test.YtbfjfidodpgohaaG23
import Derived.ChangeOld

namespace Go.Proofs.Ytbfjfidodpgohaa
open Go.ChangeShapes Go.WideShapes Go.ChangeAt Go.RowKit

set_option maxRecDepth 100000 in
theorem wireOne_long (A : Option Addr) (n c : Nat) (w : World) (hn : 3000 < n) :
    Calls Try.prog 5 #[.slice A n c] w fun e w' => e = .returned (.bool true) ∧ Below w.heap.size w w' := by
  have hd : (3000 : Int) < (n : Int) := by omega
  go_enter Try.func5, Try.ntmps5
  go_wp2_with fail
  refine (awake_any w).mono ?_
  rintro e w1 ⟨rfl, hb⟩
  go_wp2
  go_ret
  exact ⟨rfl, hb⟩

set_option maxRecDepth 100000 in
set_option maxHeartbeats 1600000 in
theorem wireOne_walk (A : Option Addr) (n c : Nat) (l : List UInt8) (w : World) (hl : l.length = n) (hn : n ≤ 3000) (hc : n ≤ c) (hcm : c ≤ maxLen) (hL : Lies w w.heap.size A (bvs l)) :
    Calls Try.prog 5 #[.slice A n c] w fun e w' => e = .returned (.bool true) ∧ Below w.heap.size w w' := by
  have HG := Lib.hid (wireGet_any A n c l w hl (by omega) hc hcm hL)
  have hd : ¬ (3000 : Int) < (n : Int) := by omega
  have HBK := Lib.hid (get_back (l := l))
  have HER := Lib.hid (get_err (l := l))
  have HL := Lib.hid hl
  have HLL := Lib.hid hL
  generalize getOf l = r at HG HBK HER
  obtain ⟨F, er⟩ := r
  dsimp only at HG HBK HER
  clear hl hc hcm hL
  by_cases he : er = 0
  · subst he
    obtain ⟨hmay, hput⟩ := HBK.out rfl
    have HM := Lib.hid hmay
    have HP := Lib.hid hput
    clear hmay hput HBK HER
    go_enter Try.func5, Try.ntmps5
    go_wp2_with fail
    refine HG.out.mono ?_
    rintro e w1 ⟨cs, rfl, hfv, hok, hb1⟩
    have HS := Lib.hid hfv.size
    have H1 := Lib.hid hfv.one
    have hB : Below w1.heap.size w1 (w1.alloc (.cells cs 33)) := (Below.refl _ _).alloc (Nat.le_refl _) _
    have HPut := Lib.hid (wirePut_yes F cs (w1.alloc (.cells cs 33)) hok (hfv.on hB) HM.out)
    have HB1 : Hid (Below w.heap.size w (w1.alloc (.cells cs 33))) := hb1.trans (hB.mono hb1.size)
    have HMay : Hid (∀ W, Below (w1.alloc (.cells cs 33)).heap.size (w1.alloc (.cells cs 33)) W → Calls Try.prog 14 #[.agg cs] W fun e w' => e = .returned (.bool true) ∧ Below W.heap.size W w') := fun W hW => by
      have := wireMay_any F cs W hok ((hfv.on hB).on hW)
      rw [HM.out] at this
      exact this
    clear hfv hok hb1 hB HG
    go_wp2_with (first | (refine store_frame_new (.tmp 3) (.tmp 14) rfl rfl rfl rfl HS.out H1.out ?_) | (refine load_frame (.tmp 3) rfl (heap_alloc_new _ _) HS.out ?_) | fail)
    refine HPut.out.mono ?_
    rintro e w2 ⟨A2, n2, c2, rfl, hn2, hc2, hcm2, ho2, hb2⟩
    have HR2 : Hid (w2.heap[w1.heap.size]? = some (.cells cs 33 (0, 0))) := (hb2.block _ (by simp)).trans (heap_alloc_new _ _)
    have HB2 : Hid (Below w.heap.size w w2) := HB1.out.trans (hb2.mono HB1.out.size)
    have HM2 := Lib.hid (HMay.out w2 hb2)
    have HL2 : Hid (Lies w2 w2.heap.size A2 (bvs l)) := by
      have := Lies.of_own ho2
      rw [HP.out] at this
      exact this
    have HN2 : Hid (l.length = n2) := by have := hn2.out; rw [HP.out] at this; exact this
    clear ho2 hb2 hn2 HPut HMay
    go_wp2_with (first | (refine load_frame (.tmp 3) rfl HR2.out HS.out ?_) | fail)
    refine HM2.out.mono ?_
    rintro e w3 ⟨rfl, hb3⟩
    have HB3 : Hid (Below w.heap.size w w3) := HB2.out.trans (hb3.mono HB2.out.size)
    have s2 := strs_of (n := n2) HN2.out (HL2.out.later hb3)
    have s0 := strs_of (n := n) HL.out (HLL.out.below HB3.out)
    unfold Strs at s2 s0
    generalize str l = sl at s2 s0
    clear hb3 HM2
    go_wp2_with fail
    refine (awake_any w3).mono ?_
    rintro e w4 ⟨rfl, hb4⟩
    go_wp2
    go_ret
    exact ⟨rfl, HB3.out.trans (hb4.mono HB3.out.size)⟩
  · have hz := HER.out he
    subst hz
    have q0 : ((er : Int) != 0) = true := by simp; omega
    clear HBK HER
    go_enter Try.func5, Try.ntmps5
    go_wp2_with fail
    refine HG.out.mono ?_
    rintro e w1 ⟨cs, rfl, hfv, hok, hb1⟩
    have HS := Lib.hid hfv.size
    have H1 := Lib.hid hfv.one
    have hB : Below w1.heap.size w1 (w1.alloc (.cells cs 33)) := (Below.refl _ _).alloc (Nat.le_refl _) _
    have HSame := Lib.hid (refSame_any Fr.zero cs zeroCells (w1.alloc (.cells cs 33)) hok (hfv.on hB) (zero_frv _ _))
    have HB1 : Hid (Below w.heap.size w (w1.alloc (.cells cs 33))) := hb1.trans (hB.mono hb1.size)
    clear hfv hok hb1 hB HG
    go_wp2_with (first | (refine store_frame_new (.tmp 3) (.tmp 14) rfl rfl rfl rfl HS.out H1.out ?_) | (refine load_frame (.tmp 3) rfl (heap_alloc_new _ _) HS.out ?_) | fail)
    refine HSame.out.mono ?_
    rintro e w2 ⟨rfl, hb2⟩
    have HB2 : Hid (Below w.heap.size w w2) := HB1.out.trans (hb2.mono HB1.out.size)
    clear hb2 HSame
    go_wp2_with fail
    refine (awake_any w2).mono ?_
    rintro e w4 ⟨rfl, hb4⟩
    go_wp2
    go_ret
    exact ⟨rfl, HB2.out.trans (hb4.mono HB2.out.size)⟩

theorem wireOne_any {v : Value} {l : List UInt8} {w : World} (h : Byt w w.heap.size v l) :
    Calls Try.prog 5 #[v] w fun e w' => e = .returned (.bool true) ∧ Below w.heap.size w w' := by
  obtain ⟨A, n, c, rfl, hl, hc, hcm, hL⟩ := h
  by_cases hn : n ≤ 3000
  · exact wireOne_walk A n c l w hl hn hc hcm hL
  · exact wireOne_long A n c w (by omega)

theorem own : ownKnob Try.prog.godebug = none := by kernel_rfl
theorem laidOut : laidOutB Try.prog = true := by kernel_rfl

set_option maxRecDepth 100000 in
theorem wireOne_lifted (os : Os) (started : os.Started) (H : Type) (enc : TypeId × Value → H) :
    ReturnsInHanded {} Try.checked os 5 .any (Rows.wireOneSpec.pre6 enc Try.prog Try.f5 Rows.wireOneRow.domain false) (Rows.wireOneSpec.post enc Try.prog Try.f5 false true false false) := by
  refine returnsInHanded_of_change (C := Try.checked) own started (by kernel_rfl) Try.func5
    (ChangeSpec.witness6 (enc := enc) (C := Try.checked) false ⟨#[], #[.slice none 0 0], []⟩ 8 (by kernel_rfl) (by kernel_rfl) (by kernel_rfl) (by kernel_rfl)) ?_
  intro W base args ds gs before hval0 hW _ _
  have hval : ∀ (j : Nat) t v, Try.f5.params[j]? = some t → args[j]? = some v → Value.okWide Try.prog W .any base t v := hval0
  have hW' := hW
  obtain ⟨p, q, hA0, hV, rfl, _, _⟩ := hW
  have hA : DataW.TrodAll enc Try.prog W 0 (fun _ => true) true Try.f5.params.toList args.toList ds p := hA0
  rw [Try.params5] at hA hval
  obtain ⟨v0, vs0, d0, ds0, p0, q0, hargs, rfl, rfl, h0, r0⟩ := trodAll_cons hA
  obtain ⟨rfl, rfl, rfl⟩ := trodAll_nil r0
  obtain rfl : args = #[v0] := by cases args; simp_all
  obtain ⟨rfl, rfl⟩ := trodVars_none hV
  have k0 := h0
  have lt0 : ∀ x ∈ p0, x.block < W.heap.size := by obtain ⟨m, hm⟩ := k0; exact DataW.trod_lt m _ _ _ hm
  have hwalk : Calls Try.prog 5 #[v0] W fun e w' => e = .returned (.bool true) ∧ Below W.heap.size W w' := by
    obtain ⟨a0, len0, cap0, rfl⟩ := okWide_slice Try.underlying22 (hval 0 22 v0 rfl rfl)
    obtain ⟨fuel, hf⟩ := h0
    obtain ⟨l, hl⟩ := open_bytes Try.underlying22 Try.underlying5 (by kernel_rfl) (by simpa [Value.cells] using hf)
    exact wireOne_any hl
  clear hA0 hval0
  refine hwalk.mono fun e W' ⟨he, bel⟩ => ?_
  subst he
  exact ⟨_, rfl, _, _, _, [], _, [], hW', trodAll_mk1 (shut_bool Try.underlying4 _), (trodAll_cons_mk (Below.trod laidOut (by kernel_rfl) (of_decide_eq_true (by kernel_rfl)) k0 bel lt0) trodAll_mk0), rfl, bel.frame _, fun h => by cases h⟩

theorem wireOne_proved : Rows.WireOneSaid :=
  OpenClaim.holds_of_wide 5 Try.f5 rfl rfl rfl rfl rfl rfl rfl ⟨rfl, rfl, rfl, rfl, rfl⟩ rfl rfl rfl rfl rfl (by kernel_rfl) Try.func5 (by kernel_rfl)
    (of_decide_eq_true (by kernel_rfl)) (by unfold Func.isWrapper; first | (rw [if_pos (by decide +kernel)]; kernel_rfl) | (rw [if_neg (by decide +kernel)]; exact ⟨rfl, rfl⟩))
    (fun os started H enc _ => wireOne_lifted os started H enc)

end Go.Proofs.Ytbfjfidodpgohaa
