/- AcceptOnce: for every list of numbers the call returns true (numbers are let in from 1 on, each once, whatever comes; told together they are let in as one by one), and changes nothing that was there. No conditions. -/
import Derived.Test.YtpnihkepfcnglaaAcD
import Derived.ChangeOld
namespace Go.Proofs.Ytpnihkepfcnglaa
open Go.ChangeShapes Go.WideShapes Go.ChangeAt Go.RowKit

def G0 : Gt := ⟨0, 0, 0, false⟩

/-- What holds behind so many numbers that came one by one, beside the gate to which all came together. -/
structure OnS (w : World) (p q : Nat) (l : List Nat) (k : Nat) (W : World) : Prop where
  g : GateAt W p (takes G0 (l.take k)).2
  a : GateAt W q (takes G0 l).2
  ne : q ≠ p
  hp : w.heap.size ≤ p
  below : Below w.heap.size w W

theorem OnS.step {w W W' : World} {p q k : Nat} {l : List Nat} (h : OnS w p q l k W) (hk : k < l.length) (hS : StepW W p ((takes G0 (l.take k)).2.step l[k]) W') : OnS w p q l (k + 1) W' :=
  ⟨by rw [takes_next G0 l k hk]; exact hS.1, h.a.kept hS.2 (by show ¬ q = p; exact h.ne), h.ne, h.hp, h.below.trans (hS.below h.hp h.below.size)⟩

set_option maxRecDepth 20000 in
set_option maxHeartbeats 3200000 in
theorem acceptOnce_walk (A : Option Addr) (n c : Nat) (l : List Nat) (w : World) (hl : l.length = n) (hn : n ≤ 200) (hA : Lies w w.heap.size A (uvs l)) (hls : ∀ x ∈ l, x < 18446744073709551616) :
    Calls Try.prog 4 #[.slice A n c] w fun e w' => e = .returned (.bool true) ∧ Below w.heap.size w w' := by
  have hd : decide (200 < (n : Int)) = false := by simp; omega
  have HL := Lib.hid hl
  have HA := Lib.hid hA
  have HLS := Lib.hid hls
  have HSM : Hid (∀ k, k ≤ n → (takes G0 (l.take k)).2.sum = k) := fun k hk => by rw [takes_sum, List.length_take, hl]; show 0 + min k n = k; omega
  clear hl hA hls
  go_enter Try.func4, Try.ntmps4
  go_wp2_with fail
  refine (new_any w).mono ?_
  rintro e w1 ⟨rfl, hG1, hb1⟩
  have HG1 := Lib.hid hG1
  have HB1 := Lib.hid hb1
  clear hG1 hb1
  go_wp2_with fail
  refine (new_any w1).mono ?_
  rintro e w2 ⟨rfl, hG2, hb2⟩
  have hT := take_any hG2 A n c l HL.out (by omega) (LiesX.of_lies ((HA.out.below HB1.out).below (hb2.mono HB1.out.size)) (Nat.le_trans HB1.out.size hb2.size) (fun k hk => by subst hk; exact HB1.out.size)) HLS.out (by show 0 + n ≤ _; omega)
  have hne : w1.heap.size ≠ w.heap.size := by have := HG1.out.lt; omega
  have HS : Hid (∀ W, TakeW w2 w1.heap.size G0 l W → OnS w w.heap.size w1.heap.size l 0 W) := fun W h =>
    ⟨(HG1.out.on hb2).kept h.2 (fun e => hne e.symm), h.1, hne, Nat.le_refl _, (HB1.out.trans (hb2.mono HB1.out.size)).trans (h.2.below (fun k hk => by subst hk; exact HB1.out.size) (Nat.le_trans HB1.out.size hb2.size))⟩
  clear hG2 hb2 HG1 hne HB1
  generalize w1.heap.size = q at hT HS
  go_wp2_with fail
  refine hT.mono ?_
  rintro e w3 ⟨rfl, hT3⟩
  have HO := Lib.hid (HS.out w3 hT3)
  clear hT hT3 HS
  generalize HLA : (takes ⟨0, 0, 0, false⟩ l).1 = lastk
  have HLK := Lib.hid HLA
  clear HLA
  go_wp2_with fail
  go_loopw [6, 7, 8] (fun s6 s7 s8 wr => ∃ k : Nat, k ≤ n ∧ s8 = .int .i64 k ∧ s6 = .int .u64 ((takes G0 (l.take k)).2.u : Int) ∧ s7 = .int .u8 ((takes G0 (l.take k)).1 : Int) ∧ OnS w w.heap.size q l k wr) (fun _ _ s8 _ => n - (intOf s8).toNat)
  case atStart => exact ⟨0, Nat.zero_le _, rfl, rfl, rfl, HO.out⟩
  case round =>
    clear HO
    obtain ⟨k, hk, rfl, rfl, rfl, hS⟩ := hrel
    have hsum := HSM.out k hk
    by_cases hlt : k < n
    · have hkl : k < l.length := by rw [HL.out]; exact hlt
      obtain ⟨b, off, rfl, hb, hc⟩ := (HA.out.below hS.below).at_ (uvs_at hkl)
      have hv := HLS.out l[k] (List.getElem_mem hkl)
      have hT := take_one hS.g l[k] l[k] rfl hv (by omega)
      have hul : (takes G0 (l.take k)).2.u ≤ 1000000 := by unfold Gt.sum at hsum; omega
      have HST : Hid (∀ W', StepW wr w.heap.size ((takes G0 (l.take k)).2.step l[k]) W' → OnS w w.heap.size q l (k + 1) W') := fun W' h => hS.step hkl h
      have HK : Hid (takes G0 (l.take (k + 1)) = (kindN (takes G0 (l.take k)).2.u l[k], (takes G0 (l.take k)).2.step l[k])) := takes_next G0 l k hkl
      have HB := Lib.hid hS.below
      have hbw : b < wr.heap.size := Nat.lt_of_lt_of_le hb hS.below.size
      have HCC : Hid (∀ W', StepW wr w.heap.size ((takes G0 (l.take k)).2.step l[k]) W' → W'.cell? ⟨b, off + k, none⟩ = some (.int .u64 (l[k] : Int))) := fun W' h => ((h.below hS.hp hS.below.size).cell (p := ⟨b, off + k, none⟩) hb).trans hc
      generalize (takes G0 (l.take k)).2 = g at hT hul HST HK HCC hsum
      generalize l[k] = v at hc hv hT HST HK HCC
      clear hS hkl hsum
      rcases kindN_cases g.u v with ⟨e, h⟩ | ⟨e, h⟩ | ⟨e, h⟩
      · have hE : (takes G0 (l.take (k + 1))).1 = 1 ∧ (takes G0 (l.take (k + 1))).2.u = g.u + 1 := by rw [HK.out, e, step_one h]; exact ⟨rfl, rfl⟩
        rw [e] at hT
        have HE := Lib.hid hE
        clear e hE HK
        subst h
        go_wp2_with fail
        refine hT.mono ?_
        rintro e w5 ⟨rfl, hS5⟩
        have hc5 : w5.cell? ⟨b, off + k, none⟩ = some (.int .u64 ((g.u : Int) + 1)) := HCC.out w5 hS5
        have HS5 := Lib.hid (HST.out w5 hS5)
        clear hS5 HST HCC hT hc
        go_wp2
        go_roundw
        case rel => exact ⟨k + 1, by omega, by go_num, by rw [HE.out.2]; go_num, by rw [HE.out.1]; rfl, HS5.out⟩
        case measure => simp [intOf]; omega
      · have hE : (takes G0 (l.take (k + 1))).1 = 2 ∧ (takes G0 (l.take (k + 1))).2.u = g.u := by rw [HK.out, e, step_two h]; exact ⟨rfl, rfl⟩
        rw [e] at hT
        have HE := Lib.hid hE
        clear e hE HK h
        go_wp2_with fail
        refine hT.mono ?_
        rintro e w5 ⟨rfl, hS5⟩
        have HS5 := Lib.hid (HST.out w5 hS5)
        clear hS5 HST HCC hT hc
        go_wp2
        go_roundw
        case rel => exact ⟨k + 1, by omega, by go_num, by rw [HE.out.2], by rw [HE.out.1]; rfl, HS5.out⟩
        case measure => simp [intOf]; omega
      · have hE : (takes G0 (l.take (k + 1))).1 = 3 ∧ (takes G0 (l.take (k + 1))).2.u = g.u := by rw [HK.out, e, step_three h]; exact ⟨rfl, rfl⟩
        rw [e] at hT
        have HE := Lib.hid hE
        clear e hE HK h
        go_wp2_with fail
        refine hT.mono ?_
        rintro e w5 ⟨rfl, hS5⟩
        have HS5 := Lib.hid (HST.out w5 hS5)
        clear hS5 HST HCC hT hc
        go_wp2
        go_roundw
        case rel => exact ⟨k + 1, by omega, by go_num, by rw [HE.out.2], by rw [HE.out.1]; rfl, HS5.out⟩
        case measure => simp [intOf]; omega
    · obtain rfl : k = n := by omega
      have hE : l.take k = l := List.take_of_length_le (by rw [HL.out]; omega)
      have hg := hS.g
      have ha := hS.a
      have HB := Lib.hid hS.below
      clear hS
      rw [hE] at hg hsum ⊢
      have hlk : (takes G0 l).1 = lastk := HLK.out
      rw [hlk]
      have hu1 := upto_any hg
      have hu2 := upto_any ha
      have hc2 := count_any ha 1 (by decide)
      have e1 : (takes G0 l).2.cnt 1 = (takes G0 l).2.u := rfl
      rw [e1] at hc2
      generalize (takes G0 l).2.u = u at hu1 hu2 hc2 ⊢
      clear hE hg ha e1 hsum hlk HLK HSM
      go_wp2_with fail
      refine hu1.mono ?_
      rintro e w5 ⟨rfl, he⟩
      subst he
      go_wp2_with fail
      refine hu2.mono ?_
      rintro e w6 ⟨rfl, he⟩
      subst he
      go_wp2_with fail
      refine hc2.mono ?_
      rintro e w7 ⟨rfl, he⟩
      subst he
      clear hu1 hu2 hc2
      go_wp2_with (go_at_call 6; refine (awake_any _).mono ?_; rintro e w' ⟨rfl, hb⟩)
      go_ret
      exact ⟨rfl, HB.out.trans (hb.mono HB.out.size)⟩

theorem acceptOnce_many (A : Option Addr) (n c : Nat) (w : World) (hn : 200 < n) :
    Calls Try.prog 4 #[.slice A n c] w fun e w' => e = .returned (.bool true) ∧ Below w.heap.size w w' := by
  have hd : decide (200 < (n : Int)) = true := by simp; omega
  go_enter Try.func4, Try.ntmps4
  go_wp2_with (go_at_call 6; refine (awake_any _).mono ?_; rintro e w' ⟨rfl, hb⟩)
  go_ret
  exact ⟨rfl, hb⟩

theorem own : ownKnob Try.prog.godebug = none := by kernel_rfl
theorem laidOut : laidOutB Try.prog = true := by kernel_rfl

set_option maxRecDepth 100000 in
theorem acceptOnce_lifted (os : Os) (started : os.Started) (H : Type) (enc : TypeId × Value → H) :
    ReturnsInHanded {} Try.checked os 4 .any (Rows.acceptOnceSpec.pre6 enc Try.prog Try.f4 Rows.acceptOnceRow.domain false) (Rows.acceptOnceSpec.post enc Try.prog Try.f4 false true false false) := by
  refine returnsInHanded_of_change (C := Try.checked) own started (by kernel_rfl) Try.func4
    (ChangeSpec.witness6 (enc := enc) (C := Try.checked) false ⟨#[], #[.slice none 0 0], []⟩ 8 (by kernel_rfl) (by kernel_rfl) (by kernel_rfl) (by kernel_rfl)) ?_
  intro W base args ds gs before hval0 hW _ _
  have hval : ∀ (j : Nat) t v, Try.f4.params[j]? = some t → args[j]? = some v → Value.okWide Try.prog W .any base t v := hval0
  have hW' := hW
  obtain ⟨p, q, hA0, hV, rfl, _, _⟩ := hW
  have hA : DataW.TrodAll enc Try.prog W 0 (fun _ => true) true Try.f4.params.toList args.toList ds p := hA0
  rw [Try.params4] at hA hval
  obtain ⟨v0, vs0, d0, ds0, p0, q0, hargs, rfl, rfl, h0, r0⟩ := trodAll_cons hA
  obtain ⟨rfl, rfl, rfl⟩ := trodAll_nil r0
  obtain rfl : args = #[v0] := by cases args; simp_all
  obtain ⟨rfl, rfl⟩ := trodVars_none hV
  have k0 := h0
  have lt0 : ∀ x ∈ p0, x.block < W.heap.size := by obtain ⟨m, hm⟩ := k0; exact DataW.trod_lt m _ _ _ hm
  have hwalk : Calls Try.prog 4 #[v0] W fun e w' => e = .returned (.bool true) ∧ Below W.heap.size W w' := by
    obtain ⟨a0, len0, cap0, rfl⟩ := okWide_slice Try.underlying22 (hval 0 22 v0 rfl rfl)
    obtain ⟨fuel0, hf0⟩ := h0
    obtain ⟨l, A, n, c, hv, hl, hc, hcm, hL, hls⟩ := open_nums Try.underlying22 Try.underlying28 (by kernel_rfl) (by simpa [Value.cells] using hf0)
    injection hv with e1 e2 e3
    subst e1 e2 e3
    by_cases hn : 200 < len0
    · exact acceptOnce_many a0 len0 cap0 W hn
    · exact acceptOnce_walk a0 len0 cap0 l W hl (by omega) hL hls
  clear hA0 hval0
  refine hwalk.mono fun e W' ⟨he, bel⟩ => ?_
  subst he
  exact ⟨_, rfl, _, _, _, [], _, [], hW', trodAll_mk1 (shut_bool Try.underlying4 _), (trodAll_cons_mk (Below.trod laidOut (by kernel_rfl) (of_decide_eq_true (by kernel_rfl)) k0 bel lt0) trodAll_mk0), rfl, bel.frame _, fun h => by cases h⟩

theorem acceptOnce_proved : Rows.AcceptOnceSaid :=
  OpenClaim.holds_of_wide 4 Try.f4 rfl rfl rfl rfl rfl rfl rfl ⟨rfl, rfl, rfl, rfl, rfl⟩ rfl rfl rfl rfl rfl (by kernel_rfl) Try.func4 (by kernel_rfl)
    (of_decide_eq_true (by kernel_rfl)) (by unfold Func.isWrapper; first | (rw [if_pos (by decide +kernel)]; kernel_rfl) | (rw [if_neg (by decide +kernel)]; exact ⟨rfl, rfl⟩))
    (fun os started H enc _ => acceptOnce_lifted os started H enc)

end Go.Proofs.Ytpnihkepfcnglaa
