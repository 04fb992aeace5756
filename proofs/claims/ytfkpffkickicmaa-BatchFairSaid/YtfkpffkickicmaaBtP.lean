/- The walks of takeOneEach and Next (batch). -/
import Derived.Test.YtfkpffkickicmaaBtO
namespace Go.Proofs.Ytfkpffkickicmaa
open Go.RowKit Go.Sort

/-- What one pass leaves: how many it took, and the runs behind it. -/
def TookP (base held : List Nat) (s : List Nat × Nat) (A : Option Addr) (m c B0 : Nat) (w : World) (e : Ending) (w' : World) : Prop :=
  e = .returned (.int .i64 ((s.2 - (passN base held s m).2 : Nat) : Int)) ∧ w'.ownsRow B0 43 3 (.slice A m c) m (flat encRn (rowOf base (passN base held s m).1)) ∧ RowKit.Below B0 w w'

/-- A state on the way. -/
def OnWay (base held : List Nat) (s0 : List Nat × Nat) (A : Option Addr) (m c B0 : Nat) (w : World) (i tk : Nat) (wr : World) : Prop :=
  tk = s0.2 - (passN base held s0 i).2 ∧ wr.ownsRow B0 43 3 (.slice A m c) m (flat encRn (rowOf base (passN base held s0 i).1)) ∧ RowKit.Below B0 w wr

set_option maxHeartbeats 3200000 in
theorem take_any (g : Nat) (lb : Array Value) (eg : ∀ args w, (callFunc g args).run Try.prog w = .ok (.enter g args) w) (base held : List Nat) (s0 : List Nat × Nat) (A : Option Addr) (m c B0 : Nat) (w : World) (hm : m ≤ 64) (hlen : s0.1.length = m) (hbu : ∀ x ∈ base, x < 18446744073709551616)
    (hsm : Small s0 4096) (hown : w.ownsRow B0 43 3 (.slice A m c) m (flat encRn (rowOf base s0.1))) (hB : B0 ≤ w.heap.size)
    (hp : ∀ (W : World) (x : Rn), RowKit.Below B0 w W → Calls Try.prog g (#[valRn x] ++ lb) W fun e w' => e = .returned (.bool (heldOne held (longerR x))) ∧ RowKit.Below W.heap.size W w') :
    Calls Try.prog 39 #[.slice A m c, .int .i64 (s0.2 : Int), .func (.func g) #[] lb] w (TookP base held s0 A m c B0 w) := by
  have hl4 : s0.2 ≤ 4096 := by have := hsm 0; omega
  have HP := Lib.hid hp
  have HSM : Hid (∀ i, Small (passN base held s0 i) 4096) := fun i => pass_small hsm i
  have HLE : Hid (∀ i, (passN base held s0 i).2 ≤ s0.2) := fun i => pass_le base held s0 i
  have HLN : Hid (∀ i, (passN base held s0 i).1.length = m) := fun i => by rw [pass_length]; exact hlen
  have HBU : Hid (∀ i, num base i < 18446744073709551616) := fun i => num_lt hbu i
  have H0 : Hid (OnWay base held s0 A m c B0 w 0 0 w) := ⟨by show 0 = s0.2 - s0.2; omega, hown, RowKit.Below.refl _ _⟩
  have HE : Hid (∀ tk wr, OnWay base held s0 A m c B0 w m tk wr → TookP base held s0 A m c B0 w (.returned (.int .i64 (tk : Int))) wr) := fun tk wr h => ⟨by rw [h.1], h.2.1, h.2.2⟩
  have HN : Hid (∀ i, passN base held s0 (i + 1) = stepN base held i (passN base held s0 i)) := fun i => rfl
  generalize hleft : s0.2 = left at hl4 HLE
  have HLF := Lib.hid hleft
  clear hp hsm hown hlen hbu hleft
  go_enter Try.func39, Try.ntmps39
  go_wp2
  go_loopw [7, 8, 9, 12] (fun s7 _ _ s12 wr => ∃ (i tk : Nat), i ≤ m ∧ tk ≤ left ∧ s12 = .int .i64 i ∧ s7 = .int .i64 tk ∧ OnWay base held s0 A m c B0 w i tk wr) (fun _ _ _ s12 _ => m - (intOf s12).toNat)
  case atStart => exact ⟨0, 0, Nat.zero_le _, Nat.zero_le _, rfl, rfl, H0.out⟩
  case round =>
    clear H0
    obtain ⟨i, tk, hi, htl, rfl, rfl, htk, hown, hb⟩ := hrel
    by_cases hlt : i < m
    · have hsm := HSM.out i
      have hle := HLE.out i
      have hln := HLN.out i
      have hnx := HN.out i
      have hbu := HBU.out i
      rw [HLF.out] at htk
      have HOW : Hid (∀ tk' wr', tk' = left - (stepN base held i (passN base held s0 i)).2 → wr'.ownsRow B0 43 3 (.slice A m c) m (flat encRn (rowOf base (stepN base held i (passN base held s0 i)).1)) → RowKit.Below B0 w wr' → OnWay base held s0 A m c B0 w (i + 1) tk' wr') := fun tk' wr' h1 h2 h3 => ⟨by rw [HLF.out, hnx]; exact h1, by rw [hnx]; exact h2, h3⟩
      generalize passN base held s0 i = s at htk hown hsm hle hln HOW
      obtain ⟨cs, lf⟩ := s
      dsimp only at htk hown hle hln
      have hic : i < cs.length := by rw [hln]; exact hlt
      have hirow : i < (rowOf base cs).length := by rw [rowOf_length]; exact hic
      have hcs : num cs i ≤ 4096 := by have := hsm i; dsimp only at this; omega
      have hmore := held_more (held := held) (by omega : i < 64) hbu hcs
      have hset := rowOf_set (base := base) hic hcs
      have hrow := rowOf_at hic hirow
      obtain ⟨gg, cap, hv, hbg, hgl⟩ := hown.form (by omega)
      obtain ⟨rfl, rfl⟩ : A = some ⟨gg, 0, none⟩ ∧ c = cap := by injection hv with e1 _ e3; exact ⟨e1, e3⟩
      have c0 : wr.cell? ⟨gg, i * 3, none⟩ = some (.int .u8 ((rowOf base cs)[i].f : Int)) := by rw [hown.cellAt _ (by omega)]; exact rns_at0 _ i hirow
      have c1 : wr.cell? ⟨gg, i * 3 + 1, none⟩ = some (.int .u64 ((rowOf base cs)[i].a : Int)) := by rw [hown.cellAt _ (by omega)]; exact rns_at1 _ i hirow
      have c2 : wr.cell? ⟨gg, i * 3 + 2, none⟩ = some (.int .u64 ((rowOf base cs)[i].c : Int)) := by rw [hown.cellAt _ (by omega)]; exact rns_at2 _ i hirow
      rw [hrow] at c0 c1 c2
      have hstep1 : 0 < lf → moreB base held i (num cs i) = true → stepN base held i (cs, lf) = (cs.set i (num cs i + 1), lf - 1) := fun h1 h2 => step_yes h1 h2
      have hstep2 : ¬ (0 < lf ∧ moreB base held i (num cs i) = true) → stepN base held i (cs, lf) = (cs, lf) := fun h1 => step_no h1
      have hcall := fun W hW => HP.out W (runAt base cs i) hW
      rw [hmore] at hcall
      have hlg := fun W' => longer_lit (runAt base cs i) W'
      generalize longerR (runAt base cs i) = y at hset hlg
      generalize runAt base cs i = x at c0 c1 c2 hcall hlg
      generalize moreB base held i (num cs i) = mb at hcall hstep1 hstep2
      unfold valRn at hcall
      have HSET := Lib.hid hset
      have HS1 := Lib.hid hstep1
      have HS2 := Lib.hid hstep2
      have HCL := Lib.hid hcall
      have HLG := Lib.hid hlg
      have HOWN := Lib.hid hown
      have HTK := Lib.hid htk
      have HRW := Lib.hid hirow
      clear hv hrow hmore hset hstep1 hstep2 hcall hlg hown htk hnx hsm hln hbu hirow
      by_cases hlf : 0 < lf
      · have htlt : tk < left := by have := HTK.out; omega
        go_wp2_with fail
        generalize hw0 : World.alloc wr _ = w0
        obtain ⟨hs0, hG, hcc⟩ := box1 wr w0 _ _ hw0
        have hb0 : RowKit.Below B0 w w0 := hb.trans (hG.below.mono (Nat.le_trans hB hb.size))
        refine (HCL.out w0 hb0).mono ?_
        rintro e w2 ⟨rfl, hb2⟩
        have hbw : RowKit.Below wr.heap.size wr w2 := hG.below.trans (hb2.mono hG.size)
        have hO2 := own_below HOWN.out hbw
        have hb2' : RowKit.Below B0 w w2 := hb.trans (hbw.mono (Nat.le_trans hB hb.size))
        have b0 : w2.cell? ⟨wr.heap.size, 0, none⟩ = some (.int .u8 (x.f : Int)) := (hb2.cell (p := ⟨wr.heap.size, 0, none⟩) (by show wr.heap.size < w0.heap.size; omega)).trans (hcc 0 _ rfl)
        have b1 : w2.cell? ⟨wr.heap.size, 1, none⟩ = some (.int .u64 (x.a : Int)) := (hb2.cell (p := ⟨wr.heap.size, 1, none⟩) (by show wr.heap.size < w0.heap.size; omega)).trans (hcc 1 _ rfl)
        have b2 : w2.cell? ⟨wr.heap.size, 2, none⟩ = some (.int .u64 (x.c : Int)) := (hb2.cell (p := ⟨wr.heap.size, 2, none⟩) (by show wr.heap.size < w0.heap.size; omega)).trans (hcc 2 _ rfl)
        have hgl2 : gg < w2.heap.size := Nat.lt_of_lt_of_le hgl hbw.size
        clear hw0 hG hcc hs0 hb2 hb0 HOWN HCL hbw
        cases mb with
        | false =>
          have H2 := Lib.hid hO2
          have hst := HS2.out (by simp)
          have HM : Hid (OnWay base held s0 (some ⟨gg, 0, none⟩) m c B0 w (i + 1) tk w2) := HOW.out tk w2 (by rw [hst]; exact HTK.out) (by rw [hst]; exact hO2) hb2'
          clear hO2 hst
          go_wp2
          go_roundw
          case rel => exact ⟨i + 1, tk, by omega, htl, by go_num, rfl, HM.out⟩
          case measure => simp [intOf]; omega
        | true =>
          have hst := HS1.out hlf rfl
          go_wp2_with fail
          refine (HLG.out w2).mono ?_
          rintro e w3 ⟨rfl, hg3⟩
          have hO3 := own_below hO2 hg3.below
          have hb3 : RowKit.Below B0 w w3 := hb2'.trans (hg3.below.mono (Nat.le_trans hB hb2'.size))
          have hid := HRW.out
          have o0 : w3.cell? ⟨gg, i * 3, none⟩ = some (.int .u8 ((rowOf base cs)[i].f : Int)) := by rw [hO3.cellAt _ (by omega)]; exact rns_at0 _ i hid
          have o1 : w3.cell? ⟨gg, i * 3 + 1, none⟩ = some (.int .u64 ((rowOf base cs)[i].a : Int)) := by rw [hO3.cellAt _ (by omega)]; exact rns_at1 _ i hid
          have o2 : w3.cell? ⟨gg, i * 3 + 2, none⟩ = some (.int .u64 ((rowOf base cs)[i].c : Int)) := by rw [hO3.cellAt _ (by omega)]; exact rns_at2 _ i hid
          have f0 := hO3.frozenAt (i * 3)
          have f1 := hO3.frozenAt (i * 3 + 1)
          have f2 := hO3.frozenAt (i * 3 + 2)
          have s2 := (((hO3.stored (i * 3) (.int .u8 (y.f : Int))).1.stored (i * 3 + 1) (.int .u64 (y.a : Int))).1.stored (i * 3 + 2) (.int .u64 (y.c : Int))).1
          rw [rns_set _ i y hid, HSET.out] at s2
          have hb4 := ((hb3.setCell (p := ⟨gg, i * 3, none⟩) hbg (.int .u8 (y.f : Int))).setCell (p := ⟨gg, i * 3 + 1, none⟩) hbg (.int .u64 (y.a : Int))).setCell (p := ⟨gg, i * 3 + 2, none⟩) hbg (.int .u64 (y.c : Int))
          have HM := Lib.hid (HOW.out (tk + 1) _ (by rw [hst]; have := HTK.out; dsimp only; omega) (by rw [hst]; exact s2) hb4)
          generalize ((rowOf base cs)[i].f : Int) = of at o0
          generalize ((rowOf base cs)[i].a : Int) = oa at o1
          generalize ((rowOf base cs)[i].c : Int) = oc at o2
          clear hO2 hO3 s2 hb4 hst hg3 b0 b1 b2 hid
          go_wp2
          go_roundw
          case rel => exact ⟨i + 1, tk + 1, by omega, by omega, by go_num, by go_num, HM.out⟩
          case measure => simp [intOf]; omega
      · have htlt : ¬ tk < left := by have := HTK.out; omega
        have hst := HS2.out (fun h => hlf h.1)
        have hbA : RowKit.Below wr.heap.size wr (wr.alloc (.cells #[.int .u8 (x.f : Int), .int .u64 (x.a : Int), .int .u64 (x.c : Int)] 43)) := (RowKit.Below.refl _ _).alloc (Nat.le_refl _) _
        have HM := Lib.hid (HOW.out tk _ (by rw [hst]; exact HTK.out) (by rw [hst]; exact own_below HOWN.out hbA) (hb.trans (hbA.mono (Nat.le_trans hB hb.size))))
        clear hst hbA
        go_wp2
        go_roundw
        case rel => exact ⟨i + 1, tk, by omega, htl, by go_num, rfl, HM.out⟩
        case measure => simp [intOf]; omega
    · have him : i = m := by omega
      subst him
      have HM := Lib.hid (HE.out tk wr ⟨htk, hown, hb⟩)
      clear htk hown
      go_wp2
      go_ret
      exact HM.out

end Go.Proofs.Ytfkpffkickicmaa
