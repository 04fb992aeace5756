/- One number comes; awake: the document's example. -/
import Derived.Test.YtpnihkepfcnglaaAcC
namespace Go.Proofs.Ytpnihkepfcnglaa
open Go.RowKit Go.Sort

/-- What one number leaves. -/
def StepW (w : World) (p : Nat) (g : Gt) (w' : World) : Prop := GateAt w' p g ∧ OnlyE w w' (fun k => k = p)

theorem take_one {w : World} {p : Nat} {g : Gt} (h : GateAt w p g) (v : Nat) (i : Int) (hi : i = (v : Int)) (hv : v < 18446744073709551616) (hlow : g.sum < 1000000) :
    Calls Try.prog 11 #[.pointer (some ⟨p, 0, none⟩), .slice (some ⟨w.heap.size, 0, none⟩) 1 1] (w.alloc (.cells #[.int .u64 i] 28)) fun e w' => e = .returned (.int .u8 (kindN g.u v : Int)) ∧ StepW w p (g.step v) w' := by
  subst hi
  have hb : RowKit.Below w.heap.size w (w.alloc (.cells #[.int .u64 (v : Int)] 28)) := (RowKit.Below.refl _ _).alloc (Nat.le_refl _) _
  have hp := h.lt
  refine (take_any (h.on hb) (some ⟨w.heap.size, 0, none⟩) 1 1 [v] rfl (by decide) (LiesX.of_new (w := w) (D := fun k => k = p) #[.int .u64 (v : Int)] 28 (by show ¬ w.heap.size = p; omega)) (fun x hx => ?_) hlow).mono ?_
  · simp only [List.mem_cons, List.not_mem_nil, or_false] at hx
    subst hx
    exact hv
  · rintro e w' ⟨he, hG, ho⟩
    exact ⟨he, hG, (OnlyE.of_below hb).trans ho⟩

theorem StepW.below {w w' : World} {p B : Nat} {g : Gt} (h : StepW w p g w') (hp : B ≤ p) (hB : B ≤ w.heap.size) : RowKit.Below B w w' := h.2.below (fun k hk => by subst hk; exact hp) hB

set_option maxHeartbeats 1600000 in
theorem awake_any (w : World) : Calls Try.prog 6 #[] w fun e w' => e = .returned (.bool true) ∧ RowKit.Below w.heap.size w w' := by
  go_enter Try.func6, Try.ntmps6
  go_wp2_with fail
  refine (new_any w).mono ?_
  rintro e w1 ⟨rfl, hG1, hb1⟩
  have hT1 := take_one hG1 1 1 rfl (by decide) (by decide)
  have HB1 := Lib.hid hb1
  clear hG1 hb1
  go_wp2_with fail
  refine hT1.mono ?_
  rintro e w2 ⟨rfl, hS2⟩
  have hT2 := take_one hS2.1 3 3 rfl (by decide) (by decide)
  have HB2 := Lib.hid (HB1.out.trans (hS2.below (Nat.le_refl _) HB1.out.size))
  clear hS2 hT1 HB1
  go_wp2_with fail
  refine hT2.mono ?_
  rintro e w3 ⟨rfl, hS3⟩
  have hT3 := take_one hS3.1 2 2 rfl (by decide) (by decide)
  have HB3 := Lib.hid (HB2.out.trans (hS3.below (Nat.le_refl _) HB2.out.size))
  clear hS3 hT2 HB2
  go_wp2_with fail
  refine hT3.mono ?_
  rintro e w4 ⟨rfl, hS4⟩
  have hT4 := take_one hS4.1 2 2 rfl (by decide) (by decide)
  have HB4 := Lib.hid (HB3.out.trans (hS4.below (Nat.le_refl _) HB3.out.size))
  clear hS4 hT3 HB3
  go_wp2_with fail
  refine hT4.mono ?_
  rintro e w5 ⟨rfl, hS5⟩
  have hU := upto_any hS5.1
  have HB5 := Lib.hid (HB4.out.trans (hS5.below (Nat.le_refl _) HB4.out.size))
  clear hS5 hT4 HB4
  go_wp2_with fail
  refine hU.mono ?_
  rintro e w6 ⟨rfl, rfl⟩
  clear hU
  go_wp2
  go_ret
  exact ⟨rfl, HB5.out⟩

end Go.Proofs.Ytpnihkepfcnglaa
