/- Stage 17: awake, the document's example; one that goes, built for the call. -/
import Derived.Test.YtenaoinkjdaoeaaGrD
set_option maxRecDepth 20000
namespace Go.Proofs.Ytenaoinkjdaoeaa
open Go.RowKit Go.Sort

section
variable {w w' W : World} {base g q me : Nat} {l : List Wd}
theorem GrAt.step {B : Nat} (h : GrAt w base g q me l) (ho : OnlyE w w' (fun b => b = q)) (hB : B ≤ q) (hw : B ≤ w.heap.size) : RowKit.Below B w w' := ho.below (fun b hb => by subst hb; exact hB) hw
/-- One is gone: the list of one is built for the call. -/
theorem gone_one (h : GrAt w base g q me l) (P : Int) : Calls Try.prog 11 #[gptr g, .slice (some ⟨w.heap.size, 0, none⟩) 1 1] (w.alloc (.cells #[.int .i64 P] 3)) fun e w' => e = .returned (.int .i64 (goneN l me P : Int)) ∧ GrAt w' base g q me (goneL l me P) ∧ OnlyE w w' (fun b => b = q) := by
  have hb := alloc_below w (.cells #[.int .i64 P] 3)
  refine (gone_any (h.on hb) w.heap.size P (cell_of_row _ _ 0 _ _ _ (heap_alloc_new w _))).mono ?_
  rintro e w' ⟨he, h1, h2⟩
  exact ⟨he, h1, (OnlyE.of_below hb).trans h2⟩
end

set_option maxHeartbeats 800000 in
theorem awake_any (w : World) : Calls Try.prog 7 #[] w fun e w' => e = .returned (.bool true) ∧ RowKit.Below w.heap.size w w' := by
  go_enter Try.func7, Try.ntmps7
  go_wp2_with fail
  refine (new_any 2 1 (by decide) w w.heap.size (Nat.le_refl _)).mono ?_
  rintro e w1 ⟨g, q, rfl, hG1, hg, hq, hb1⟩
  rw [show clampM 2 1 = 1 by decide, show List.replicate (clampN 2) zeroW = [⟨0, false⟩, ⟨0, false⟩] by rw [show clampN 2 = 2 by decide]; rfl] at hG1
  have hT := tell_any hG1 0 3
  rw [show tellB [⟨0, false⟩, ⟨0, false⟩] 0 3 = true by decide, show tellL [⟨0, false⟩, ⟨0, false⟩] 0 3 = [⟨3, false⟩, ⟨0, false⟩] by rfl] at hT
  have HQ := Lib.hid hq
  have HB1 := Lib.hid hb1
  clear hg hq hG1 hb1
  go_wp2_with fail
  refine hT.mono ?_
  rintro e w2 ⟨rfl, hG2, ho2⟩
  have HB2 := Lib.hid (HB1.out.trans (ho2.below (fun b hb => by subst hb; exact HQ.out) HB1.out.size))
  have hT2 := tell_any hG2 1 5
  rw [show tellB [⟨3, false⟩, ⟨0, false⟩] 1 5 = true by decide, show tellL [⟨3, false⟩, ⟨0, false⟩] 1 5 = [⟨3, false⟩, ⟨5, false⟩] by rfl] at hT2
  clear hT hG2 ho2 HB1
  go_wp2_with fail
  refine hT2.mono ?_
  rintro e w3 ⟨rfl, hG3, ho3⟩
  have HB3 := Lib.hid (HB2.out.trans (ho3.below (fun b hb => by subst hb; exact HQ.out) HB2.out.size))
  have hL := limit_any hG3 (by decide)
  rw [show lim [⟨3, false⟩, ⟨5, false⟩] = 3 by decide] at hL
  have H3 := Lib.hid hG3
  clear hT2 hG3 ho3 HB2
  go_wp2_with fail
  refine hL.mono ?_
  rintro e w4 ⟨rfl, hb4⟩
  have HB4 := Lib.hid (HB3.out.trans (hb4.mono HB3.out.size))
  have hG4 := H3.out.on hb4
  have hN := gone_one hG4 0
  rw [show goneN [⟨3, false⟩, ⟨5, false⟩] 1 0 = 1 by decide, show goneL [⟨3, false⟩, ⟨5, false⟩] 1 0 = [⟨3, true⟩, ⟨5, false⟩] by rfl] at hN
  clear hL hb4 hG4 H3 HB3
  go_wp2_with fail
  refine hN.mono ?_
  rintro e w5 ⟨rfl, hG5, ho5⟩
  have HB5 := Lib.hid (HB4.out.trans (ho5.below (fun b hb => by subst hb; exact HQ.out) HB4.out.size))
  have hL := limit_any hG5 (by decide)
  rw [show lim [⟨3, true⟩, ⟨5, false⟩] = 5 by decide] at hL
  clear hN hG5 ho5 HB4
  go_wp2_with fail
  refine hL.mono ?_
  rintro e w6 ⟨rfl, hb6⟩
  have HB6 := Lib.hid (HB5.out.trans (hb6.mono HB5.out.size))
  clear hL hb6 HB5
  go_wp2
  go_ret
  exact ⟨rfl, HB6.out⟩

end Go.Proofs.Ytenaoinkjdaoeaa
