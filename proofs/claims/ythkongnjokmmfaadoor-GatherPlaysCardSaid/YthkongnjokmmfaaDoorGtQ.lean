/- Stage 13: a nil gatherer; all, Used, Count; slices.IndexFunc at parts; find. -/
import Derived.Test.YthkongnjokmmfaaDoorGtP
import Derived.Shelf.Abstract
set_option maxRecDepth 20000
namespace Go.Proofs.YthkongnjokmmfaaDoor
open Go.RowKit Go.Sort

/-! ### A nil gatherer -/
theorem all_nil (w : World) : Calls Tryd.prog 33 #[.pointer none] w fun e w' => e = .returned (.slice none 0 0) ∧ w = w' := by
  go_enter Tryd.func33, Tryd.ntmps33
  go_wp2
  go_ret
  exact ⟨rfl, rfl⟩
theorem used_nil (w : World) : Calls Tryd.prog 14 #[.pointer none] w fun e w' => e = .returned (.int .i64 0) ∧ w = w' := by
  go_enter Tryd.func14, Tryd.ntmps14
  go_wp2_with (go_at_call 33; refine (all_nil _).mono ?_; rintro e w' ⟨rfl, rfl⟩)
  go_loopw [3, 5, 9] (fun s3 _ s9 w1 => s3 = .int .i64 0 ∧ s9 = .int .i64 0 ∧ w1 = w) (fun _ _ _ _ => 0)
  case atStart => exact ⟨rfl, rfl, rfl⟩
  case round =>
    obtain ⟨rfl, rfl, rfl⟩ := hrel
    go_wp2
    go_ret
    exact ⟨rfl, rfl⟩

section
variable {w : World} {base gp : Nat} {T : Value} {L : List Pz} {g : Gm} {D : Nat → Prop}

theorem all_any (h : GtAt w base gp T L g D) : Calls Tryd.prog 33 #[.pointer (some ⟨gp, 0, none⟩)] w fun e w' => e = .returned T ∧ w = w' := by
  have c0 := h.c0
  clear h
  go_enter Tryd.func33, Tryd.ntmps33
  go_wp2
  go_ret
  exact ⟨rfl, rfl⟩

theorem used_take (l : List Pz) (i : Nat) (h : i < l.length) : usedL ((l.take (i + 1)).map Pz.x) = usedL ((l.take i).map Pz.x) + l[i].x.size := by
  rw [List.take_succ_eq_append_getElem h, List.map_append, usedL_append]
  rfl
theorem used_le_all (l : List Pz) (i : Nat) : usedL ((l.take i).map Pz.x) ≤ usedL (l.map Pz.x) := by
  have e : l.map Pz.x = (l.take i).map Pz.x ++ (l.drop i).map Pz.x := by rw [← List.map_append, List.take_append_drop]
  rw [e, usedL_append]
  omega

theorem used_any (h : GtAt w base gp T L g D) : Calls Tryd.prog 14 #[.pointer (some ⟨gp, 0, none⟩)] w fun e w' => e = .returned (.int .i64 (usedL g.l : Int)) ∧ w = w' := by
  obtain ⟨A, c, rfl, hn, hc, -, hL⟩ := h.slice
  have hall := all_any h
  have hu : usedL g.l ≤ 9223372036854775807 := Nat.le_trans h.ok.used h.rm
  have hP := Lib.hid h.parts
  have hcm : L.length ≤ 9223372036854775807 := by unfold maxLen at hc; omega
  have hgl := Lib.hid h.gl
  have hLL := Lib.hid hL
  rw [h.gl] at hu
  have hU := Lib.hid hu
  clear h hL hu hc
  go_enter Tryd.func14, Tryd.ntmps14
  go_wp2_with (go_at_call 33; refine hall.mono ?_; rintro e w' ⟨rfl, rfl⟩)
  clear hall
  go_loopw [3, 5, 9] (fun s3 _ s9 w1 => ∃ k : Nat, k ≤ L.length ∧ s9 = .int .i64 (k : Int) ∧ s3 = .int .i64 (usedL ((L.take k).map Pz.x) : Int) ∧ w1 = w) (fun _ _ s9 _ => L.length - (intOf s9).toNat)
  case atStart => exact ⟨0, Nat.zero_le _, rfl, rfl, rfl⟩
  case round =>
    obtain ⟨k, hk, rfl, rfl, rfl⟩ := hrel
    by_cases hlt : k < L.length
    · obtain ⟨b, off, rfl, hb, ce⟩ := Lies.pz hLL.out hlt
      have hp := hP.out _ (List.getElem_mem hlt)
      have c3 := hp.c3
      unfold Pz.ptr at ce
      have e1 := used_take L k hlt
      have e2 := used_le_all L (k + 1)
      have e3 := hU.out
      have hs : L[k].x.size ≤ 9223372036854775807 := by omega
      have hs2 : usedL ((L.take k).map Pz.x) + L[k].x.size ≤ 9223372036854775807 := by omega
      have HE := Lib.hid e1
      clear hp e1 e2 e3
      generalize usedL ((L.take k).map Pz.x) = u at hs2 HE
      generalize L[k].x.size = sz at c3 hs hs2 HE
      generalize L[k].p = pp at ce c3
      generalize L[k].b = bb at c3
      go_wp2
      go_roundw
      case rel => exact ⟨k + 1, by omega, by go_num, by rw [HE.out]; go_num, trivial⟩
      case measure => simp [intOf]; omega
    · have hkk : k = L.length := by omega
      go_wp2
      go_ret
      refine ⟨?_, rfl⟩
      rw [hgl.out, hkk, List.take_length]
      rfl

end

end Go.Proofs.YthkongnjokmmfaaDoor
