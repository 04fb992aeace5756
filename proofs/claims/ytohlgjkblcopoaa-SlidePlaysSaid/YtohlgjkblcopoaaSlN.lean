/- awake: the document's example. -/
import Derived.Test.YtohlgjkblcopoaaSlNa
namespace Go.Proofs.Ytohlgjkblcopoaa
open Go.RowKit Go.Sort

set_option maxRecDepth 20000 in
set_option maxHeartbeats 1600000 in
theorem awake_any (w : World) : Calls Try.prog 7 #[] w fun e w' => e = .returned (.bool true) ∧ RowKit.Below w.heap.size w w' := by
  have hN := new_any 2 w w.heap.size (Nat.le_refl _) (by decide) (by decide)
  have e2 : widthN 2 = 2 := rfl
  rw [e2] at hN
  clear e2
  go_enter Try.func7, Try.ntmps7
  go_wp2_with fail
  refine hN.mono ?_
  rintro e w1 ⟨rfl, hW, hb1⟩
  have HW := Lib.hid hW
  have HB1 := Lib.hid hb1
  clear hN hW hb1
  go_wp2_with fail
  have hnp : ¬ WD w.heap.size (.slice none 0 0) w1.heap.size := by
    rintro (e | e)
    · have := HW.out.plt; omega
    · simp [Value.ownBlock] at e
  refine (put_any (HW.out.on ((RowKit.Below.refl _ _).alloc (Nat.le_refl _) _)) (some ⟨w1.heap.size, 0, none⟩) 3 3 [atP 7, atP 8, atP 9] rfl (by decide) (by decide) (LiesX.of_new _ _ hnp) (fun x hx => ?_) (fun x hx => ?_) (by decide)).mono ?_
  · simp only [List.mem_cons, List.not_mem_nil, or_false] at hx
    rcases hx with rfl | rfl | rfl <;> exact atP_X _ _ _
  · simp only [List.mem_cons, List.not_mem_nil, or_false] at hx
    rcases hx with rfl | rfl | rfl <;> exact atF_ok (by decide)
  rintro e w3 ⟨rfl, T', l', D', hW3, hl3, ho3, -, -, -⟩
  have hb3 : RowKit.Below w.heap.size w w3 := by
    have hlt := HB1.out.size
    refine RowKit.Below.trans (HB1.out.trans (((RowKit.Below.refl w1.heap.size w1).alloc (Nat.le_refl _) _).mono hlt)) (ho3.below (fun k hk => hk.elim (fun e => by omega) fun e => by simp [Value.ownBlock] at e) (by simp; omega))
  have hl3' : l'.map Pf.F = [seqd (atF 7) 1, seqd (atF 8) 2] := hl3
  have hlen : l'.length = 2 := by have := congrArg List.length hl3'; simpa using this
  have hWt := waiting_all hW3 0 9 (by decide) (by decide)
  have hFs : waitF (l'.map Pf.F) (firstN (0 + ((List.map Pf.F [atP 7, atP 8, atP 9]).take (min (List.map Pf.F [atP 7, atP 8, atP 9]).length (2 - ([] : List Pf).length))).length) l'.length) 0 9 = [seqd (atF 7) 1, seqd (atF 8) 2] := by
    rw [hl3', hlen]
    rfl
  rw [hFs] at hWt
  have HWT : Hid (Calls Try.prog 21 #[.pointer (some ⟨w.heap.size, 0, none⟩), .int .u64 0, .int .i64 9] w3 (Waited w3 [seqd (atF 7) 1, seqd (atF 8) 2])) := hWt
  have HB3 := Lib.hid hb3
  clear hWt hFs hW3 hl3 hl3' hlen ho3 hb3
  go_wp2_with fail
  refine HWT.out.mono ?_
  rintro e w4 ⟨A, n, c, rfl, hn, hO, hb4⟩
  have hn2 : 2 = n := hn.out
  subst hn2
  obtain ⟨g, y1, rfl, hy1, -, -, hg, hr1⟩ := hO.at_ 0 (by decide)
  obtain ⟨g', y2, e, hy2, -, -, -, hr2⟩ := hO.at_ 1 (by decide)
  injection e with e
  injection e with e
  subst e
  have s1 := range_seq hr1
  have a1 := range_at hr1
  have s2 := range_seq hr2
  have a2 := range_at hr2
  rw [hy1] at s1 a1
  rw [hy2] at s2 a2
  have s1' : w4.cell? ⟨g, 5, none⟩ = some (.int .u64 1) := s1
  have a1' : w4.cell? ⟨g, 6, none⟩ = some (.int .u32 7) := a1
  have s2' : w4.cell? ⟨g, 21, none⟩ = some (.int .u64 2) := s2
  have a2' : w4.cell? ⟨g, 22, none⟩ = some (.int .u32 8) := a2
  have HB4 : Hid (RowKit.Below w.heap.size w w4) := HB3.out.trans (hb4.mono HB3.out.size)
  clear s1 a1 s2 a2 hr1 hr2 hy1 hy2 hO hn hb4
  go_wp2
  go_ret
  exact ⟨rfl, HB4.out⟩

end Go.Proofs.Ytohlgjkblcopoaa
