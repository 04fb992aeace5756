/- The document's Whole: bytes with their length ahead, and marked. -/
import Derived.Test.YtbfjfidodpgohaaWgi

namespace Go.Proofs.Ytbfjfidodpgohaa
open Go.RowKit Go.Sort

/-- Bytes with their length ahead, and marked. -/
def wholeOf (l : List UInt8) : List UInt8 := markOf (enc (l.length + 4) ++ l)

/-- Bytes that are answered. -/
def BytGot (w : World) (l : List UInt8) (e : Ending) (w' : World) : Prop :=
  ∃ A n c, e = .returned (.slice A n c) ∧ Hid (l.length = n) ∧ n ≤ c ∧ c ≤ maxLen ∧ Lies w' w'.heap.size A (bvs l) ∧ RowKit.Below w.heap.size w w'

theorem BytGot.of {w w0 w' : World} {l : List UInt8} {e : Ending} (h : Owned w w.heap.size (bvs l) e w') (hb : RowKit.Below w0.heap.size w0 w) : BytGot w0 l e w' := by
  obtain ⟨A, n, c, rfl, hn, h1, h2, ho, hb1⟩ := h
  exact ⟨A, n, c, rfl, by have := hn.out; rw [bvs_length] at this; exact this, h1, h2, Lies.of_own ho, hb.trans (hb1.mono hb.size)⟩

set_option maxRecDepth 100000 in
set_option maxHeartbeats 800000 in
theorem refWhole_any (A : Option Addr) (n c : Nat) (l : List UInt8) (w : World) (hl : l.length = n) (hn : n ≤ 4000) (h : Lies w w.heap.size A (bvs l)) :
    Calls Try.prog 12 #[.slice A n c] w (BytGot w (wholeOf l)) := by
  obtain ⟨i0, hi, hz0, hz1, hz2⟩ := info_parts Try.info5
  have HL := Lib.hid hl
  have hw : wholeOf l = markOf (enc (n + 4) ++ l) := by unfold wholeOf; rw [hl]
  rw [hw]
  have hel := enc_len (n := n + 4) (by omega)
  have HLies := Lib.hid h
  clear hl hw h
  go_enter Try.func12, Try.ntmps12
  go_wp2_with fail
  refine (refNum_any (n + 4) w (by omega)).mono ?_
  rintro e w1 ⟨A1, n1, c1, rfl, hn1, hq1, hq2, ho1, hb1⟩
  have hn1' : n1 ≤ 9 := by have h1 := hn1.out; rw [bvs_length] at h1; omega
  have HN1 : Hid ((enc (n + 4)).length = n1) := by have := hn1.out; rw [bvs_length] at this; exact this
  have HO1 := Lib.hid ho1
  have HB1 := Lib.hid hb1
  clear hn1 ho1 hb1
  go_wp2_with (at_builtin; refine wpList_append_lst rfl (.tmp 7) (.tmp 8) 22 rfl w.heap.size 5 i0 (.int .u8 0) 1 Try.underlying22 hi hz0 hz1 hz2 rfl _ _ _ rfl HO1.out _ _ _ _ (bvs l) rfl ?d0 (HLies.out.later HB1.out) (bvs_one _) ?d2 ?d3 ?d4 ?_)
  case d0 => rw [bvs_length]; exact HL.out
  case d2 => unfold maxLen; omega
  case d3 => omega
  case d4 => exact HB1.out.size
  intro v4 w4 hown4 hg4 hb4 _
  obtain ⟨A4, c4, rfl, hc4, hcm4⟩ := own_slice hown4
  have hL4 : Lies w4 w4.heap.size A4 (bvs (enc (n + 4) ++ l)) := by rw [bvs_append]; exact Lies.of_own hown4
  have HL4 := Lib.hid hL4
  have HB4 : Hid (RowKit.Below w.heap.size w w4) := HB1.out.trans hb4
  have HN4 : Hid ((enc (n + 4) ++ l).length = n1 + n) := by show _ = _; rw [List.length_append, HN1.out, HL.out]
  clear hown4 hg4 hb4 hL4
  go_wp2_with fail
  refine (refMark_any A4 (n1 + n) c4 (enc (n + 4) ++ l) w4 HN4.out (by omega) HL4.out).mono ?_
  rintro e w5 ho5
  have hg := BytGot.of ho5 HB4.out
  obtain ⟨A5, n5, c5, rfl, hr⟩ := hg
  have HR := Lib.hid hr
  clear hr ho5
  go_wp2
  go_ret
  exact ⟨A5, n5, c5, rfl, HR.out⟩

theorem refMark_got (A : Option Addr) (n c : Nat) (l : List UInt8) (w : World) (hl : l.length = n) (hn : n ≤ 100000) (h : Lies w w.heap.size A (bvs l)) :
    Calls Try.prog 11 #[.slice A n c] w (BytGot w (markOf l)) :=
  (refMark_any A n c l w hl hn h).mono fun _ _ ho => BytGot.of ho (RowKit.Below.refl _ _)

end Go.Proofs.Ytbfjfidodpgohaa
