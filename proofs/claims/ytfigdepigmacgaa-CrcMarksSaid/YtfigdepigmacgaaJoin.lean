/- The walk of the document's own Join: rows, one behind the other. -/
import Derived.Test.YtfigdepigmacgaaOwn
namespace Go.Proofs.Ytfigdepigmacgaa
open Go.RowKit

set_option maxHeartbeats 800000 in
theorem refJoin_any (A2 : Option Addr) (m c2 : Nat) (vs : List Value) (ls : List (List UInt8)) (w : World) (hl2 : vs.length = m) (hm : m ≤ 100) (h2 : Lies w w.heap.size A2 vs) (hr : BytRows w w.heap.size vs ls) (hls : ∀ x ∈ ls, x.length ≤ 1000) :
    Calls Try.prog 11 #[.slice A2 m c2] w (Owned w w.heap.size (bvs ls.flatten)) := by
  obtain ⟨i0, hi, hz0, hz1, hz2⟩ := info_parts Try.info5
  have HL2 := Lib.hid hl2
  have HLS := Lib.hid hls
  have HR := Lib.hid hr
  clear hl2 hls hr
  go_enter Try.func11, Try.ntmps11
  go_wp2
  have hR0 : PutRel w (bvs (ls.take 0).flatten) (.slice (some ⟨w.heap.size, 0, none⟩) 0 0) (w.alloc (.cells #[] 5)) := by
    rw [List.take_zero]
    exact PutRel.of (World.ownsRow_lit w #[] 0 (Nat.le_refl _) (Nat.zero_le _) rfl) ((Below.refl _ _).alloc (Nat.le_refl _) _)
  go_loopw [3, 8] (fun v i wr => ∃ (k : Nat), k ≤ m ∧ i = .int .i64 k ∧ PutRel w (bvs (ls.take k).flatten) v wr) (fun _ i _ => m - (intOf i).toNat)
  case atStart => exact ⟨0, Nat.zero_le _, rfl, hR0⟩
  case round =>
    obtain ⟨k, hk, rfl, hR⟩ := hrel
    by_cases hlt : k < m
    · have hk1 : k < vs.length := by rw [HL2.out]; exact hlt
      have hk2 : k < ls.length := by rw [← HR.out.1]; exact hk1
      have hel := flatten_len (ls.take k) (M := 1000) (fun x hx => HLS.out x (List.mem_of_mem_take hx))
      have hxl : (bvs (ls.take k).flatten).length ≤ 100000 := by
        rw [bvs_length]
        have : (ls.take k).length ≤ 100 := by have := List.length_take_le k ls; omega
        omega
      obtain ⟨Ar, nr, cr, hvr, hlr, _, _, hLr⟩ := (HR.out.2 k hk1 hk2).below hR.below
      obtain ⟨b, off, rfl, hb, hc⟩ := (h2.below hR.below).at_ (List.getElem?_eq_getElem hk1)
      rw [hvr] at hc
      have hx : nr ≤ 1000 := by have := HLS.out ls[k] (List.getElem_mem hk2); omega
      have hsz : w.heap.size ≤ wr.heap.size := hR.below.size
      obtain ⟨L, hoL, hbL, hLL⟩ := id hR
      have hLx : L ≤ 100000 := by omega
      have HLR := Lib.hid hlr
      clear hR hel hxl hLL hvr hlr hR0
      go_wp2_with (at_builtin; refine wpList_append_lst rfl _ _ 28 rfl w.heap.size 5 i0 (.int .u8 0) 1 Try.underlying28 hi hz0 hz1 hz2 rfl _ _ _ rfl hoL _ _ _ _ (bvs ls[k]) rfl ?d0 hLr (bvs_one _) ?d2 ?d3 hsz ?_)
      case d0 => rw [bvs_length]; exact HLR.out
      case d2 => unfold maxLen; omega
      case d3 => omega
      intro v4 w4 hown4 hg4 hb4 _
      go_wp2
      go_roundw
      case rel =>
        refine ⟨k + 1, by omega, by go_num, ?_⟩
        rw [flatten_snoc ls k hk2, bvs_append]
        exact PutRel.of hown4 (hbL.trans hb4)
      case measure => simp [intOf]; omega
    · go_wp2
      go_ret
      have : k = m := by omega
      subst this
      rw [← HL2.out, HR.out.1, List.take_length] at hR
      exact hR.owned

end Go.Proofs.Ytfigdepigmacgaa
