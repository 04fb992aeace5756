/- The walks of the statements' own example (awake) and of great. -/
import Derived.Test.YtjhdaddemeegmaaVcB
import Derived.Test.YtjhdaddemeegmaaVcC
namespace Go.Proofs.Ytjhdaddemeegmaa
open Go.RowKit

theorem min_example : foldV min [[3, 1], [2]] = [2, 0] := by decide +kernel
theorem covers_example : coversB [3, 1] [[2, 0]] = true := by
  rw [coversB_iff]
  intro b hb i
  simp at hb
  subst hb
  rcases i with _ | _ | i
  · decide
  · decide
  · rw [num_out (l := [2, 0]) (by simp)]; omega

theorem awake_rows (w : World) {W : World} (hW : ((w.alloc (.cells #[Value.int .u64 3, Value.int .u64 1] 23)).alloc (.cells #[Value.int .u64 2] 23)).alloc (.cells #[Value.slice (some ⟨w.heap.size, 0, none⟩) 2 2, Value.slice (some ⟨w.heap.size + 1, 0, none⟩) 1 1] 22) = W) :
    Lies W W.heap.size (some ⟨w.heap.size + 1 + 1, 0, none⟩) [Value.slice (some ⟨w.heap.size, 0, none⟩) 2 2, Value.slice (some ⟨w.heap.size + 1, 0, none⟩) 1 1] ∧
    VecRows W W.heap.size [Value.slice (some ⟨w.heap.size, 0, none⟩) 2 2, Value.slice (some ⟨w.heap.size + 1, 0, none⟩) 1 1] [[3, 1], [2]] ∧ Below w.heap.size w W := by
  generalize h1 : w.alloc (.cells #[Value.int .u64 3, Value.int .u64 1] 23) = w1 at hW
  obtain ⟨b1, l1⟩ := vec_lit w 23 #[Value.int .u64 3, Value.int .u64 1] [3, 1] 2 rfl rfl (by decide)
  have s1 : w1.heap.size = w.heap.size + 1 := by rw [← h1]; simp
  rw [h1] at b1 l1
  generalize h2 : w1.alloc (.cells #[Value.int .u64 2] 23) = w2 at hW
  obtain ⟨b2, l2⟩ := vec_lit w1 23 #[Value.int .u64 2] [2] 1 rfl rfl (by decide)
  have s2 : w2.heap.size = w.heap.size + 1 + 1 := by rw [← h2]; simp [s1]
  rw [h2] at b2 l2
  rw [s1] at b2
  obtain ⟨r1, r2, r3⟩ := rows_laid (w := w2) 22 (cs := #[Value.slice (some ⟨w.heap.size, 0, none⟩) 2 2, Value.slice (some ⟨w.heap.size + 1, 0, none⟩) 1 1]) rfl (VecRows.cons (b1.later l2) (VecRows.cons b2 VecRows.nil))
  rw [hW] at r1 r2 r3
  rw [s2] at r1
  exact ⟨r1, r2, (l1.trans (l2.mono l1.size)).trans (r3.mono (by omega))⟩

theorem awake_row2 (w : World) (A : Option Addr) (n c : Nat) (l : List Nat) (hl : l.length = n) (hn : n ≤ c) (hc : c ≤ maxLen) (h : Lies w w.heap.size A (uvs l)) {W : World} (hW : (w.alloc (.cells #[Value.int .u64 3, Value.int .u64 1] 23)).alloc (.cells #[Value.slice A n c] 22) = W) :
    Lies W W.heap.size (some ⟨w.heap.size, 0, none⟩) (uvs [3, 1]) ∧ Lies W W.heap.size (some ⟨w.heap.size + 1, 0, none⟩) [Value.slice A n c] ∧ VecRows W W.heap.size [Value.slice A n c] [l] ∧ Below w.heap.size w W := by
  generalize h1 : w.alloc (.cells #[Value.int .u64 3, Value.int .u64 1] 23) = w1 at hW
  obtain ⟨b1, l1⟩ := vec_lit w 23 #[Value.int .u64 3, Value.int .u64 1] [3, 1] 2 rfl rfl (by decide)
  have s1 : w1.heap.size = w.heap.size + 1 := by rw [← h1]; simp
  rw [h1] at b1 l1
  have hv : Vec w w.heap.size (.slice A n c) l := ⟨A, n, c, rfl, hl, hn, hc, h⟩
  obtain ⟨r1, r2, r3⟩ := rows_laid (w := w1) 22 (cs := #[Value.slice A n c]) rfl (VecRows.cons (hv.later l1) VecRows.nil)
  rw [hW] at r1 r2 r3
  rw [s1] at r1
  obtain ⟨A', n', c', he, _, _, _, hL⟩ := b1
  injection he with he1 _ _
  subst he1
  exact ⟨hL.later r3, r1, r2, l1.trans (r3.mono l1.size)⟩

set_option maxHeartbeats 800000 in
theorem awake_any (w : World) : Calls Try.prog 9 #[] w fun e w' => e = .returned (.bool true) ∧ Below w.heap.size w w' := by
  go_enter Try.func9, Try.ntmps9
  go_wp2_with fail
  generalize hW : World.alloc _ (.cells #[Value.slice _ _ _, Value.slice _ _ _] 22) = W
  obtain ⟨hl, hr, hb⟩ := awake_rows w hW
  have hm := min_any _ 2 2 _ _ W (by decide) (by decide) (by unfold maxLen; decide) (by decide) rfl hl hr
  rw [min_example] at hm
  clear hW hl hr
  refine hm.mono ?_
  rintro e w1 ⟨A1, n1, c1, rfl, hn1, h1, h2, ho, hb1⟩
  obtain rfl : n1 = 2 := hn1.out.symm
  have hL := Lies.of_own ho
  have hb' : Below w.heap.size w w1 := hb.trans (hb1.mono hb.size)
  obtain ⟨b, off, rfl, hbb, hc⟩ := hL (by simp [uvs])
  have d0 : w1.cell? ⟨b, off, none⟩ = some (.int .u64 2) := hc 0 _ rfl
  have d1 : w1.cell? ⟨b, off + 1, none⟩ = some (.int .u64 0) := hc 1 _ rfl
  clear hc hm ho hb hb1
  go_wp2_with fail
  generalize hW2 : World.alloc _ (.cells #[Value.slice _ _ _] 22) = W2
  obtain ⟨r1, r2, r3, r4⟩ := awake_row2 w1 _ 2 c1 [2, 0] rfl h1 h2 hL hW2
  have hcv := covers_any _ 2 2 _ _ _ 1 1 _ _ W2 (by decide) (by decide) (by simp) rfl r1 rfl r2 r3
  rw [covers_example] at hcv
  clear hW2 r1 r2 r3 hL
  refine hcv.mono ?_
  rintro e w3 ⟨rfl, rfl⟩
  go_wp2
  go_ret
  exact ⟨rfl, hb'.trans (r4.mono hb'.size)⟩

theorem great_many (A : Option Addr) (n c : Nat) (w : World) (hn : 30 < n) :
    Calls Try.prog 17 #[.slice A n c] w fun e w' => e = .returned (.bool true) ∧ w = w' := by
  go_enter Try.func17, Try.ntmps17
  go_wp2
  go_ret
  exact ⟨rfl, rfl⟩

set_option maxHeartbeats 400000 in
theorem great_few (A : Option Addr) (n c : Nat) (vs : List Value) (ls : List (List Nat)) (w : World) (hn : n ≤ 30) (hl : vs.length = n) (h : Lies w w.heap.size A vs) (hr : VecRows w w.heap.size vs ls) :
    Calls Try.prog 17 #[.slice A n c] w fun e w' => e = .returned (.bool (ls.any fun x => decide (100 < x.length))) ∧ w = w' := by
  have HL := Lib.hid hl
  have HR := Lib.hid hr
  clear hl hr
  have hd : decide (30 < (n : Int)) = false := by simp; omega
  go_enter Try.func17, Try.ntmps17
  go_wp2
  go_loop [3] (fun i => ∃ k : Nat, k ≤ n ∧ i = .int .i64 k ∧ Hid (∀ x ∈ ls.take k, x.length ≤ 100)) (fun i => n - (intOf i).toNat)
  case atStart => exact ⟨0, Nat.zero_le _, rfl, by show ∀ x ∈ ls.take 0, _; simp⟩
  case round =>
    obtain ⟨k, hk, rfl, hK⟩ := hrel
    by_cases hlt : k < n
    · have hk1 : k < vs.length := by rw [HL.out]; exact hlt
      have hk2 : k < ls.length := by rw [← HR.out.1]; exact hk1
      obtain ⟨Ar, nr, cr, hvr, hlr, _, _, hLr⟩ := HR.out.2 k hk1 hk2
      obtain ⟨b, off, rfl, hb, hc⟩ := h.at_ (List.getElem?_eq_getElem hk1)
      rw [hvr] at hc
      have HLR := Lib.hid hlr
      clear hvr hlr
      by_cases hx : 100 < nr
      · have HA : Hid ((ls.any fun x => decide (100 < x.length)) = true) := by
          show (ls.any fun x => decide (100 < x.length)) = true
          rw [List.any_eq_true]
          exact ⟨ls[k], List.getElem_mem hk2, by have := HLR.out; simp; omega⟩
        go_wp2
        go_ret
        exact ⟨by rw [HA.out]; rfl, rfl⟩
      · have HK : Hid (∀ x ∈ ls.take (k + 1), x.length ≤ 100) := by
          show ∀ x ∈ ls.take (k + 1), x.length ≤ 100
          intro x hx'
          rw [List.take_succ_eq_append_getElem hk2, List.mem_append] at hx'
          rcases hx' with h1 | h1
          · exact hK.out x h1
          · simp at h1; subst h1; have := HLR.out; omega
        go_wp2
        go_round
        case rel => exact ⟨k + 1, by omega, by go_num, HK⟩
        case measure => simp [intOf]; omega
    · have HA : Hid ((ls.any fun x => decide (100 < x.length)) = false) := by
        show (ls.any fun x => decide (100 < x.length)) = false
        rw [List.any_eq_false]
        intro x hx
        have h1 := hK.out x (by rw [List.take_of_length_le (by rw [← HR.out.1, HL.out]; omega)]; exact hx)
        simp; omega
      go_wp2
      go_ret
      exact ⟨by rw [HA.out]; rfl, rfl⟩

end Go.Proofs.Ytjhdaddemeegmaa
