/- The walks of the statements' own example (awake), of great, and of CrcFoot. -/
import Derived.Test.YtfigdepigmacgaaCrcC
import Derived.Lib.SlBytesConst
namespace Go.Proofs.Ytfigdepigmacgaa
open Go.RowKit

theorem sum_example : sumOf [49, 50, 51, 52, 53, 54, 55, 56, 57] = 0xcbf43926#32 := by decide +kernel
theorem sum_none : sumOf [] = 0#32 := by decide +kernel

theorem bytRows_two {w : World} {B : Nat} {v1 v2 : Value} {l1 l2 : List UInt8} (h1 : Byt w B v1 l1) (h2 : Byt w B v2 l2) : BytRows w B [v1, v2] [l1, l2] :=
  ⟨rfl, fun i _ _ => by
    rcases i with _ | _ | i
    · exact h1
    · exact h2
    · rename_i h _; simp at h; omega⟩

/-- The same where the block bears the mark of a constant's bytes. -/
theorem lies_marked (w : World) (cs : Array Value) (t : TypeId) (fr : Nat × Nat) : Lies (w.alloc (.cells cs t fr)) (w.heap.size + 1) (some ⟨w.heap.size, 0, none⟩) cs.toList := fun _ =>
  ⟨w.heap.size, 0, rfl, by omega, fun i u hu => by
    have h : (w.alloc (.cells cs t fr)).heap[w.heap.size]? = some (.cells cs t fr) := heap_alloc_new w _
    have := World.news_of_block (w := w.alloc (.cells cs t fr)) (B := w.heap.size) h i u hu
    rwa [add_plain] at this⟩

theorem byt_marked (w : World) (t : TypeId) (fr : Nat × Nat) (cs : Array Value) (l : List UInt8) (n : Nat) (he : cs.toList = bvs l) (hn : l.length = n) (hm : n ≤ 1000) :
    Byt (w.alloc (.cells cs t fr)) (w.alloc (.cells cs t fr)).heap.size (.slice (some ⟨w.heap.size, 0, none⟩) n n) l :=
  ⟨_, _, _, rfl, hn, Nat.le_refl _, by unfold maxLen; omega, by rw [← he]; exact (lies_marked w cs t fr).more (by simp)⟩

theorem conv_const (W : World) (C : Array Value) (n c b : Nat) (hb : b = W.heap.size) : (convert 28 28 (.slice (some ⟨b, 0, none⟩) n c)).run Try.prog (W.alloc (.cells C 5)) = .ok (.slice (some ⟨b, 0, none⟩) n c) (W.alloc (.cells C 5 (C.size, C.size + 1))) := by
  subst hb
  exact Lib.run_convert_bytes_const (P := Try.prog) W 28 5 C n c Try.underlying28 Try.underlying5

abbrev exA : Array Value := #[Value.int IntKind.u8 49, Value.int IntKind.u8 50, Value.int IntKind.u8 51, Value.int IntKind.u8 52, Value.int IntKind.u8 53]
abbrev exB : Array Value := #[Value.int IntKind.u8 54, Value.int IntKind.u8 55, Value.int IntKind.u8 56, Value.int IntKind.u8 57]

theorem awake_rows (w : World) {W : World} (hW : ((w.alloc (.cells exA 5 (5, 6))).alloc (.cells exB 5 (4, 5))).alloc (.cells #[Value.slice (some ⟨w.heap.size, 0, none⟩) 5 5, Value.slice (some ⟨w.heap.size + 1, 0, none⟩) 4 4] 28) = W) :
    Lies W W.heap.size (some ⟨w.heap.size + 1 + 1, 0, none⟩) [Value.slice (some ⟨w.heap.size, 0, none⟩) 5 5, Value.slice (some ⟨w.heap.size + 1, 0, none⟩) 4 4] ∧
    BytRows W W.heap.size [Value.slice (some ⟨w.heap.size, 0, none⟩) 5 5, Value.slice (some ⟨w.heap.size + 1, 0, none⟩) 4 4] [[49, 50, 51, 52, 53], [54, 55, 56, 57]] ∧ Below w.heap.size w W := by
  generalize h1 : w.alloc (.cells exA 5 (5, 6)) = w1 at hW
  have b1 := byt_marked w 5 (5, 6) exA [49, 50, 51, 52, 53] 5 rfl rfl (by decide)
  have s1 : w1.heap.size = w.heap.size + 1 := by rw [← h1]; simp
  have l1 : Below w.heap.size w w1 := by rw [← h1]; exact (Below.refl _ _).alloc (Nat.le_refl _) _
  rw [h1] at b1
  generalize h2 : w1.alloc (.cells exB 5 (4, 5)) = w2 at hW
  have b2 := byt_marked w1 5 (4, 5) exB [54, 55, 56, 57] 4 rfl rfl (by decide)
  have s2 : w2.heap.size = w.heap.size + 1 + 1 := by rw [← h2]; simp [s1]
  have l2 : Below w1.heap.size w1 w2 := by rw [← h2]; exact (Below.refl _ _).alloc (Nat.le_refl _) _
  rw [h2, s1] at b2
  have l3 : Below w2.heap.size w2 W := by rw [← hW]; exact (Below.refl _ _).alloc (Nat.le_refl _) _
  refine ⟨?_, bytRows_two ((b1.later l2).later l3) (b2.later l3), (l1.trans (l2.mono l1.size)).trans (l3.mono (by omega))⟩
  rw [← s2, ← hW]
  exact (lies_new w2 _ _).more (by simp)

set_option maxHeartbeats 800000 in
theorem awake_any (w : World) : Calls Try.prog 8 #[] w fun e w' => e = .returned (.bool true) ∧ Below w.heap.size w w' := by
  have kc := conv_const
  go_enter Try.func8, Try.ntmps8
  go_wp2_with fail
  clear kc
  generalize hW : World.alloc _ (.cells #[Value.slice _ _ _, Value.slice _ _ _] 28) = W
  obtain ⟨hl, hr, hb⟩ := awake_rows w hW
  have HR := Lib.hid hr
  clear hr hW
  refine (sum_any _ 2 2 _ _ _ rfl (by decide) hl HR.out (by simp)).mono ?_
  rw [show [[49, 50, 51, 52, 53], [54, 55, 56, 57]].flatten = [49, 50, 51, 52, 53, 54, 55, 56, (57 : UInt8)] from rfl]
  unfold Summed rv
  rw [sum_example]
  rintro e w1 ⟨rfl, hb1⟩
  have hb' : Below w.heap.size w w1 := hb.trans (hb1.mono hb.size)
  clear HR hb1 hb hl
  go_wp2_with fail
  refine (sum_any none 0 0 [] [] _ rfl (by decide) Lies.nil ⟨rfl, by simp⟩ (by simp)).mono ?_
  rw [show ([] : List (List UInt8)).flatten = [] from rfl]
  unfold Summed rv
  rw [sum_none]
  rintro e w2 ⟨rfl, hb2⟩
  go_wp2
  go_ret
  exact ⟨rfl, hb'.trans (hb2.mono hb'.size)⟩

theorem great_many (A : Option Addr) (n c : Nat) (w : World) (hn : 30 < n) :
    Calls Try.prog 7 #[.slice A n c] w fun e w' => e = .returned (.bool true) ∧ w = w' := by
  go_enter Try.func7, Try.ntmps7
  go_wp2
  go_ret
  exact ⟨rfl, rfl⟩

set_option maxHeartbeats 400000 in
theorem great_few (A : Option Addr) (n c : Nat) (vs : List Value) (ls : List (List UInt8)) (w : World) (hn : n ≤ 30) (hl : vs.length = n) (h : Lies w w.heap.size A vs) (hr : BytRows w w.heap.size vs ls) :
    Calls Try.prog 7 #[.slice A n c] w fun e w' => e = .returned (.bool (ls.any fun x => decide (300 < x.length))) ∧ w = w' := by
  have HL := Lib.hid hl
  have HR := Lib.hid hr
  clear hl hr
  have hd : decide (30 < (n : Int)) = false := by simp; omega
  go_enter Try.func7, Try.ntmps7
  go_wp2
  go_loop [3] (fun i => ∃ k : Nat, k ≤ n ∧ i = .int .i64 k ∧ Hid (∀ x ∈ ls.take k, x.length ≤ 300)) (fun i => n - (intOf i).toNat)
  case atStart => exact ⟨0, Nat.zero_le _, rfl, by show ∀ x ∈ ls.take 0, _; simp⟩
  case round =>
    obtain ⟨k, hk, rfl, hK⟩ := hrel
    by_cases hlt : k < n
    · have hk1 : k < vs.length := by rw [HL.out]; exact hlt
      have hk2 : k < ls.length := by rw [← HR.out.1]; exact hk1
      obtain ⟨Ar, nr, cr, hvr, hlr, _, _, hLr⟩ := HR.out.2 k hk1 hk2
      obtain ⟨b, off, rfl, hb, hc⟩ := h.at_ (List.getElem?_eq_getElem hk1)
      rw [hvr] at hc
      have HLR := Lib.hid hlr
      clear hvr hlr
      by_cases hx : 300 < nr
      · have HA : Hid ((ls.any fun x => decide (300 < x.length)) = true) := by
          show (ls.any fun x => decide (300 < x.length)) = true
          rw [List.any_eq_true]
          exact ⟨ls[k], List.getElem_mem hk2, by have := HLR.out; simp; omega⟩
        go_wp2
        go_ret
        exact ⟨by rw [HA.out]; rfl, rfl⟩
      · have HK : Hid (∀ x ∈ ls.take (k + 1), x.length ≤ 300) := by
          show ∀ x ∈ ls.take (k + 1), x.length ≤ 300
          intro x hx'
          rw [List.take_succ_eq_append_getElem hk2, List.mem_append] at hx'
          rcases hx' with h1 | h1
          · exact hK.out x h1
          · simp at h1; subst h1; have := HLR.out; omega
        go_wp2
        go_round
        case rel => exact ⟨k + 1, by omega, by go_num, HK⟩
        case measure => simp [intOf]; omega
    · have HA : Hid ((ls.any fun x => decide (300 < x.length)) = false) := by
        show (ls.any fun x => decide (300 < x.length)) = false
        rw [List.any_eq_false]
        intro x hx
        have h1 := hK.out x (by rw [List.take_of_length_le (by rw [← HR.out.1, HL.out]; omega)]; exact hx)
        simp; omega
      go_wp2
      go_ret
      exact ⟨by rw [HA.out]; rfl, rfl⟩

set_option maxHeartbeats 800000 in
theorem crcFoot_walk (A : Option Addr) (n c : Nat) (l : List UInt8) (w : World) (hl : l.length = n) (hn : n ≤ 1000) (hc : n ≤ c) (hcm : c ≤ maxLen) (h : Lies w w.heap.size A (bvs l)) :
    Calls Try.prog 6 #[.slice A n c] w fun e w' => e = .returned (.bool true) ∧ Below w.heap.size w w' := by
  have hd : decide (1000 < (n : Int)) = false := by simp; omega
  obtain ⟨hl1, hr1⟩ := rows_lit w 28 hl hc hcm h
  have HR1 := Lib.hid hr1
  have HL := Lib.hid hl
  clear hr1 hl
  go_enter Try.func6, Try.ntmps6
  go_wp2_with fail
  refine (mark_any _ 1 1 [.slice A n c] [l] _ rfl (by decide) hl1 HR1.out (by have := HL.out; simp; omega)).mono ?_
  rw [show [l].flatten = l by simp]
  intro e w1 ho
  obtain ⟨A1, n1, c1, rfl, hn1, hc1, hc2, ho1, hb1⟩ := ho
  rw [bvs_length] at hn1
  obtain ⟨hl2, hr2⟩ := rows_lit w1 28 hn1.out hc1 hc2 (Lies.of_own ho1)
  have HR2 := Lib.hid hr2
  have hb : Below w.heap.size w w1 := ((Below.refl _ _).alloc (Nat.le_refl _) _).trans (hb1.mono (by simp))
  clear hr2 hl1 HR1 ho1
  go_wp2_with fail
  refine (sum_any _ 1 1 [.slice A1 n1 c1] [markOf l] _ rfl (by decide) hl2 HR2.out ?e1).mono ?_
  case e1 =>
    have := HL.out
    intro x hx
    simp at hx
    subst hx
    simp [markOf, four_length]; omega
  rw [show [markOf l].flatten = markOf l by simp]
  unfold Summed rv
  rw [sum_mark]
  rintro e w2 ⟨rfl, hb2⟩
  have hb' : Below w.heap.size w w2 := (hb.alloc hb.size _).trans (hb2.mono (by have := hb.size; simp; omega))
  clear hb1 hb2 hb
  go_wp2_with fail
  refine (awake_any _).mono ?_
  rintro e w3 ⟨rfl, hb3⟩
  go_wp2
  go_ret
  exact ⟨rfl, hb'.trans (hb3.mono hb'.size)⟩

theorem crcFoot_long (A : Option Addr) (n c : Nat) (w : World) (hn : 1000 < n) :
    Calls Try.prog 6 #[.slice A n c] w fun e w' => e = .returned (.bool true) ∧ Below w.heap.size w w' := by
  go_enter Try.func6, Try.ntmps6
  go_wp2_with (go_at_call 8; refine (awake_any _).mono ?_; rintro e w' ⟨rfl, hb⟩)
  go_ret
  exact ⟨rfl, hb⟩

end Go.Proofs.Ytfigdepigmacgaa
