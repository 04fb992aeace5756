/- The document's May, of any frame: it is the program's. -/
import Derived.Test.YtbfjfidodpgohaaT28
import Derived.Test.YtbfjfidodpgohaaT29
import Derived.Test.YtbfjfidodpgohaaT30
import Derived.Test.YtbfjfidodpgohaaT31
import Derived.Test.YtbfjfidodpgohaaT32
import Derived.Test.YtbfjfidodpgohaaT23

namespace Go.Proofs.Ytbfjfidodpgohaa
open Go.RowKit Go.Sort

theorem fldS_none {k : Nat} (h : ¬ (1 ≤ k ∧ k ≤ 10)) : fldS k = ⟨#[]⟩ := by
  unfold fldS
  rw [if_neg (by omega), if_neg (by omega), if_neg (by omega), if_neg (by omega), if_neg (by omega), if_neg (by omega), if_neg (by omega), if_neg (by omega)]

set_option maxRecDepth 100000 in
theorem refMay_none (F : Fr) (cs : Array Value) (w : World) (hok : F.Ok) (hk : ¬ (1 ≤ F.kind ∧ F.kind ≤ 10)) (hF : FrL w F cs) :
    Calls Try.prog 16 #[.agg cs] w fun e w' => e = .returned (.bool (mayF F)) ∧ RowKit.Below w.heap.size w w' := by
  have hm : mayF F = false := by
    have : isKind F.kind = false := by rw [Bool.eq_false_iff]; simpa [isKind] using hk
    unfold mayF
    rw [this]
    simp
  rw [hm]
  have HFl : Hid (∀ V, Calls Try.prog 24 #[.int .u8 (F.kind : Int)] V fun e w' => e = .returned (.string ⟨#[]⟩) ∧ V = w') := fun V => by
    have := fields_any F.kind V hok.kind
    rw [fldS_none hk] at this
    exact this
  obtain ⟨x0, -⟩ := hF.at_
  have HB : Hid (RowKit.Below w.heap.size w (w.alloc (.cells cs 33))) := (RowKit.Below.refl _ _).alloc (Nat.le_refl _) _
  clear hm hk hok hF
  go_enter Try.func16, Try.ntmps16
  go_wp2_with fail
  refine (HFl.out _).mono ?_
  rintro e _ ⟨rfl, rfl⟩
  go_wp2
  go_ret
  exact ⟨rfl, HB.out⟩

theorem refMayF_any (F : Fr) (cs : Array Value) (w : World) (hok : F.Ok) (hF : FrL w F cs) :
    Calls Try.prog 16 #[.agg cs] w fun e w' => e = .returned (.bool (mayF F)) ∧ RowKit.Below w.heap.size w w' := by
  by_cases hr : 1 ≤ F.kind ∧ F.kind ≤ 10
  · have hc : F.kind = 1 ∨ F.kind = 2 ∨ F.kind = 3 ∨ F.kind = 4 ∨ F.kind = 5 ∨ F.kind = 6 ∨ F.kind = 7 ∨ F.kind = 8 ∨ F.kind = 9 ∨ F.kind = 10 := by omega
    rcases hc with hk | hk | hk | hk | hk | hk | hk | hk | hk | hk
    · rw [← mayK1_eq F hk]; exact refMay_1 F cs w hok hk hF
    · rw [← mayK2_eq F hk]; exact refMay_2 F cs w hok hk hF
    · rw [← mayK3_eq F hk]; exact refMay_3 F cs w hok hk hF
    · rw [← mayK4_eq F hk]; exact refMay_4 F cs w hok hk hF
    · rw [← mayK5_eq F hk]; exact refMay_5 F cs w hok hk hF
    · rw [← mayK6_eq F hk]; exact refMay_6 F cs w hok hk hF
    · rw [← mayK7_eq F hk]; exact refMay_7 F cs w hok hk hF
    · rw [← mayK8_eq F hk]; exact refMay_8 F cs w hok hk hF
    · rw [← mayK9_eq F hk]; exact refMay_9 F cs w hok hk hF
    · rw [← mayK10_eq F hk]; exact refMay_10 F cs w hok hk hF
  · exact refMay_none F cs w hok hr hF

end Go.Proofs.Ytbfjfidodpgohaa

/- The document's Great: whether a frame is more than is gone through; how long a frame's bytes are. -/
namespace Go.Proofs.Ytbfjfidodpgohaa
open Go.RowKit Go.Sort

def greatB (F : Fr) : Bool := decide (100 < F.est.length) || decide (100 < F.aux.length) || decide (100 < F.done.length) || decide (100 < F.held.length) || decide (2000 < F.data.length)

set_option maxRecDepth 100000 in
set_option maxHeartbeats 3200000 in
theorem refGreat_any (F : Fr) (cs : Array Value) (w : World) (hF : FrL w F cs) :
    Calls Try.prog 15 #[.agg cs] w fun e w' => e = .returned (.bool (greatB F)) ∧ RowKit.Below w.heap.size w w' := by
  have HB : Hid (RowKit.Below w.heap.size w (w.alloc (.cells cs 33))) := (RowKit.Below.refl _ _).alloc (Nat.le_refl _) _
  obtain ⟨A1, c1, A2, c2, A3, c3, A4, c4, A5, c5, x1, x2, x3, x4, x5⟩ := hF.sls
  unfold greatB
  generalize F.est.length = n1 at *
  generalize F.aux.length = n2 at *
  generalize F.done.length = n3 at *
  generalize F.held.length = n4 at *
  generalize F.data.length = n5 at *
  clear hF
  by_cases h1 : 100 < n1
  · rw [show (decide (100 < n1) || decide (100 < n2) || decide (100 < n3) || decide (100 < n4) || decide (2000 < n5)) = true by simp [h1]]
    have d1 : decide ((100 : Int) < (n1 : Int)) = true := by simp; omega
    clear h1
    go_enter Try.func15, Try.ntmps15
    go_wp2
    go_ret
    exact ⟨rfl, HB.out⟩
  have d1 : decide ((100 : Int) < (n1 : Int)) = false := by simp; omega
  by_cases h2 : 100 < n2
  · rw [show (decide (100 < n1) || decide (100 < n2) || decide (100 < n3) || decide (100 < n4) || decide (2000 < n5)) = true by simp [h2]]
    have d2 : decide ((100 : Int) < (n2 : Int)) = true := by simp; omega
    clear h1 h2
    go_enter Try.func15, Try.ntmps15
    go_wp2
    go_ret
    exact ⟨rfl, HB.out⟩
  have d2 : decide ((100 : Int) < (n2 : Int)) = false := by simp; omega
  by_cases h3 : 100 < n3
  · rw [show (decide (100 < n1) || decide (100 < n2) || decide (100 < n3) || decide (100 < n4) || decide (2000 < n5)) = true by simp [h3]]
    have d3 : decide ((100 : Int) < (n3 : Int)) = true := by simp; omega
    clear h1 h2 h3
    go_enter Try.func15, Try.ntmps15
    go_wp2
    go_ret
    exact ⟨rfl, HB.out⟩
  have d3 : decide ((100 : Int) < (n3 : Int)) = false := by simp; omega
  by_cases h4 : 100 < n4
  · rw [show (decide (100 < n1) || decide (100 < n2) || decide (100 < n3) || decide (100 < n4) || decide (2000 < n5)) = true by simp [h4]]
    have d4 : decide ((100 : Int) < (n4 : Int)) = true := by simp; omega
    clear h1 h2 h3 h4
    go_enter Try.func15, Try.ntmps15
    go_wp2
    go_ret
    exact ⟨rfl, HB.out⟩
  have d4 : decide ((100 : Int) < (n4 : Int)) = false := by simp; omega
  by_cases h5 : 2000 < n5
  · rw [show (decide (100 < n1) || decide (100 < n2) || decide (100 < n3) || decide (100 < n4) || decide (2000 < n5)) = true by simp [h5]]
    have d5 : decide ((2000 : Int) < (n5 : Int)) = true := by simp; omega
    clear h1 h2 h3 h4 h5
    go_enter Try.func15, Try.ntmps15
    go_wp2
    go_ret
    exact ⟨rfl, HB.out⟩
  · rw [show (decide (100 < n1) || decide (100 < n2) || decide (100 < n3) || decide (100 < n4) || decide (2000 < n5)) = false by simp; omega]
    have d5 : decide ((2000 : Int) < (n5 : Int)) = false := by simp; omega
    clear h1 h2 h3 h4 h5
    go_enter Try.func15, Try.ntmps15
    go_wp2
    go_ret
    exact ⟨rfl, HB.out⟩

theorem great_ok {F : Fr} (h : greatB F = false) (hw : F.Wf) : F.Ok := by
  unfold greatB at h
  simp at h
  exact ⟨hw.kind, hw.src, hw.dst, hw.seq, hw.at_, hw.of_, hw.size, hw.inst, hw.rnd, by omega, by omega, by omega, by omega, by omega, hw.doneN, hw.heldN⟩

theorem great_data {F : Fr} (h : greatB F = false) : F.data.length ≤ 2000 := by
  unfold greatB at h
  simp at h
  omega

theorem encs_pos (n : Nat) (l : List Nat) : 1 ≤ (encs (n :: l)).length := by simp [encs, enc]
theorem out_pos (F : Fr) (h : isKind F.kind = true) : 1 ≤ (outOf F).length := by
  have hk' : 1 ≤ F.kind ∧ F.kind ≤ 10 := by simpa [isKind] using h
  have hc : F.kind = 1 ∨ F.kind = 2 ∨ F.kind = 3 ∨ F.kind = 4 ∨ F.kind = 5 ∨ F.kind = 6 ∨ F.kind = 7 ∨ F.kind = 8 ∨ F.kind = 9 ∨ F.kind = 10 := by omega
  clear hk' h
  rcases hc with hc | hc | hc | hc | hc | hc | hc | hc | hc | hc
  · rw [outOf1 F hc, List.length_append]; have := encs_pos F.seq []; omega
  · rw [outOf2 F hc]; exact encs_pos F.seq []
  · rw [outOf3 F hc, List.length_append]; have := encs_pos F.id.f [F.id.s]; omega
  · rw [outOf4 F hc, List.length_append]; have := encs_pos F.id.f [F.id.s]; omega
  · rw [outOf5 F hc]; exact encs_pos F.seq []
  · rw [outOf6 F hc, List.length_append]; have := encs_pos F.inst []; omega
  · rw [outOf7 F hc, List.length_append]; have := encs_pos F.inst []; omega
  · rw [outOf8 F hc, List.length_append]; have := encs_pos F.inst []; omega
  · rw [outOf9 F hc, List.length_append]; have := encs_pos F.inst []; omega
  · rw [outOf10 F hc]; exact encs_pos F.seq []

theorem may_kind {F : Fr} (h : mayF F = true) : isKind F.kind = true := by
  unfold mayF at h
  simp only [Bool.and_eq_true] at h
  exact h.1.1.1.1.1

theorem enc_two {n : Nat} (h : 0 < n) : 2 ≤ (enc n).length := by
  unfold enc
  rw [digs_pos h]
  simp

theorem encs_len64 {l : List Rn} (h : l.length ≤ 64) : (encs (l.length :: runNs l)).length ≤ 1737 := by
  have h1 := encs_len (ns := l.length :: runNs l) (by
    intro x hx
    rcases List.mem_cons.1 hx with rfl | hx
    · omega
    · exact runNs_lt x hx)
  have h2 := runNs_len l
  simp only [List.length_cons] at h1
  omega
theorem row_lenD (l : List UInt8) (h : l.length ≤ 4000) : (row l).length ≤ l.length + 9 := by
  have := enc_len (n := l.length) (by omega)
  simp only [row, List.length_append]
  omega

/-- .. and no more than four thousand. -/
theorem out_len {F : Fr} (hok : F.Ok) (hd : F.data.length ≤ 2000) (hm : mayF F = true) : (outOf F).length ≤ 3600 := by
  have hk' : 1 ≤ F.kind ∧ F.kind ≤ 10 := by simpa [isKind] using may_kind hm
  have hc : F.kind = 1 ∨ F.kind = 2 ∨ F.kind = 3 ∨ F.kind = 4 ∨ F.kind = 5 ∨ F.kind = 6 ∨ F.kind = 7 ∨ F.kind = 8 ∨ F.kind = 9 ∨ F.kind = 10 := by omega
  clear hk'
  have b1 := encs_len1 hok.seq
  have b2 := encs_len2 F.id
  have b3 := encs_len1 (Nat.lt_trans hok.at_ (by decide) : F.at_ < 18446744073709551616)
  have b4 := encs_len1 (Nat.lt_trans hok.of_ (by decide) : F.of_ < 18446744073709551616)
  have b5 := encs_len1 (Nat.lt_trans hok.size (by decide) : F.size < 18446744073709551616)
  have b6 := encs_len1 hok.inst
  have b7 := encs_len1 hok.rnd
  have b8 := encs_lenR hok.est
  have b9 := encs_lenV hok.done hok.doneN
  have b10 := encs_lenV hok.held hok.heldN
  have b11 := row_lenD F.data hok.data
  rcases hc with hc | hc | hc | hc | hc | hc | hc | hc | hc | hc
  · rw [outOf1 F hc]; simp only [List.length_append]; omega
  · rw [outOf2 F hc]; omega
  · rw [outOf3 F hc]; simp only [List.length_append]; omega
  · rw [outOf4 F hc]; simp only [List.length_append]; omega
  · rw [outOf5 F hc]; omega
  · rw [outOf6 F hc]; simp only [List.length_append]; omega
  · have hm7 := hm
    rw [← mayK7_eq F hc] at hm7
    unfold mayK7 at hm7
    simp only [Bool.and_eq_true] at hm7
    have e1 : F.est.length ≤ 64 := by
      have := hm7.1.1.1.2
      unfold runsB at this
      simp only [Bool.and_eq_true, decide_eq_true_eq] at this
      exact this.1.1
    have e2 : F.aux.length ≤ 64 := by
      have := hm7.1.1.2
      unfold runsB at this
      simp only [Bool.and_eq_true, decide_eq_true_eq] at this
      exact this.1.1
    have c1 := encs_len64 e1
    have c2 := encs_len64 e2
    rw [outOf7 F hc]; simp only [List.length_append]; omega
  · rw [outOf8 F hc]; simp only [List.length_append]; omega
  · rw [outOf9 F hc]; simp only [List.length_append]; omega
  · rw [outOf10 F hc]; omega

theorem put_4000 {F : Fr} (hok : F.Ok) (hd : F.data.length ≤ 2000) (hm : mayF F = true) : (putOf F).length ≤ 4000 := by
  have h1 := out_len hok hd hm
  unfold putOf markOf aheadOf
  have h2 := enc_len (n := (outOf F).length + 8) (by omega)
  simp only [headOf, List.length_append, four_length, List.length_cons, List.length_nil]
  omega

/-- A frame's bytes are at least eleven. -/
theorem put_len {F : Fr} (h : mayF F = true) : 11 ≤ (putOf F).length := by
  have h1 := out_pos F (may_kind h)
  unfold putOf markOf aheadOf
  have h2 := enc_two (n := (outOf F).length + 8) (by omega)
  simp only [headOf, List.length_append, four_length, List.length_cons, List.length_nil]
  omega

end Go.Proofs.Ytbfjfidodpgohaa
