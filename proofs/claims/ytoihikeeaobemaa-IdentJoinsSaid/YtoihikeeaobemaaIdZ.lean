/- The walks of Count (ident), and of the document's own Count. -/
import Derived.Test.YtoihikeeaobemaaIdX
namespace Go.Proofs.Ytoihikeeaobemaa
open Go.RowKit Go.Sort

/-- How many ids runs have together, MaxSeq at most. -/
def satC : Nat → List Rn → Nat
  | n, [] => n
  | n, r :: t => if 4611686018427387904 - n < r.c then 4611686018427387904 else satC (n + r.c) t
def cntN (l : List Rn) : Nat := satC 0 (l.filter runB)

set_option maxHeartbeats 800000 in
theorem count_any (A : Option Addr) (n c : Nat) (l : List Rn) (w : World) (hl : l.length = n) (hn : n ≤ 1000) (h : Lies w w.heap.size A (flat encRn l)) :
    Calls Try.prog 19 #[.slice A n c] w fun e w' => e = .returned (.int .u64 (cntN l)) ∧ RowKit.Below w.heap.size w w' := by
  have hwo := withoutRns_any A n c l w hl hn h
  have hfl : (l.filter runB).length ≤ 1000 := by have := List.length_filter_le runB l; omega
  unfold cntN
  generalize l.filter runB = L at hwo hfl ⊢
  clear h hl
  go_enter Try.func19, Try.ntmps19
  go_wp2_with fail
  refine hwo.mono ?_
  rintro e w1 ⟨A1, n1, c1, rfl, hn1, _, _, hown, hb1⟩
  have hL := Lies.of_ownK hown
  have hn1m : n1 ≤ 1000 := by rw [← hn1.out]; exact hfl
  clear hwo hown hfl
  go_wp2
  go_loopw [3, 5, 9] (fun s3 _ i wr => ∃ (k m : Nat), k ≤ n1 ∧ i = .int .i64 k ∧ s3 = .int .u64 m ∧ m ≤ 4611686018427387904 ∧ RowKit.Below w1.heap.size w1 wr ∧ Hid (satC m (L.drop k) = satC 0 L)) (fun _ _ i _ => n1 - (intOf i).toNat)
  case atStart => exact ⟨0, 0, Nat.zero_le _, rfl, rfl, by omega, RowKit.Below.refl _ _, rfl⟩
  case round =>
    obtain ⟨k, m, hk, rfl, rfl, hm, hb, hS⟩ := hrel
    by_cases hlt : k < n1
    · have hkl : k < L.length := by rw [hn1.out]; exact hlt
      obtain ⟨bb, off, rfl, hbl, c0, c1', c2⟩ := (hL.below hb).rn hkl
      rw [List.drop_eq_getElem_cons hkl] at hS
      have hcc := L[k].hc
      generalize L[k] = x at c0 c1' c2 hS hcc
      have e1 : IntKind.u64.wrap (4611686018427387904 - (m : Int)) = ((4611686018427387904 - m : Nat) : Int) := by rw [IntKind.wrap_u64]; omega
      by_cases hg : 4611686018427387904 - m < x.c
      · have HS : Hid (satC 0 L = 4611686018427387904) := by
          have := hS.out
          rw [satC, if_pos hg] at this
          exact this.symm
        have hbw : RowKit.Below w.heap.size w wr := hb1.trans (hb.mono hb1.size)
        have hz : ((4611686018427387904 - m : Nat) : Int) < (x.c : Int) := by omega
        generalize 4611686018427387904 - m = mm at e1 hz hg
        go_wp2
        go_ret
        rw [HS.out]
        exact ⟨rfl, hbw.alloc hbw.size _⟩
      · have HS : Hid (satC (m + x.c) (L.drop (k + 1)) = satC 0 L) := by
          have := hS.out
          rw [satC, if_neg hg] at this
          exact this
        have e2 : IntKind.u64.wrap ((m : Int) + (x.c : Int)) = ((m + x.c : Nat) : Int) := by rw [IntKind.wrap_u64]; omega
        have hmm : m + x.c ≤ 4611686018427387904 := by omega
        have hz : ¬ ((4611686018427387904 - m : Nat) : Int) < (x.c : Int) := by omega
        generalize 4611686018427387904 - m = mm at e1 hz hg
        generalize m + x.c = mx at e2 HS hmm
        go_wp2
        go_roundw
        case rel => exact ⟨k + 1, mx, by omega, by go_num, rfl, hmm, hb.alloc hb.size _, HS⟩
        case measure => simp [intOf]; omega
    · have HS : Hid (satC 0 L = m) := by
        have := hS.out
        rw [List.drop_eq_nil_of_le (by rw [hn1.out]; omega)] at this
        exact this.symm
      have hbw : RowKit.Below w.heap.size w wr := hb1.trans (hb.mono hb1.size)
      go_wp2
      go_ret
      rw [HS.out]
      exact ⟨rfl, hbw⟩

set_option maxHeartbeats 800000 in
theorem refCount_any (A : Option Addr) (n c : Nat) (l : List Rn) (w : World) (hl : l.length = n) (hn : n ≤ 1000) (h : Lies w w.heap.size A (flat encRn l)) :
    Calls Try.prog 20 #[.slice A n c] w fun e w' => e = .returned (.int .u64 (cntN l)) ∧ RowKit.Below w.heap.size w w' := by
  unfold cntN
  generalize hC : satC 0 (l.filter runB) = C
  have HL := Lib.hid hl
  have HC := Lib.hid hC
  clear hl hC
  go_enter Try.func20, Try.ntmps20
  go_wp2
  go_loopw [3, 4, 7] (fun s3 _ i wr => ∃ (k m : Nat), k ≤ n ∧ i = .int .i64 k ∧ s3 = .int .u64 m ∧ m ≤ 4611686018427387904 ∧ RowKit.Below w.heap.size w wr ∧ Hid (satC m ((l.drop k).filter runB) = C)) (fun _ _ i _ => n - (intOf i).toNat)
  case atStart => exact ⟨0, 0, Nat.zero_le _, rfl, rfl, by omega, RowKit.Below.refl _ _, HC⟩
  case round =>
    obtain ⟨k, m, hk, rfl, rfl, hm, hb, hS⟩ := hrel
    by_cases hlt : k < n
    · have hkl : k < l.length := by rw [HL.out]; exact hlt
      obtain ⟨bb, off, rfl, hbl, c0, c1, c2⟩ := (h.below hb).rn hkl
      have hbw : bb < wr.heap.size := Nat.lt_of_lt_of_le hbl hb.size
      rw [List.drop_eq_getElem_cons hkl, List.filter_cons] at hS
      have hcc := l[k].hc
      generalize l[k] = x at c0 c1 c2 hS hcc
      go_wp2_with fail
      refine (refRun_lit x _).mono ?_
      rintro e w1 ⟨rfl, hg1⟩
      have x2 := (hg1.below.cell (p := ⟨bb, _, none⟩) hbw).trans c2
      have x3 : w1.cell? ⟨bb, off + k * 3 + 2, none⟩ = some (.int .u64 (x.c : Int)) := x2
      have hb0 : RowKit.Below w.heap.size w w1 := hb.trans (hg1.below.mono hb.size)
      clear c0 c1 c2 hg1
      cases hrun : runB x with
      | false =>
        rw [hrun] at hS
        go_wp2
        go_roundw
        case rel => exact ⟨k + 1, m, by omega, by go_num, rfl, hm, hb0, by simpa using hS⟩
        case measure => simp [intOf]; omega
      | true =>
        rw [hrun, if_pos rfl] at hS
        have e1 : IntKind.u64.wrap (4611686018427387904 - (m : Int)) = ((4611686018427387904 - m : Nat) : Int) := by rw [IntKind.wrap_u64]; omega
        by_cases hg : 4611686018427387904 - m < x.c
        · have HS : Hid (C = 4611686018427387904) := by
            have := hS.out
            rw [satC, if_pos hg] at this
            exact this.symm
          have hz : ((4611686018427387904 - m : Nat) : Int) < (x.c : Int) := by omega
          generalize 4611686018427387904 - m = mm at e1 hz hg
          go_wp2
          go_ret
          rw [HS.out]
          exact ⟨rfl, hb0⟩
        · have HS : Hid (satC (m + x.c) ((l.drop (k + 1)).filter runB) = C) := by
            have := hS.out
            rw [satC, if_neg hg] at this
            exact this
          have e2 : IntKind.u64.wrap ((m : Int) + (x.c : Int)) = ((m + x.c : Nat) : Int) := by rw [IntKind.wrap_u64]; omega
          have hmm : m + x.c ≤ 4611686018427387904 := by omega
          have hz : ¬ ((4611686018427387904 - m : Nat) : Int) < (x.c : Int) := by omega
          generalize 4611686018427387904 - m = mm at e1 hz hg
          generalize m + x.c = mx at e2 HS hmm
          go_wp2
          go_roundw
          case rel => exact ⟨k + 1, mx, by omega, by go_num, rfl, hmm, hb0, HS⟩
          case measure => simp [intOf]; omega
    · have HS : Hid (C = m) := by
        have := hS.out
        rw [List.drop_eq_nil_of_le (by rw [HL.out]; omega)] at this
        exact this.symm
      go_wp2
      go_ret
      rw [HS.out]
      exact ⟨rfl, hb⟩

end Go.Proofs.Ytoihikeeaobemaa
