/- The walk of IdentJoins. -/
import Derived.Test.YtoihikeeaobemaaIdRl
import Derived.Test.YtoihikeeaobemaaIdSm
import Derived.Test.YtoihikeeaobemaaIdSo
import Derived.Test.YtoihikeeaobemaaIdK
import Derived.Test.YtoihikeeaobemaaIdY
namespace Go.Proofs.Ytoihikeeaobemaa
open Go.RowKit Go.Sort

theorem satC_le : ∀ (L : List Rn) (n : Nat), n + (L.map (·.c)).sum ≤ 4611686018427387904 → satC n L = n + (L.map (·.c)).sum
  | [], n, _ => by simp [satC]
  | r :: t, n, h => by
    rw [List.map_cons, List.sum_cons] at h ⊢
    rw [satC, if_neg (by omega), satC_le t (n + r.c) (by omega)]
    omega

/-- The rows of ids, and what they list. -/
theorem join_facts (l : List Id) (h : l.length ≤ 100) : RowsP (joinOf l) ∧ listM 100 (joinOf l) = orderedI l ∧ (joinOf l).length ≤ 100 ∧ (orderedI l).length ≤ 100 := by
  obtain ⟨h1, h2⟩ := rowsOf_rows (orderedI l).length (orderedI l) rfl (ordered_strict l) (fun y hy => ((ordered_mem y l).1 hy).2)
  rw [← joinOf_eq] at h1 h2
  have hlen : (orderedI l).length ≤ 100 := Nat.le_trans (nodup_len _ l (ordered_strict l) (fun x hx => ((ordered_mem x l).1 hx).1)) h
  have hbad := rows_bad h1
  have hsum : ((joinOf l).map (·.c)).sum = (orderedI l).length := by rw [← listOf_len, h2]
  have hcnt : cntN (joinOf l) = (orderedI l).length := by
    unfold cntN
    rw [List.filter_eq_self.2 (bad_all hbad), satC_le _ 0 (by omega), hsum]
    omega
  refine ⟨h1, ?_, ?_, hlen⟩
  · unfold listM
    rw [if_neg, h2]
    rw [hbad, hcnt]
    simp
    omega
  · have := rowsOf_len (orderedI l) (orderedI l).length
    rw [List.take_length, ← joinOf_eq] at this
    omega

theorem identJoins_long (A : Option Addr) (n c : Nat) (w : World) (hn : 100 < n) :
    Calls Try.prog 4 #[.slice A n c] w fun e w' => e = .returned (.bool true) ∧ RowKit.Below w.heap.size w w' := by
  go_enter Try.func4, Try.ntmps4
  go_wp2_with (go_at_call 8; refine (awake_any _).mono ?_; rintro e w' ⟨rfl, hb⟩)
  go_ret
  exact ⟨rfl, hb⟩

set_option maxHeartbeats 1600000 in
theorem identJoins_walk (A : Option Addr) (n c : Nat) (l : List Id) (w : World) (hl : l.length = n) (hn : n ≤ 100) (h : Lies w w.heap.size A (flat encId l)) :
    Calls Try.prog 4 #[.slice A n c] w fun e w' => e = .returned (.bool true) ∧ RowKit.Below w.heap.size w w' := by
  obtain ⟨i0, hi, hz0, hz1, hz2⟩ := info_parts Try.infoID
  have hd : decide (100 < (n : Int)) = false := by simp; omega
  have hn1 : n ≤ 1000 := by omega
  obtain ⟨hrows, hlist, hjl, hol⟩ := join_facts l (by omega)
  have hrb := rowsB_true hrows
  have HL := Lib.hid hl
  have HF := Lib.hid (And.intro hlist (And.intro hjl hol))
  clear hl hlist hjl hol hrows
  have hL1 : Lies (w.alloc (.cells #[] 24)) w.heap.size A (flat encId l) := h.below ((RowKit.Below.refl _ _).alloc (Nat.le_refl _) _)
  have hO := World.ownsRow_made (base := w.heap.size) (size := 2) (e := 24) w #[] 0 (Nat.le_refl _) (Nat.zero_le _) rfl
  go_enter Try.func4, Try.ntmps4
  go_wp2_with (at_builtin; refine wpList_append_lstK rfl _ _ 39 rfl w.heap.size 2 (by decide) 24 i0 (.agg #[.int .u8 0, .int .u64 0]) 16 Try.underlying39 hi hz0 hz1 hz2 rfl _ 0 [] rfl hO _ _ _ _ (flat encId l) rfl ?d0 hL1 (flat_one encId_one _) ?d2 ?d3 ?d4 ?_)
  case d0 => rw [flat_length encId_len, HL.out]
  case d2 => unfold maxLen; omega
  case d3 => omega
  case d4 => simp
  intro v1 w1 hown1 _ hb1 _
  obtain ⟨A1, c1, rfl, _, _⟩ := own_sliceK hown1
  have hb01 : RowKit.Below w.heap.size w w1 := ((RowKit.Below.refl _ _).alloc (Nat.le_refl _) _).trans hb1
  have hown1' : w1.ownsRow w.heap.size 24 2 (.slice A1 n c1) n (flat encId l) := by simpa using hown1
  have ho1 := Lies.of_ownK hown1'
  have hl1 := h.on hb01
  clear hown1 hown1' hO hL1 hb1
  go_wp2_with fail
  refine (join_any A1 _ c1 l w1 HL.out hn1 ho1).mono ?_
  rintro e w2 ⟨A2, n2, c2, rfl, hq2, _, _, hown2, hb2⟩
  have hr2 := Lies.of_ownK hown2
  have ho2 := ho1.on hb2
  have hl2 := hl1.on hb2
  have hb02 : RowKit.Below w.heap.size w w2 := hb01.trans (hb2.mono hb01.size)
  have hn2 : n2 ≤ 1000 := by rw [← hq2.out]; exact Nat.le_trans HF.out.2.1 (by decide)
  clear hown2 ho1 hl1 hb01 hb2
  go_wp2_with fail
  have k16 := refRows_any A2 n2 c2 (joinOf l) w2 hq2.out hn2 hr2
  rw [hrb] at k16
  refine k16.mono ?_
  rintro e w3 ⟨rfl, hb3⟩
  have hr3 := hr2.on hb3
  have ho3 := ho2.on hb3
  have hl3 := hl2.on hb3
  have hb03 : RowKit.Below w.heap.size w w3 := hb02.trans (hb3.mono hb02.size)
  have k23 := refList_any 100 A2 n2 c2 (joinOf l) w3 (by decide) (by decide) hq2.out hn2 hr3
  rw [HF.out.1] at k23
  clear hr2 ho2 hl2 hb02 hb3 k16 hr3
  go_wp2_with fail
  refine k23.mono ?_
  rintro e w4 ⟨A4, n4, c4, rfl, hq4, _, _, hown4, hb4⟩
  have hs4 := Lies.of_ownK hown4
  have ho4 := ho3.on hb4
  have hl4 := hl3.on hb4
  have hb04 : RowKit.Below w.heap.size w w4 := hb03.trans (hb4.mono hb03.size)
  clear hown4 ho3 hl3 hb03 hb4 k23
  go_wp2_with fail
  refine (refSort_any A n c l w4 HL.out hn hl4).mono ?_
  rintro e w5 ⟨A5, n5, c5, rfl, hq5, _, _, hown5, hb5⟩
  have ht5 := Lies.of_ownK hown5
  have hs5 := hs4.on hb5
  have ho5 := ho4.on hb5
  have hl5 := hl4.on hb5
  have hb05 : RowKit.Below w.heap.size w w5 := hb04.trans (hb5.mono hb04.size)
  have hn4 : n4 ≤ 1000 := by rw [← hq4.out]; exact Nat.le_trans HF.out.2.2 (by decide)
  clear hown5 hs4 ho4 hl4 hb04 hb5
  go_wp2_with fail
  refine (sameIds_any A4 A5 n4 c4 n5 c5 (orderedI l) (orderedI l) w5 hq4.out hq5.out hn4 hs5 ht5).mono ?_
  rw [show decide (orderedI l = orderedI l) = true from decide_eq_true rfl]
  rintro e w6 ⟨rfl, hb6⟩
  have ho6 := ho5.on hb6
  have hl6 := hl5.on hb6
  have hb06 : RowKit.Below w.heap.size w w6 := hb05.trans (hb6.mono hb05.size)
  clear hs5 ht5 ho5 hl5 hb05 hb6
  go_wp2_with fail
  refine (sameIds_any A1 A _ c1 n c l l w6 HL.out HL.out hn1 ho6 hl6).mono ?_
  rw [show decide (l = l) = true from decide_eq_true rfl]
  rintro e w7 ⟨rfl, hb7⟩
  have hb07 : RowKit.Below w.heap.size w w7 := hb06.trans (hb7.mono hb06.size)
  clear ho6 hl6 hb06 hb7
  go_wp2_with (go_at_call 8; refine (awake_any _).mono ?_; rintro e w' ⟨rfl, hb⟩)
  go_ret
  exact ⟨rfl, hb07.trans (hb.mono hb07.size)⟩

end Go.Proofs.Ytoihikeeaobemaa
