/- Stage 12: All, walked. -/
import Derived.Test.YtgkkobnoegggaaaCkH
set_option maxRecDepth 20000
namespace Go.Proofs.Ytgkkobnoegggaaa
open Go.RowKit Go.Sort

theorem count_same (s k : Int) (w : World) : Calls Try.prog 9 #[.int .i64 s, .int .i64 k] w fun e w' => e = .returned (.int .i64 (cntZ s k : Int)) ∧ w = w' :=
  (count_any s k w).mono fun e w' (h : e = .returned (.int .i64 (cntZ s k : Int)) ∧ w' = w) => (⟨h.1, h.2.symm⟩ : e = .returned (.int .i64 (cntZ s k : Int)) ∧ w = w')

theorem box_id (w : World) (id : Id) {w1 : World} (h : w.alloc (.cells (idCells id) 28) = w1) : w1.heap[w.heap.size]? = some (.cells (idCells id) 28 (0, 0)) ∧ w1.heap.size = w.heap.size + 1 ∧ RowKit.Below w.heap.size w w1 := by
  subst h
  exact ⟨heap_alloc_new _ _, by simp, (RowKit.Below.refl _ _).alloc (Nat.le_refl _) _⟩

set_option maxHeartbeats 1600000 in
theorem all_no (id : Id) (A : Option Addr) (c : Nat) (l : List UInt8) (k : Int) (w : World) (hc : l.length ≤ maxLen) (hT : ¬ Fit (l.length : Int) k) :
    Calls Try.prog 15 #[.agg (idCells id), .slice A l.length c, .int .i64 k] w (FrsOut w []) := by
  obtain ⟨i0, hi, hz0, hz1, hz2⟩ := info_parts Try.infoFrame
  have HC : Hid (∀ V, Calls Try.prog 9 #[.int .i64 (l.length : Int), .int .i64 k] V fun e w' => e = .returned (.int .i64 0) ∧ V = w') := fun V => by
    have := count_same l.length k V
    rw [cntZ_no hT] at this
    exact this
  have hcl : (l.length : Int) ≤ 9223372036854775807 := by unfold maxLen at hc; omega
  clear hT
  unfold idCells
  go_enter Try.func15, Try.ntmps15
  go_wp2_with fail
  generalize hW1 : World.alloc w _ = w1
  obtain ⟨hbx, hs1, hb1⟩ := box_id w id hW1
  have HS1 := Lib.hid hs1
  clear hW1 hs1
  refine (HC.out w1).mono ?_
  rintro e w2 ⟨rfl, rfl⟩
  go_wp2_with (first | (at_make; refine wpList_make_full w1 rfl (.tmp 14) (.tmp 14) 34 rfl w.heap.size 42 i0 (.agg zeroF) 16 Try.underlying34 hi hz0 hz1 .i64 .i64 _ _ 0 rfl rfl rfl rfl (by rw [hz2]; omega) (by unfold maxLen; omega) (by have := HS1.out; omega) ?_) | fail)
  intro w3 hown hg
  have hb3 : RowKit.Below w.heap.size w w3 := hb1.trans ((RowKit.Below.refl _ _).grown hg (by have := HS1.out; omega) (fun q hq => by cases hq))
  have HB3 := Lib.hid hb3
  have HO : Hid (w3.ownsRow w.heap.size 42 16 (.slice (some ⟨w1.heap.size, 0, none⟩) 0 0) 0 (flat encPf [])) := by
    have e : (madeCells zeroF 0).toList = flat encPf [] := made_frames 0
    rw [e] at hown
    exact hown
  clear hown hg hb3
  go_wp2
  go_loopw [18] (fun i wr => i = .int .i64 0 ∧ wr = w3) (fun _ _ => 0)
  case atStart => exact ⟨rfl, rfl⟩
  case round =>
    obtain ⟨rfl, rfl⟩ := hrel
    go_wp2
    go_ret
    exact ⟨_, _, _, rfl, rfl, ⟨[], rfl, HO.out, by simp⟩, HB3.out⟩

set_option maxHeartbeats 3200000 in
theorem all_yes (id : Id) (A : Option Addr) (c : Nat) (l : List UInt8) (k : Nat) (w : World) (hn : l.length ≤ 2000) (hc : l.length ≤ c) (hm : c ≤ maxLen) (h : Lies w w.heap.size A (bvs l)) (hk : 1 ≤ k) (hk2 : k ≤ 65536) :
    Calls Try.prog 15 #[.agg (idCells id), .slice A l.length c, .int .i64 (k : Int)] w (FrsOut w (allF id l k (cntN l.length k))) := by
  obtain ⟨i0, hi, hz0, hz1, hz2⟩ := info_parts Try.infoFrame
  have HC : Hid (∀ V, Calls Try.prog 9 #[.int .i64 (l.length : Int), .int .i64 (k : Int)] V fun e w' => e = .returned (.int .i64 (cntN l.length k : Int)) ∧ V = w') := fun V => by
    have := count_same l.length k V
    rw [cntZ_yes (by omega) hk hk2] at this
    exact this
  have HCU : Hid (∀ V, RowKit.Below w.heap.size w V → ∀ j, j < cntN l.length k → Calls Try.prog 14 #[.slice A l.length c, .int .i64 (k : Int), .int .i64 (j : Int)] V (CutBytes V (chL l k j) true)) := fun V hV j hj =>
    cut_yes k j rfl (by omega) hc hm (h.later hV) hk hk2 hj
  have hle := cntN_le l.length k
  generalize cntN l.length k = N at *
  have hN : N ≤ 2001 := by omega
  clear h hle
  unfold idCells
  go_enter Try.func15, Try.ntmps15
  go_wp2_with fail
  generalize hW1 : World.alloc w _ = w1
  obtain ⟨hbx, hs1, hb1⟩ := box_id w id hW1
  have HS1 := Lib.hid hs1
  clear hW1 hs1
  refine (HC.out w1).mono ?_
  rintro e w2 ⟨rfl, rfl⟩
  go_wp2_with (first | (at_make; refine wpList_make_full w1 rfl (.tmp 14) (.tmp 14) 34 rfl w.heap.size 42 i0 (.agg zeroF) 16 Try.underlying34 hi hz0 hz1 .i64 .i64 _ _ N rfl rfl rfl rfl ?a1 ?a2 ?a3 ?_) | fail)
  case a1 => rw [hz2]; omega
  case a2 => unfold maxLen; omega
  case a3 => have := HS1.out; omega
  intro w3 hown hg
  have hbg : RowKit.Below w1.heap.size w1 w3 := (RowKit.Below.refl _ _).grown hg (Nat.le_refl _) (fun q hq => by cases hq)
  have HS0 : Hid (AllS w w1 id l k N 0 (List.replicate N zeroP) w3) := by
    have hs1 := HS1.out
    have e : (madeCells zeroF (N * 16)).toList = flat encPf (List.replicate N zeroP) := made_frames N
    rw [e] at hown
    refine ⟨hb1.trans (hbg.mono hb1.size), (hbg.block _ (by omega)).trans hbx, hown, fun y hy => ?_, Filled.start id l k N, by omega, ?_⟩
    · rw [List.eq_of_mem_replicate hy]; exact zeroP_own _ _
    · exact (hown.lt _ rfl).2
  clear hown hg hbg hbx
  go_wp2
  go_loopw [18] (fun i wr => ∃ (j : Nat) (ys : List Pf), j ≤ N ∧ i = .int .i64 j ∧ Hid (AllS w w1 id l k N j ys wr)) (fun i _ => N - (intOf i).toNat)
  case atStart => exact ⟨0, _, Nat.zero_le _, rfl, HS0⟩
  case round =>
    clear HS0 hb1
    obtain ⟨j, ys, hj, rfl, HS⟩ := hrel
    by_cases hlt : j < N
    · have HCU1 := Lib.hid (HCU.out wr HS.out.below j hlt)
      have ew1 : IntKind.u32.wrap (j : Int) = (j : Int) := by rw [IntKind.wrap_u32']; omega
      have ew2 : IntKind.u32.wrap (N : Int) = (N : Int) := by rw [IntKind.wrap_u32']; omega
      have ew3 : IntKind.u32.wrap (l.length : Int) = (l.length : Int) := by rw [IntKind.wrap_u32']; omega
      go_wp2_with fail
      refine HCU1.out.mono ?_
      rintro e w2 ⟨A2, n2, c2, rfl, hl2, hc2, hm2, ho2, hb2⟩
      have hl3 := hl2.out
      subst hl3
      have HS2 := Lib.hid (HS.out.on hb2)
      have c0 := HS2.out.c0
      have c1 := HS2.out.c1
      obtain ⟨hS3, ht⟩ := HS2.out.set hlt (A := A2) (c := c2) (own_base ho2 HS.out.size)
      have HS3 := Lib.hid hS3
      have HT := Lib.hid ht
      clear hS3 ht ho2 hb2 hl2 hc2 hm2
      go_wp2_with (first | (refine store_elem (.tmp 41) (.tmp 40) (p := chP id l k N j A2 c2) rfl rfl HT.out ?_) | fail)
      go_roundw
      case rel => exact ⟨j + 1, _, by omega, by go_num, HS3⟩
      case measure => simp [intOf]; omega
    · obtain rfl : j = N := by omega
      go_wp2
      go_ret
      exact HS.out.done

end Go.Proofs.Ytgkkobnoegggaaa
