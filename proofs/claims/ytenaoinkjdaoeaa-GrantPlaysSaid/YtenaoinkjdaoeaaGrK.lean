/- Stage 17: the document's Limit, Left, Tell, Gone. -/
import Derived.Test.YtenaoinkjdaoeaaGrJ
set_option maxRecDepth 20000
namespace Go.Proofs.Ytenaoinkjdaoeaa
open Go.RowKit Go.Sort

theorem dws_at {w : World} {B : Nat} {A : Option Addr} {l : List Wd} (h : Lies w B A (flat encW l)) {i : Nat} (hi : i < l.length) :
    ∃ b off, A = some ⟨b, off, none⟩ ∧ b < B ∧ ∀ j, j < l.length → w.cell? ⟨b, off + j * 2, none⟩ = some (.int .u64 ((wat l j).t : Int)) ∧ w.cell? ⟨b, off + j * 2 + 1, none⟩ = some (.bool (wat l j).h) := by
  have hn : flat encW l ≠ [] := by
    intro h0
    have := flat_length encW_len l
    rw [h0, List.length_nil] at this
    omega
  obtain ⟨b, off, e, hb, hc⟩ := h hn
  refine ⟨b, off, e, hb, fun j hj => ⟨hc _ _ (wd_t hj), ?_⟩⟩
  rw [Nat.add_assoc]
  exact hc _ _ (wd_h hj)

set_option maxHeartbeats 1600000 in
theorem refLimit_any (A : Option Addr) (n c me : Nat) (l : List Wd) (w : World) (hl : l.length = n) (hG : Gok me l) (hL : Lies w w.heap.size A (flat encW l)) :
    Calls Try.prog 16 #[.agg (dgc (.slice A n c) me)] w fun e w' => e = .returned (.int .u64 (lim l : Int)) ∧ RowKit.Below w.heap.size w w' := by
  have hme : me < n := by rw [← hl]; exact hG.lt
  have hn64 : n ≤ 64 := by rw [← hl]; exact hG.len
  obtain ⟨b, off, rfl, hbl, hc⟩ := dws_at hL hG.lt
  have HLM : Hid (min (wat l me).t (lim l) = lim l) := by show _ = _; have := lim_of hG.lt hG.here; omega
  have HX : Hid (∀ k, k < n → lim (l.take (k + 1)) = if (wat l k).h then lim (l.take k) else min (lim (l.take k)) (wat l k).t) := fun k hk => lim_next (by rw [hl]; exact hk)
  have HE : Hid (lim (l.take n) = lim l) := by show _ = _; rw [List.take_of_length_le (by omega)]
  have HT : Hid (∀ k, k < n → w.cell? ⟨b, off + k * 2, none⟩ = some (.int .u64 ((wat l k).t : Int)) ∧ w.cell? ⟨b, off + k * 2 + 1, none⟩ = some (.bool (wat l k).h)) := fun k hk => hc k (by rw [hl]; exact hk)
  have HM : Hid ((wat l me).t < 18446744073709551616) := hG.t me hG.lt
  clear hc hL hG hl
  unfold dgc
  go_enter Try.func16, Try.ntmps16
  go_upto_region 1 with fail
  generalize hw0 : World.alloc w _ = w0
  have hb0 : RowKit.Below w.heap.size w w0 := hw0 ▸ alloc_below w _
  have x0 : w0.cell? ⟨w.heap.size, 0, none⟩ = some (.slice (some ⟨b, off, none⟩) n c) := hw0 ▸ cell_of_row _ _ 0 _ _ _ (heap_alloc_new w _)
  have x1 : w0.cell? ⟨w.heap.size, 1, none⟩ = some (.int .i64 (me : Int)) := hw0 ▸ cell_of_row _ _ 1 _ _ _ (heap_alloc_new w _)
  have HT0 : Hid (∀ k, k < n → w0.cell? ⟨b, off + k * 2, none⟩ = some (.int .u64 ((wat l k).t : Int)) ∧ w0.cell? ⟨b, off + k * 2 + 1, none⟩ = some (.bool (wat l k).h)) := fun k hk => ⟨(hb0.cell (p := ⟨b, off + k * 2, none⟩) hbl).trans (HT.out k hk).1, (hb0.cell (p := ⟨b, off + k * 2 + 1, none⟩) hbl).trans (HT.out k hk).2⟩
  have HB := Lib.hid hb0
  have m0 := (HT0.out me hme).1
  clear hw0 HT hb0
  generalize (wat l me).t = T at m0 HLM HM
  go_wp2
  go_loop [3, 4, 15] (fun s3 _ i => ∃ k : Nat, k ≤ n ∧ i = .int .i64 k ∧ ∃ s : Nat, s3 = .int .u64 (s : Int) ∧ Hid (s = min T (lim (l.take k)))) (fun _ _ i => n - (intOf i).toNat)
  case atStart => exact ⟨0, Nat.zero_le _, rfl, T, rfl, by show T = min T 18446744073709551615; have := HM.out; omega⟩
  case round =>
    obtain ⟨k, hk, rfl, s, rfl, HS⟩ := hrel
    clear m0
    by_cases hlt : k < n
    · obtain ⟨ct, ch⟩ := HT0.out k hlt
      have HN := Lib.hid (HX.out k hlt)
      generalize lim (l.take k) = m at HN HS
      generalize (wat l k).t = t at ct HN
      cases hh : (wat l k).h
      · rw [hh] at HN ch
        have HN2 : Hid (lim (l.take (k + 1)) = min m t) := HN.out
        clear HN hh
        by_cases hts : t < s
        · have d : decide (t < s) = true := decide_eq_true hts
          have HS2 : Hid (t = min T (lim (l.take (k + 1)))) := by show _ = _; rw [HN2.out]; have := HS.out; omega
          clear hts
          go_wp2
          go_round
          case rel => exact ⟨k + 1, by omega, by go_num, _, rfl, HS2⟩
          case measure => simp [intOf]; omega
        · have d : decide (t < s) = false := decide_eq_false hts
          have HS2 : Hid (s = min T (lim (l.take (k + 1)))) := by show _ = _; rw [HN2.out]; have := HS.out; omega
          clear hts
          go_wp2
          go_round
          case rel => exact ⟨k + 1, by omega, by go_num, _, rfl, HS2⟩
          case measure => simp [intOf]; omega
      · rw [hh] at HN ch
        have HS2 : Hid (s = min T (lim (l.take (k + 1)))) := by show _ = _; rw [HS.out, HN.out]; rfl
        clear HN hh
        go_wp2
        go_round
        case rel => exact ⟨k + 1, by omega, by go_num, _, rfl, HS2⟩
        case measure => simp [intOf]; omega
    · obtain rfl : k = n := by omega
      go_wp2
      go_ret
      refine ⟨?_, HB.out⟩
      have := HS.out
      rw [HE.out, HLM.out] at this
      rw [this]
      rfl

theorem refLeft_any (A : Option Addr) (n c me u : Nat) (l : List Wd) (w : World) (hl : l.length = n) (hG : Gok me l) (hL : Lies w w.heap.size A (flat encW l)) :
    Calls Try.prog 19 #[.agg (dgc (.slice A n c) me), .int .u64 (u : Int)] w fun e w' => e = .returned (.int .u64 ((lim l - u : Nat) : Int)) ∧ RowKit.Below w.heap.size w w' := by
  have HC : Hid (∀ W, RowKit.Below w.heap.size w W → Calls Try.prog 16 #[.agg (dgc (.slice A n c) me)] W fun e w' => e = .returned (.int .u64 (lim l : Int)) ∧ RowKit.Below W.heap.size W w') := fun W hb => refLimit_any A n c me l W hl hG (hL.on hb)
  have hmax := lim_max l
  clear hl hG hL
  generalize lim l = L at HC hmax ⊢
  unfold dgc at HC ⊢
  go_enter Try.func19, Try.ntmps19
  go_upto_region 1 with fail
  generalize hw0 : World.alloc w _ = w0
  have hb0 : RowKit.Below w.heap.size w w0 := hw0 ▸ alloc_below w _
  have x0 : w0.cell? ⟨w.heap.size, 0, none⟩ = some (.slice A n c) := hw0 ▸ cell_of_row _ _ 0 _ _ _ (heap_alloc_new w _)
  have x1 : w0.cell? ⟨w.heap.size, 1, none⟩ = some (.int .i64 (me : Int)) := hw0 ▸ cell_of_row _ _ 1 _ _ _ (heap_alloc_new w _)
  have hsz : w.heap.size < w0.heap.size := by subst hw0; simp
  have HB0 := Lib.hid hb0
  clear hw0 hb0
  go_wp2_with fail
  refine (HC.out w0 HB0.out).mono ?_
  rintro e w1 ⟨rfl, hb1⟩
  have y0 := (hb1.cell (p := ⟨w.heap.size, 0, none⟩) hsz).trans x0
  have y1 := (hb1.cell (p := ⟨w.heap.size, 1, none⟩) hsz).trans x1
  have HB1 := Lib.hid (HB0.out.trans (hb1.mono HB0.out.size))
  clear x0 x1 hsz hb1 HB0
  by_cases h : L ≤ u
  · have d : decide (L ≤ u) = true := decide_eq_true h
    have HZ : Hid (L - u = 0) := by show _ = _; omega
    clear h
    go_wp2
    go_ret
    exact ⟨by rw [HZ.out]; rfl, HB1.out⟩
  · have d : decide (L ≤ u) = false := decide_eq_false h
    have h1 : 0 ≤ (L : Int) - (u : Int) := by omega
    have h2 : (L : Int) - (u : Int) < 18446744073709551616 := by omega
    have HE : Hid (((L - u : Nat) : Int) = (L : Int) - (u : Int)) := by show _ = _; omega
    go_wp2_with fail
    refine (HC.out w1 HB1.out).mono ?_
    rintro e w2 ⟨rfl, hb2⟩
    have HB2 := Lib.hid (HB1.out.trans (hb2.mono HB1.out.size))
    clear HC hb2 HB1
    go_wp2
    go_ret
    exact ⟨by rw [HE.out]; rfl, HB2.out⟩

end Go.Proofs.Ytenaoinkjdaoeaa
