/- Stage 17: New, Gone of one, Limit, May, Left. -/
import Derived.Test.YtenaoinkjdaoeaaGrC
set_option maxRecDepth 20000
namespace Go.Proofs.Ytenaoinkjdaoeaa
open Go.RowKit Go.Sort

theorem Try.infoW : (Try.prog.info? 55).map (fun i => (i.zero, i.size, i.bytes)) = some (some (.agg #[.int .u64 0, .bool false]), 2, 16) := by kernel_rfl

theorem new_any (n me : Int) (hn : -9223372036854775808 ≤ n ∧ n ≤ 9223372036854775807) (w : World) (base : Nat) (hb : base ≤ w.heap.size) : Calls Try.prog 8 #[.int .i64 n, .int .i64 me] w fun e w' => ∃ g q, e = .returned (gptr g) ∧ GrAt w' base g q (clampM n me) (List.replicate (clampN n) zeroW) ∧ w.heap.size ≤ g ∧ w.heap.size ≤ q ∧ RowKit.Below w.heap.size w w' := by
  obtain ⟨i0, hi, hz0, hz1, hz2⟩ := info_parts Try.infoW
  have HN : Hid (max 1 (min n 64) = (clampN n : Int)) := by show _ = _; unfold clampN; omega
  have HM : Hid (max 0 (min me ((clampN n : Int) - 1)) = (clampM n me : Int)) := by show _ = _; unfold clampM; omega
  have hN := clampN_pos n
  generalize hcm : clampM n me = M at HM ⊢
  generalize hcn : clampN n = N at HN HM hN ⊢
  clear hcm hcn
  have HB := Lib.hid hb
  clear hb
  go_enter Try.func8, Try.ntmps8
  go_wp2_with (at_make; refine wpList_make_full w rfl (.tmp 8) (.tmp 8) 48 rfl base 55 i0 (.agg #[.int .u64 0, .bool false]) 2 Try.underlying48 hi hz0 hz1 .i64 .i64 _ _ N rfl rfl ?a1 ?a2 ?a3 ?a4 HB.out ?_)
  case a1 => exact HN.out
  case a2 => exact HN.out
  case a3 => rw [hz2]; omega
  case a4 => unfold maxLen; omega
  intro w1 hown1 hg1
  have hb1 : RowKit.Below w.heap.size w w1 := (RowKit.Below.refl _ _).grown hg1 (Nat.le_refl _) (fun q hq => by cases hq)
  rw [made_ws _ rfl] at hown1
  have H1 := Lib.hid hown1
  have HB1 := Lib.hid hb1
  clear hg1 hown1 hb1

  go_wp2
  go_ret
  rw [HN.out]
  have hM : max 0 (min me ((N : Int) - 1)) = (M : Int) := HM.out
  rw [hM]
  have ha := alloc_below w1 (.cells #[.slice (some ⟨w.heap.size, 0, none⟩) N N, .int .i64 (M : Int)] 50)
  refine ⟨w1.heap.size, w.heap.size, rfl, ⟨?_, ?_, Nat.le_trans HB.out HB1.out.size⟩, HB1.out.size, Nat.le_refl _, HB1.out.trans (ha.mono HB1.out.size)⟩
  · rw [List.length_replicate]; exact heap_alloc_new w1 _
  · rw [List.length_replicate]; exact own_below H1.out ha

section
variable {w : World} {base g q me : Nat} {l : List Wd}
set_option maxHeartbeats 800000 in
theorem limit_any (h : GrAt w base g q me l) (hl : l.length ≤ 64) : Calls Try.prog 15 #[gptr g] w fun e w' => e = .returned (.int .u64 (lim l : Int)) ∧ RowKit.Below w.heap.size w w' := by
  have HL : Hid (∀ k, k ≤ l.length → lim (l.take k) ≤ 18446744073709551615) := fun k hk => (lim_le k hk).1
  have HX : Hid (∀ k, k < l.length → lim (l.take (k + 1)) = if (wat l k).h then lim (l.take k) else min (lim (l.take k)) (wat l k).t) := fun k hk => lim_next hk
  have HE : Hid (lim (l.take l.length) = lim l) := by show _ = _; rw [List.take_of_length_le (Nat.le_refl _)]
  have c0 := h.c0
  have H := Lib.hid h
  have HT : Hid (∀ W, RowKit.Below w.heap.size w W → ∀ k, k < l.length → W.cell? ⟨q, k * 2, none⟩ = some (.int .u64 ((wat l k).t : Int)) ∧ W.cell? ⟨q, k * 2 + 1, none⟩ = some (.bool (wat l k).h)) := fun W hW k hk => ⟨(h.on hW).t hk, (h.on hW).h hk⟩
  clear h H
  unfold gptr
  have HN := Lib.hid (rfl : l.length = l.length)
  generalize hn : l.length = n at c0 HT HX HE hl HL
  have HNN := Lib.hid hn
  clear hn HN
  go_enter Try.func15, Try.ntmps15
  go_wp2
  go_loopw [3, 5, 13] (fun s3 _ i wr => ∃ k : Nat, k ≤ n ∧ i = .int .i64 k ∧ s3 = .int .u64 (lim (l.take k) : Int) ∧ RowKit.Below w.heap.size w wr) (fun _ _ i _ => n - (intOf i).toNat)
  case atStart => exact ⟨0, Nat.zero_le _, rfl, rfl, RowKit.Below.refl _ _⟩
  case round =>
    obtain ⟨k, hk, rfl, rfl, hb⟩ := hrel
    by_cases hlt : k < n
    · obtain ⟨ct, ch⟩ := HT.out wr hb k hlt
      have HS := Lib.hid (HX.out k hlt)
      generalize lim (l.take k) = m at HS
      generalize (wat l k).t = t at ct HS
      cases hh : (wat l k).h
      · rw [hh] at HS ch
        have HS2 : Hid (lim (l.take (k + 1)) = min m t) := HS.out
        clear HS
        go_wp2
        go_roundw
        case rel => exact ⟨k + 1, by omega, by go_num, by rw [HS2.out]; go_num, hb.alloc hb.size _⟩
        case measure => simp [intOf]; omega
      · rw [hh] at HS ch
        have HS2 : Hid (lim (l.take (k + 1)) = m) := HS.out
        clear HS
        go_wp2
        go_roundw
        case rel => exact ⟨k + 1, by omega, by go_num, by rw [HS2.out], hb.alloc hb.size _⟩
        case measure => simp [intOf]; omega
    · obtain rfl : k = n := by omega
      go_wp2
      go_ret
      exact ⟨by rw [HE.out]; rfl, hb⟩

theorem may_any (h : GrAt w base g q me l) (hl : l.length ≤ 64) (u : Nat) : Calls Try.prog 17 #[gptr g, .int .u64 (u : Int)] w fun e w' => e = .returned (.bool (decide (0 < u) && decide (u ≤ lim l))) ∧ RowKit.Below w.heap.size w w' := by
  have hh := limit_any h hl
  clear h
  unfold gptr at hh ⊢
  generalize lim l = m at hh ⊢
  rcases Nat.eq_zero_or_pos u with rfl | hu
  · go_enter Try.func17, Try.ntmps17
    go_wp2
    go_ret
    exact ⟨rfl, RowKit.Below.refl _ _⟩
  · have HE : Hid ((decide (0 < u) && decide (u ≤ m)) = decide (u ≤ m)) := by show _ = _; rw [decide_eq_true hu, Bool.true_and]
    have h1 : (1 : Int) ≤ (u : Int) := by omega
    clear hu
    go_enter Try.func17, Try.ntmps17
    go_wp2_with (go_at_call 15; refine hh.mono ?_; rintro e w' ⟨rfl, hb⟩)
    go_ret
    exact ⟨by rw [HE.out]; simp, hb⟩
theorem left_any (h : GrAt w base g q me l) (hl : l.length ≤ 64) (u : Nat) (hu : u < 18446744073709551616) : Calls Try.prog 18 #[gptr g, .int .u64 (u : Int)] w fun e w' => e = .returned (.int .u64 ((lim l - u : Nat) : Int)) ∧ RowKit.Below w.heap.size w w' := by
  have hh := limit_any h hl
  have hm := lim_max l
  clear h
  unfold gptr at hh ⊢
  generalize lim l = m at hh hm ⊢
  have HE : Hid (((m - u : Nat) : Int) = (m : Int) - min (u : Int) (m : Int)) := by show _ = _; omega
  have h1 : 0 ≤ (m : Int) - min (u : Int) (m : Int) := by omega
  have h2 : (m : Int) - min (u : Int) (m : Int) < 18446744073709551616 := by omega
  go_enter Try.func18, Try.ntmps18
  go_wp2_with (go_at_call 15; refine hh.mono ?_; rintro e w' ⟨rfl, hb⟩)
  go_ret
  exact ⟨by rw [HE.out]; rfl, hb⟩
end

/-! ### Gone -/
theorem gone_nil (b : Nat) (P : Int) (w : World) (hc : w.cell? ⟨b, 0, none⟩ = some (.int .i64 P)) : Calls Try.prog 11 #[.pointer none, .slice (some ⟨b, 0, none⟩) 1 1] w fun e w' => e = .returned (.int .i64 0) ∧ w = w' := by
  have hh : ∀ W, Calls Try.prog 21 #[.pointer none, .int .i64 P] W fun e w' => e = .returned (.bool false) ∧ W = w' := has_nil P
  go_enter Try.func11, Try.ntmps11
  go_wp2
  go_loopw [5, 7, 10] (fun s5 _ i wr => ∃ k : Nat, k ≤ 1 ∧ i = .int .i64 k ∧ s5 = .int .i64 0 ∧ wr = w) (fun _ _ i _ => 1 - (intOf i).toNat)
  case atStart => exact ⟨0, Nat.zero_le _, rfl, rfl, rfl⟩
  case round =>
    obtain ⟨k, hk, rfl, rfl, rfl⟩ := hrel
    rcases (by omega : k = 0 ∨ k = 1) with rfl | rfl
    · go_wp2_with (go_at_call 21; refine (hh _).mono ?_; rintro e w' ⟨rfl, rfl⟩)
      go_roundw
      case rel => exact ⟨1, by omega, by go_num, rfl, trivial⟩
      case measure => simp [intOf]
    · go_wp2
      go_ret
      exact ⟨rfl, rfl⟩

section
variable {w : World} {base g q me : Nat} {l : List Wd}
set_option maxHeartbeats 800000 in
theorem gone_any (h : GrAt w base g q me l) (b : Nat) (P : Int) (hc : w.cell? ⟨b, 0, none⟩ = some (.int .i64 P)) : Calls Try.prog 11 #[gptr g, .slice (some ⟨b, 0, none⟩) 1 1] w fun e w' => e = .returned (.int .i64 (goneN l me P : Int)) ∧ GrAt w' base g q me (goneL l me P) ∧ OnlyE w w' (fun b => b = q) := by
  have hh := has_any h P
  have H := Lib.hid h
  unfold gptr at hh ⊢
  have HG : ∀ W, W = w → Calls Try.prog 21 #[.pointer (some ⟨g, 0, none⟩), .int .i64 P] W fun e w' => e = .returned (.bool (hasB l P)) ∧ W = w' := fun W e => e ▸ hh
  clear hh
  go_enter Try.func11, Try.ntmps11
  clear h
  go_wp2
  go_loopw [5, 7, 10] (fun s5 _ i wr => ∃ k : Nat, i = .int .i64 k ∧ ((k = 0 ∧ s5 = .int .i64 0 ∧ wr = w) ∨ (k = 1 ∧ s5 = .int .i64 (goneN l me P : Int) ∧ Hid (GrAt wr base g q me (goneL l me P) ∧ OnlyE w wr (fun b => b = q))))) (fun _ _ i _ => 1 - (intOf i).toNat)
  case atStart => exact ⟨0, rfl, .inl ⟨rfl, rfl, rfl⟩⟩
  case round =>
    obtain ⟨k, rfl, ⟨rfl, rfl, rfl⟩ | ⟨rfl, rfl, hE⟩⟩ := hrel
    · have hh := HG wr rfl
      clear HG
      by_cases hp : hasB l P = true
      · obtain ⟨j, rfl, hj⟩ := hasB_iff.1 hp
        have HJ := Lib.hid hj
        have c0 := H.out.c0
        have c1 := H.out.c1
        have ch := H.out.h hj
        have f1 := H.out.fr (j * 2 + 1)
        rw [hp] at hh
        by_cases hm : j = me
        · have HB : Hid (goneB l me (j : Int) = false) := by show _ = _; unfold goneB; rw [hp, Int.toNat_natCast, decide_eq_false (by simpa using hm)]; rfl
          have HL : Hid (goneL l me (j : Int) = l) := by show _ = _; unfold goneL; rw [HB.out]; rfl
          have HN : Hid (goneN l me (j : Int) = 0) := by show _ = _; unfold goneN; rw [HB.out]; rfl
          have hne : ((j : Int) != (me : Int)) = false := by simp [hm]
          generalize l.length = n at c0 hj
          clear hp hm
          go_wp2_with (go_at_call 21; refine hh.mono ?_; rintro e w' ⟨rfl, rfl⟩)
          go_roundw
          case rel => exact ⟨1, by go_num, .inr ⟨rfl, by rw [HN.out]; rfl, by rw [HL.out]; exact ⟨H.out, OnlyE.refl _ _⟩⟩⟩
          case measure => simp [intOf]
        · have hne : ((j : Int) != (me : Int)) = true := by simp; omega
          cases hx : (wat l j).h
          · have HB : Hid (goneB l me (j : Int) = true) := by show _ = _; unfold goneB; rw [hp, Int.toNat_natCast, decide_eq_true hm, hx]; rfl
            have HL : Hid (goneL l me (j : Int) = l.set j ⟨(wat l j).t, true⟩) := by show _ = _; unfold goneL; rw [if_pos HB.out, Int.toNat_natCast]
            have HN : Hid (goneN l me (j : Int) = 1) := by show _ = _; unfold goneN; rw [HB.out]; rfl
            rw [hx] at ch
            generalize l.length = n at c0 hj
            clear hp hm hx
            go_wp2_with (go_at_call 21; refine hh.mono ?_; rintro e w' ⟨rfl, rfl⟩)
            go_roundw
            case rel => exact ⟨1, by go_num, .inr ⟨rfl, by rw [HN.out]; rfl, by rw [HL.out]; exact ⟨H.out.setH HJ.out true, onlyE_set (D := fun b => b = q) rfl _ _⟩⟩⟩
            case measure => simp [intOf]
          · have HB : Hid (goneB l me (j : Int) = false) := by show _ = _; unfold goneB; rw [hp, Int.toNat_natCast, decide_eq_true hm, hx]; rfl
            have HL : Hid (goneL l me (j : Int) = l) := by show _ = _; unfold goneL; rw [HB.out]; rfl
            have HN : Hid (goneN l me (j : Int) = 0) := by show _ = _; unfold goneN; rw [HB.out]; rfl
            rw [hx] at ch
            generalize l.length = n at c0 hj
            clear hp hm hx
            go_wp2_with (go_at_call 21; refine hh.mono ?_; rintro e w' ⟨rfl, rfl⟩)
            go_roundw
            case rel => exact ⟨1, by go_num, .inr ⟨rfl, by rw [HN.out]; rfl, by rw [HL.out]; exact ⟨H.out, OnlyE.refl _ _⟩⟩⟩
            case measure => simp [intOf]
      · rw [Bool.not_eq_true] at hp
        have HB : Hid (goneB l me P = false) := by show _ = _; unfold goneB; rw [hp]; rfl
        have HL : Hid (goneL l me P = l) := by show _ = _; unfold goneL; rw [HB.out]; rfl
        have HN : Hid (goneN l me P = 0) := by show _ = _; unfold goneN; rw [HB.out]; rfl
        rw [hp] at hh
        clear hp
        go_wp2_with (go_at_call 21; refine hh.mono ?_; rintro e w' ⟨rfl, rfl⟩)
        go_roundw
        case rel => exact ⟨1, by go_num, .inr ⟨rfl, by rw [HN.out]; rfl, by rw [HL.out]; exact ⟨H.out, OnlyE.refl _ _⟩⟩⟩
        case measure => simp [intOf]
    · clear HG
      go_wp2
      go_ret
      exact ⟨rfl, hE.out⟩
end

end Go.Proofs.Ytenaoinkjdaoeaa
