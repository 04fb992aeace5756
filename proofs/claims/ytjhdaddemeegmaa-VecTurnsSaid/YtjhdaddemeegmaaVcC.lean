/- The walks of everywhere, Covers and Same: they only read. -/
import Derived.Test.YtjhdaddemeegmaaVcA
namespace Go.Proofs.Ytjhdaddemeegmaa
open Go.RowKit

/-- Something holds between the numbers of two vectors, for each process that either has a number for. -/
def EveryTo (p : Nat → Nat → Bool) (a b : List Nat) (m : Nat) : Prop := ∀ i, i < m → p (num a i) (num b i) = true
def Every (p : Nat → Nat → Bool) (a b : List Nat) : Prop := EveryTo p a b (max a.length b.length)

open Classical in
noncomputable def everyB (p : Nat → Nat → Bool) (a : List Nat) (ls : List (List Nat)) : Bool := decide (∀ b ∈ ls, Every p a b)

theorem everyB_iff (p : Nat → Nat → Bool) (a : List Nat) (ls : List (List Nat)) : everyB p a ls = true ↔ ∀ b ∈ ls, Every p a b := by unfold everyB; simp
theorem everyB_false {p : Nat → Nat → Bool} {a : List Nat} {ls : List (List Nat)} {b : List Nat} (hb : b ∈ ls) {i m : Nat} (hm : max a.length b.length = m) (hi : i < m) (h : p (num a i) (num b i) = false) : everyB p a ls = false := by
  rw [Bool.eq_false_iff, Ne, everyB_iff]
  intro hall
  have := hall b hb i (by rw [hm]; exact hi)
  rw [h] at this
  cases this

theorem EveryTo.zero (p : Nat → Nat → Bool) (a b : List Nat) : EveryTo p a b 0 := fun _ h => absurd h (by omega)
theorem EveryTo.next {p : Nat → Nat → Bool} {a b : List Nat} {m : Nat} (h : EveryTo p a b m) (hm : p (num a m) (num b m) = true) : EveryTo p a b (m + 1) := fun i hi => by
  by_cases e : i = m
  · subst e; exact hm
  · exact h i (by omega)

set_option maxHeartbeats 1600000 in
theorem everywhere_any (p : Nat → Nat → Bool) (g : Nat) (eg : ∀ args w, (callFunc g args).run Try.prog w = .ok (.enter g args) w)
    (hg : ∀ (x y : Nat) (W : World), Calls Try.prog g #[.int .u64 (x : Int), .int .u64 (y : Int)] W fun e w' => e = .returned (.bool (p x y)) ∧ W = w')
    (A : Option Addr) (n c : Nat) (B : Nat) (a : List Nat) (A2 : Option Addr) (m c2 : Nat) (vs : List Value) (ls : List (List Nat)) (w : World) (hn : n ≤ 1000) (hm : m ≤ 1000) (hlong : ∀ b ∈ ls, b.length ≤ 1000) (hl : a.length = n) (h : Lies w B A (uvs a)) (hl2 : vs.length = m) (h2 : Lies w B A2 vs) (hr : VecRows w B vs ls) :
    Calls Try.prog 29 #[.slice A n c, .slice A2 m c2, .func (.func g) #[] #[]] w fun e w' => e = .returned (.bool (everyB p a ls)) ∧ w = w' := by
  have HL := Lib.hid hl
  have HL2 := Lib.hid hl2
  have HR := Lib.hid hr
  have HG := Lib.hid hg
  have HLG := Lib.hid hlong
  clear hl hl2 hr hg hlong
  go_enter Try.func29, Try.ntmps29
  go_wp2
  go_loop [8, 9, 12] (fun _ _ i => ∃ k : Nat, k ≤ m ∧ i = .int .i64 k ∧ Hid (∀ b ∈ ls.take k, Every p a b)) (fun _ _ i => m - (intOf i).toNat)
  case atStart => exact ⟨0, Nat.zero_le _, rfl, by show ∀ b ∈ ls.take 0, _; simp⟩
  case round =>
    obtain ⟨k, hk, rfl, hK⟩ := hrel
    by_cases hlt : k < m
    · have hk1 : k < vs.length := by rw [HL2.out]; exact hlt
      have hk2 : k < ls.length := by rw [← HR.out.1]; exact hk1
      have hmem : ls[k] ∈ ls := List.getElem_mem hk2
      obtain ⟨Ar, nr, cr, hvr, hlr, _, _, hLr⟩ := HR.out.2 k hk1 hk2
      obtain ⟨b, off, rfl, hb, hc⟩ := h2.at_ (List.getElem?_eq_getElem hk1)
      rw [hvr] at hc
      have hnr : nr ≤ 1000 := by rw [← hlr]; exact HLG.out _ hmem
      have HN : Hid (∀ b' ∈ ls.take (k + 1), b' = ls[k] ∨ b' ∈ ls.take k) := fun b' hb' => by
        rw [List.take_succ_eq_append_getElem hk2, List.mem_append] at hb'
        rcases hb' with h1 | h1
        · exact .inr h1
        · simp at h1; exact .inl h1
      have hA1 : Hid (∀ j, Calls Try.prog 13 #[.slice A n c, .int .i64 (j : Nat)] w fun e w' => e = .returned (.int .u64 (num a j : Int)) ∧ w = w') := fun j => at_nat A n c j B a w HL.out h
      have hA2 : Hid (∀ j, Calls Try.prog 13 #[.slice Ar nr cr, .int .i64 (j : Nat)] w fun e w' => e = .returned (.int .u64 (num ls[k] j : Int)) ∧ w = w') := fun j => at_nat Ar nr cr j B ls[k] w hlr hLr
      have HLR := Lib.hid hlr
      clear hvr hlr hLr
      generalize ls[k] = row at hmem hA2 HN HLR
      obtain ⟨mx, hmx⟩ : ∃ mx, mx = max n nr := ⟨_, rfl⟩
      have hmx1 : mx ≤ 1000 := by omega
      have HMX : Hid (max a.length row.length = mx) := by show _ = _; rw [HL.out, HLR.out, hmx]
      have HMEM := Lib.hid hmem
      have e1 : (if (n : Int) < (nr : Int) then (nr : Int) else (n : Int)) = (mx : Int) := by split <;> omega
      clear hmem
      by_cases hnn : n < nr
      · obtain rfl : mx = nr := by omega
        clear hmx e1
        go_wp2
        go_loop [9, 21] (fun _ s21 => ∃ (j : Nat), j ≤ mx ∧ s21 = .int .i64 j ∧ Hid (EveryTo p a row j)) (fun _ s21 => mx - (intOf s21).toNat)
        case atStart => exact ⟨0, Nat.zero_le _, rfl, EveryTo.zero p a row⟩
        case round =>
          obtain ⟨j, hj, rfl, hJ⟩ := hrel
          by_cases hjl : j < mx
          · have c1 := hA1.out j
            have c2 := hA2.out j
            have c3 := HG.out (num a j) (num row j) w
            have K1 : Hid (p (num a j) (num row j) = true → EveryTo p a row (j + 1)) := fun hq => hJ.out.next hq
            have K2 : Hid (p (num a j) (num row j) = false → everyB p a ls = false) := fun hq => everyB_false HMEM.out HMX.out hjl hq
            clear hJ
            generalize num a j = x at c1 c3 K1 K2
            generalize num row j = y at c2 c3 K1 K2
            generalize hq : p x y = q at c3 K1 K2
            cases q with
            | true =>
              go_wp2_with fail
              refine c1.mono ?_
              rintro e w1 ⟨rfl, rfl⟩
              go_wp2_with fail
              refine c2.mono ?_
              rintro e w1 ⟨rfl, rfl⟩
              go_wp2_with fail
              go_at_fn g
              refine c3.mono ?_
              rintro e w1 ⟨rfl, rfl⟩
              go_wp2
              go_round
              case rel => exact ⟨j + 1, by omega, by go_num, K1.out (by simp)⟩
              case measure => simp [intOf]; omega
            | false =>
              go_wp2_with fail
              refine c1.mono ?_
              rintro e w1 ⟨rfl, rfl⟩
              go_wp2_with fail
              refine c2.mono ?_
              rintro e w1 ⟨rfl, rfl⟩
              go_wp2_with fail
              go_at_fn g
              refine c3.mono ?_
              rintro e w1 ⟨rfl, rfl⟩
              go_wp2
              go_ret
              exact ⟨by rw [K2.out (by simp)]; rfl, rfl⟩
          · have hjm : j = mx := by omega
            subst hjm
            have HK : Hid (∀ b ∈ ls.take (k + 1), Every p a b) := fun b' hb' => by
              rcases HN.out b' hb' with rfl | h1
              · unfold Every; rw [HMX.out]; exact hJ.out
              · exact hK.out b' h1
            go_wp2
            go_round
            case rel => exact ⟨k + 1, by omega, by go_num, HK⟩
            case measure => simp [intOf]; omega
      · obtain rfl : mx = n := by omega
        clear hmx e1
        go_wp2
        go_loop [9, 21] (fun _ s21 => ∃ (j : Nat), j ≤ mx ∧ s21 = .int .i64 j ∧ Hid (EveryTo p a row j)) (fun _ s21 => mx - (intOf s21).toNat)
        case atStart => exact ⟨0, Nat.zero_le _, rfl, EveryTo.zero p a row⟩
        case round =>
          obtain ⟨j, hj, rfl, hJ⟩ := hrel
          by_cases hjl : j < mx
          · have c1 := hA1.out j
            have c2 := hA2.out j
            have c3 := HG.out (num a j) (num row j) w
            have K1 : Hid (p (num a j) (num row j) = true → EveryTo p a row (j + 1)) := fun hq => hJ.out.next hq
            have K2 : Hid (p (num a j) (num row j) = false → everyB p a ls = false) := fun hq => everyB_false HMEM.out HMX.out hjl hq
            clear hJ
            generalize num a j = x at c1 c3 K1 K2
            generalize num row j = y at c2 c3 K1 K2
            generalize hq : p x y = q at c3 K1 K2
            cases q with
            | true =>
              go_wp2_with fail
              refine c1.mono ?_
              rintro e w1 ⟨rfl, rfl⟩
              go_wp2_with fail
              refine c2.mono ?_
              rintro e w1 ⟨rfl, rfl⟩
              go_wp2_with fail
              go_at_fn g
              refine c3.mono ?_
              rintro e w1 ⟨rfl, rfl⟩
              go_wp2
              go_round
              case rel => exact ⟨j + 1, by omega, by go_num, K1.out (by simp)⟩
              case measure => simp [intOf]; omega
            | false =>
              go_wp2_with fail
              refine c1.mono ?_
              rintro e w1 ⟨rfl, rfl⟩
              go_wp2_with fail
              refine c2.mono ?_
              rintro e w1 ⟨rfl, rfl⟩
              go_wp2_with fail
              go_at_fn g
              refine c3.mono ?_
              rintro e w1 ⟨rfl, rfl⟩
              go_wp2
              go_ret
              exact ⟨by rw [K2.out (by simp)]; rfl, rfl⟩
          · have hjm : j = mx := by omega
            subst hjm
            have HK : Hid (∀ b ∈ ls.take (k + 1), Every p a b) := fun b' hb' => by
              rcases HN.out b' hb' with rfl | h1
              · unfold Every; rw [HMX.out]; exact hJ.out
              · exact hK.out b' h1
            go_wp2
            go_round
            case rel => exact ⟨k + 1, by omega, by go_num, HK⟩
            case measure => simp [intOf]; omega
    · have HA : Hid (everyB p a ls = true) := (everyB_iff p a ls).2 (by
        have := hK.out
        rw [List.take_of_length_le (by rw [← HR.out.1, HL2.out]; omega)] at this
        exact this)
      go_wp2
      go_ret
      exact ⟨by rw [HA.out]; rfl, rfl⟩

noncomputable def coversB (a : List Nat) (ls : List (List Nat)) : Bool := everyB (fun x y => decide (y ≤ x)) a ls
noncomputable def sameB (a : List Nat) (ls : List (List Nat)) : Bool := everyB (fun x y => decide (x = y)) a ls

theorem coversB_iff (a : List Nat) (ls : List (List Nat)) : coversB a ls = true ↔ ∀ b ∈ ls, ∀ i, num b i ≤ num a i := by
  unfold coversB
  rw [everyB_iff]
  refine forall₂_congr fun b _ => ?_
  constructor
  · intro h i
    by_cases hi : i < max a.length b.length
    · simpa using h i hi
    · rw [num_out (l := b) (by omega)]; omega
  · intro h i _
    simpa using h i

theorem sameB_iff (a : List Nat) (ls : List (List Nat)) : sameB a ls = true ↔ ∀ b ∈ ls, ∀ i, num a i = num b i := by
  unfold sameB
  rw [everyB_iff]
  refine forall₂_congr fun b _ => ?_
  constructor
  · intro h i
    by_cases hi : i < max a.length b.length
    · simpa using h i hi
    · rw [num_out (l := b) (by omega), num_out (l := a) (by omega)]
  · intro h i _
    simpa using h i

theorem covers_any (A : Option Addr) (n c : Nat) (B : Nat) (a : List Nat) (A2 : Option Addr) (m c2 : Nat) (vs : List Value) (ls : List (List Nat)) (w : World) (hn : n ≤ 1000) (hm : m ≤ 1000) (hlong : ∀ b ∈ ls, b.length ≤ 1000) (hl : a.length = n) (h : Lies w B A (uvs a)) (hl2 : vs.length = m) (h2 : Lies w B A2 vs) (hr : VecRows w B vs ls) :
    Calls Try.prog 23 #[.slice A n c, .slice A2 m c2] w fun e w' => e = .returned (.bool (coversB a ls)) ∧ w = w' := by
  have hf := everywhere_any _ 30 (enters_of Try.func30 (by kernel_rfl) rfl) coversF_any A n c B a A2 m c2 vs ls w hn hm hlong hl h hl2 h2 hr
  clear hl h hr hl2 h2 hlong
  unfold coversB
  generalize everyB _ a ls = q at hf ⊢
  go_enter Try.func23, Try.ntmps23
  go_wp2_with fail
  refine hf.mono ?_
  rintro e w1 ⟨rfl, rfl⟩
  go_wp2
  go_ret
  exact ⟨rfl, rfl⟩

theorem same_any (A : Option Addr) (n c : Nat) (B : Nat) (a : List Nat) (A2 : Option Addr) (m c2 : Nat) (vs : List Value) (ls : List (List Nat)) (w : World) (hn : n ≤ 1000) (hm : m ≤ 1000) (hlong : ∀ b ∈ ls, b.length ≤ 1000) (hl : a.length = n) (h : Lies w B A (uvs a)) (hl2 : vs.length = m) (h2 : Lies w B A2 vs) (hr : VecRows w B vs ls) :
    Calls Try.prog 24 #[.slice A n c, .slice A2 m c2] w fun e w' => e = .returned (.bool (sameB a ls)) ∧ w = w' := by
  have hf := everywhere_any _ 31 (enters_of Try.func31 (by kernel_rfl) rfl) sameF_any A n c B a A2 m c2 vs ls w hn hm hlong hl h hl2 h2 hr
  clear hl h hr hl2 h2 hlong
  unfold sameB
  generalize everyB _ a ls = q at hf ⊢
  go_enter Try.func24, Try.ntmps24
  go_wp2_with fail
  refine hf.mono ?_
  rintro e w1 ⟨rfl, rfl⟩
  go_wp2
  go_ret
  exact ⟨rfl, rfl⟩

end Go.Proofs.Ytjhdaddemeegmaa
