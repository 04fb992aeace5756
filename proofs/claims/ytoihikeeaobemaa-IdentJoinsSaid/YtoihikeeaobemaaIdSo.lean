/- The walks of the document's own in and Sort. -/
import Derived.Test.YtoihikeeaobemaaIdN
import Derived.Test.YtoihikeeaobemaaIdP
namespace Go.Proofs.Ytoihikeeaobemaa
open Go.RowKit Go.Sort

def inL (x : Id) (l : List Id) : Bool := decide (x ∈ l)

set_option maxHeartbeats 800000 in
theorem refIn_any (A : Option Addr) (n c : Nat) (l : List Id) (x : Id) (w : World) (hl : l.length = n) (hn : n ≤ 1000) (h : Lies w w.heap.size A (flat encId l)) :
    Calls Try.prog 40 #[.slice A n c, valId x] w fun e w' => e = .returned (.bool (inL x l)) ∧ RowKit.Below w.heap.size w w' := by
  have mixed := mixedOrders
  have hGd := guardId
  unfold inL
  generalize hD : decide (x ∈ l) = D
  have HD := Lib.hid hD
  have HL := Lib.hid hl
  clear hD hl
  unfold valId
  go_enter Try.func40, Try.ntmps40
  go_wp2
  generalize hw0 : World.alloc w _ = w0
  obtain ⟨hs0, hG, hcc⟩ := box1 w w0 _ _ hw0
  have i0 : w0.cell? ⟨w.heap.size, 0, none⟩ = some (.int .u8 (x.f : Int)) := hcc 0 _ rfl
  have i1 : w0.cell? ⟨w.heap.size, 1, none⟩ = some (.int .u64 (x.s : Int)) := hcc 1 _ rfl
  have hb00 := hG.below
  have h0 := h.on hb00
  have hs1 : w.heap.size < w0.heap.size := by omega
  clear hcc hw0 hG h hs0
  go_loopw [5, 8] (fun _ i wr => ∃ k : Nat, k ≤ n ∧ i = .int .i64 k ∧ RowKit.Below w0.heap.size w0 wr ∧ Hid (x ∉ l.take k)) (fun _ i _ => n - (intOf i).toNat)
  case atStart => exact ⟨0, Nat.zero_le _, rfl, RowKit.Below.refl _ _, by show x ∉ l.take 0; simp⟩
  case round =>
    obtain ⟨k, hk, rfl, hb, hT⟩ := hrel
    have hbw : RowKit.Below w.heap.size w wr := hb00.trans (hb.mono hb00.size)
    by_cases hlt : k < n
    · have hkl : k < l.length := by rw [HL.out]; exact hlt
      obtain ⟨b1, o1, rfl, hl1, x0, x1⟩ := (h0.below hb).id hkl
      have hw1 : b1 < wr.heap.size := Nat.lt_of_lt_of_le hl1 hb.size
      have hE := eqlId l[k] x
      have K1 : Hid (decide (l[k] = x) = true → D = true) := fun he => by
        rw [← HD.out]
        exact decide_eq_true (by rw [← of_decide_eq_true he]; exact List.getElem_mem hkl)
      have K2 : Hid (decide (l[k] = x) = false → x ∉ l.take (k + 1)) := fun he hm => by
        rw [List.take_succ_eq_append_getElem hkl, List.mem_append] at hm
        rcases hm with h1 | h1
        · exact hT.out h1
        · simp at h1; exact of_decide_eq_false he h1.symm
      generalize l[k] = y at x0 x1 K1 K2 hE
      have p0 := later_cell (w0 := wr) (b := b1) hw1 x0
      have p1 := later_cell (w0 := wr) (b := b1) hw1 x1
      have q0 := later_cell (w0 := wr) (b := w.heap.size) (Nat.lt_of_lt_of_le hs1 hb.size) ((hb.cell (p := ⟨w.heap.size, _, none⟩) hs1).trans i0)
      have q1 := later_cell (w0 := wr) (b := w.heap.size) (Nat.lt_of_lt_of_le hs1 hb.size) ((hb.cell (p := ⟨w.heap.size, _, none⟩) hs1).trans i1)
      clear x0 x1 i0 i1
      generalize decide (y = x) = de at hE K1 K2
      cases de with
      | true =>
        have HR : Hid (D = true) := K1.out rfl
        go_wp2_with fail
        refine wp_region_later mixed (by kernel_rfl) ?_
        repeat (go_big_quiet_step (fail))
        refine wpQuiet_nil ?_
        intro _ hw'
        obtain ⟨p, rfl⟩ := hw'
        go_wp2
        go_ret
        rw [HR.out]
        exact ⟨rfl, hbw.trans (p.hb.mono hbw.size)⟩
      | false =>
        have HN : Hid (x ∉ l.take (k + 1)) := K2.out rfl
        go_wp2_with fail
        refine wp_region_later mixed (by kernel_rfl) ?_
        repeat (go_big_quiet_step (fail))
        refine wpQuiet_nil ?_
        intro _ hw'
        obtain ⟨p, rfl⟩ := hw'
        have hbp : RowKit.Below w0.heap.size w0 p.w := hb.trans (p.hb.mono hb.size)
        go_wp2
        go_roundw
        case rel => exact ⟨k + 1, by omega, by go_num, hbp, HN⟩
        case measure => simp [intOf]; omega
    · have HR : Hid (D = false) := by
        show D = false
        rw [← HD.out]
        refine decide_eq_false fun hm => hT.out ?_
        rwa [List.take_of_length_le (by rw [HL.out]; omega)]
      go_wp2
      go_ret
      rw [HR.out]
      exact ⟨rfl, hbw⟩

/-! ### The least one that isn't there, again and again -/
structure SortInv (l out : List Id) : Prop where
  strict : out.Pairwise lt
  sub : ∀ x ∈ out, x ∈ l ∧ mayB x = true
  low : ∀ y ∈ l, mayB y = true → y ∉ out → ∀ x ∈ out, lt x y

def candB (out : List Id) (y : Id) : Bool := mayB y && !inL y out

theorem cand_iff (out : List Id) (y : Id) : candB out y = true ↔ mayB y = true ∧ y ∉ out := by
  unfold candB inL
  simp

/-- The best of the first i: none, or the least. -/
def BestTo (l out : List Id) (i : Nat) (b : Int) : Prop :=
  (b = -1 ∧ ∀ y ∈ l.take i, candB out y = false) ∨ ∃ k, ∃ hk : k < l.length, b = (k : Int) ∧ k < i ∧ candB out l[k] = true ∧ ∀ y ∈ l.take i, candB out y = true → ¬ lt y l[k]

theorem best_skip {l out : List Id} {i : Nat} {b : Int} (h : BestTo l out i b) (hi : i < l.length) (hc : candB out l[i] = false) : BestTo l out (i + 1) b := by
  rcases h with ⟨rfl, h⟩ | ⟨k, hk, rfl, hki, hck, h⟩
  · refine .inl ⟨rfl, fun y hy => ?_⟩
    rw [List.take_succ_eq_append_getElem hi, List.mem_append] at hy
    rcases hy with h1 | h1
    · exact h y h1
    · simp at h1; subst h1; exact hc
  · refine .inr ⟨k, hk, rfl, by omega, hck, fun y hy hcy => ?_⟩
    rw [List.take_succ_eq_append_getElem hi, List.mem_append] at hy
    rcases hy with h1 | h1
    · exact h y h1 hcy
    · simp at h1; subst h1; rw [hc] at hcy; cases hcy

theorem best_first {l out : List Id} {i : Nat} (h : BestTo l out i (-1)) (hi : i < l.length) (hc : candB out l[i] = true) : BestTo l out (i + 1) (i : Int) := by
  refine .inr ⟨i, hi, rfl, by omega, hc, fun y hy hcy => ?_⟩
  rcases h with ⟨_, h⟩ | ⟨k, _, hb, _⟩
  · rw [List.take_succ_eq_append_getElem hi, List.mem_append] at hy
    rcases hy with h1 | h1
    · rw [h y h1] at hcy; cases hcy
    · simp at h1; subst h1; exact lt_irrefl _
  · omega

theorem best_less {l out : List Id} {i k : Nat} (h : BestTo l out i (k : Int)) (hi : i < l.length) (hk : k < l.length) (hc : candB out l[i] = true) (hl : lt l[i] l[k]) : BestTo l out (i + 1) (i : Int) := by
  refine .inr ⟨i, hi, rfl, by omega, hc, fun y hy hcy => ?_⟩
  rcases h with ⟨hb, _⟩ | ⟨k', hk', hb, _, _, h⟩
  · omega
  · obtain rfl : k = k' := by omega
    rw [List.take_succ_eq_append_getElem hi, List.mem_append] at hy
    rcases hy with h1 | h1
    · exact fun hlt => h y h1 hcy (lt_trans hlt hl)
    · simp at h1; subst h1; exact lt_irrefl _

theorem best_keep {l out : List Id} {i k : Nat} (h : BestTo l out i (k : Int)) (hi : i < l.length) (hk : k < l.length) (hl : ¬ lt l[i] l[k]) : BestTo l out (i + 1) (k : Int) := by
  rcases h with ⟨hb, _⟩ | ⟨k', hk', hb, hki, hck, h⟩
  · omega
  · obtain rfl : k = k' := by omega
    refine .inr ⟨k, hk, rfl, by omega, hck, fun y hy hcy => ?_⟩
    rw [List.take_succ_eq_append_getElem hi, List.mem_append] at hy
    rcases hy with h1 | h1
    · exact h y h1 hcy
    · simp at h1; subst h1; exact hl

theorem SortInv.nil (l : List Id) : SortInv l [] := ⟨by simp, by simp, by simp⟩

theorem SortInv.done {l out : List Id} (h : SortInv l out) (hb : BestTo l out l.length (-1)) : out = orderedI l := by
  refine (ordered_is h.strict fun x => ⟨fun hx => h.sub x hx, fun ⟨hx, hm⟩ => ?_⟩).symm
  rcases hb with ⟨_, hb⟩ | ⟨k, _, hk, _⟩
  · rw [List.take_length] at hb
    have := hb x hx
    by_cases hxo : x ∈ out
    · exact hxo
    · rw [(cand_iff out x).2 ⟨hm, hxo⟩] at this; cases this
  · omega

theorem SortInv.next {l out : List Id} {k : Nat} (h : SortInv l out) (hb : BestTo l out l.length (k : Int)) (hk : k < l.length) : SortInv l (out ++ [l[k]]) := by
  rcases hb with ⟨hb, _⟩ | ⟨k', hk', hb, _, hck, hmin⟩
  · omega
  · obtain rfl : k = k' := by omega
    obtain ⟨hm, hno⟩ := (cand_iff out l[k]).1 hck
    rw [List.take_length] at hmin
    refine ⟨?_, ?_, ?_⟩
    · rw [List.pairwise_append]
      refine ⟨h.strict, by simp, fun x hx y hy => ?_⟩
      simp at hy
      subst hy
      exact h.low _ (List.getElem_mem hk) hm hno x hx
    · intro x hx
      rw [List.mem_append] at hx
      rcases hx with h1 | h1
      · exact h.sub x h1
      · simp at h1; subst h1; exact ⟨List.getElem_mem hk, hm⟩
    · intro y hy hym hyn x hx
      rw [List.mem_append, not_or] at hyn
      have hyk : y ≠ l[k] := fun he => hyn.2 (by simp [he])
      have hcy := (cand_iff out y).2 ⟨hym, hyn.1⟩
      rw [List.mem_append] at hx
      rcases hx with h1 | h1
      · exact h.low y hy hym hyn.1 x h1
      · simp at h1
        subst h1
        rcases lt_total l[k] y with h2 | h2 | h2
        · exact h2
        · exact absurd h2.symm hyk
        · exact absurd h2 (hmin y hy hcy)

theorem nodup_len : ∀ (out l : List Id), out.Pairwise lt → (∀ x ∈ out, x ∈ l) → out.length ≤ l.length
  | [], _, _, _ => by simp
  | x :: t, l, hs, hsub => by
    rw [List.pairwise_cons] at hs
    obtain ⟨a, b, rfl⟩ := List.append_of_mem (hsub x (by simp))
    have := nodup_len t (a ++ b) hs.2 (fun y hy => by
      have h1 := hsub y (by simp [hy])
      have hne : y ≠ x := fun he => by subst he; exact lt_irrefl _ (hs.1 y hy)
      simp only [List.mem_append, List.mem_cons] at h1 ⊢
      rcases h1 with h1 | h1 | h1
      · exact .inl h1
      · exact absurd h1 hne
      · exact .inr h1)
    simp only [List.length_append, List.length_cons] at this ⊢
    omega

def sliceLen : Value → Nat
  | .slice _ n _ => n
  | _ => 0

set_option maxHeartbeats 3200000 in
theorem refSort_any (A : Option Addr) (n c : Nat) (l : List Id) (w : World) (hl : l.length = n) (hn : n ≤ 100) (h : Lies w w.heap.size A (flat encId l)) :
    Calls Try.prog 24 #[.slice A n c] w (OwnIds w w.heap.size (orderedI l)) := by
  obtain ⟨i0, hi, hz0, hz1, hz2⟩ := info_parts Try.infoID
  have mixed := mixedOrders
  have HL := Lib.hid hl
  clear hl
  go_enter Try.func24, Try.ntmps24
  go_wp2
  have hO := World.ownsRow_made (base := w.heap.size) (size := 2) (e := 24) w #[] 0 (Nat.le_refl _) (Nat.zero_le _) rfl
  generalize hw0 : World.alloc w _ = w0 at hO ⊢
  have hb0 : RowKit.Below w.heap.size w w0 := by rw [← hw0]; exact (RowKit.Below.refl _ _).alloc (Nat.le_refl _) _
  clear hw0
  go_loopw [3, 4, 5, 14] (fun s3 _ _ _ wr => ∃ (out : List Id) (m : Nat) (A3 : Option Addr) (c3 : Nat), s3 = .slice A3 m c3 ∧ Hid (out.length = m) ∧ m ≤ n ∧ Hid (SortInv l out) ∧ wr.ownsRow w.heap.size 24 2 (.slice A3 m c3) m (flat encId out) ∧ RowKit.Below w.heap.size w wr) (fun s3 _ _ _ _ => n + 1 - sliceLen s3)
  case atStart => exact ⟨[], 0, _, _, rfl, rfl, Nat.zero_le _, SortInv.nil l, hO, hb0⟩
  case round =>
    clear hO hb0
    obtain ⟨out, m, A3, c3, rfl, hm, hmn, hS, hown, hbw⟩ := hrel
    have hLo := Lies.of_ownK hown
    have hLl := h.on hbw
    have hzm : (m : Int) ≤ (n : Int) := by omega
    have HO := Lib.hid hown
    clear hown
    generalize hw1 : wr = w1 at *
    clear hw1
    go_wp2
    go_loopw [4, 5, 14] (fun s4 _ s14 ws => ∃ (i : Nat) (b : Int), i ≤ n ∧ s14 = .int .i64 i ∧ s4 = .int .i64 b ∧ RowKit.Below w1.heap.size w1 ws ∧ Hid (BestTo l out i b)) (fun _ _ s14 _ => n - (intOf s14).toNat)
    case atStart => exact ⟨0, -1, Nat.zero_le _, rfl, rfl, RowKit.Below.refl _ _, .inl ⟨rfl, by simp⟩⟩
    case round =>
      obtain ⟨i, b, hin, rfl, rfl, hb, hB⟩ := hrel
      by_cases hlt : i < n
      · have hil : i < l.length := by rw [HL.out]; exact hlt
        obtain ⟨b1, o1, rfl, hl1, x0, x1⟩ := (hLl.below hb).id hil
        have hw1 : b1 < wr.heap.size := Nat.lt_of_lt_of_le hl1 hb.size
        have hLo' := hLo.on hb
        have hm' : m ≤ 1000 := by omega
        have kIn0 := fun (y : Id) (p : Later wr) => later_of (refIn_any A3 m c3 out y p.w hm.out hm' (hLo'.on p.hb))
        have kMay0 := fun (y : Id) (p : Later wr) => later_grew (refMay_any y 64 p.w (by decide))
        have F1 : Hid (candB out l[i] = false → BestTo l out (i + 1) b) := fun hc => best_skip hB.out hil hc
        by_cases hb0 : b = -1
        · subst hb0
          have F2 : Hid (candB out l[i] = true → BestTo l out (i + 1) (i : Int)) := fun hc => best_first hB.out hil hc
          have kMay := kMay0 l[i]
          have kIn := kIn0 l[i]
          rw [may64] at kMay
          unfold candB at F1 F2
          generalize l[i] = y at x0 x1 kMay kIn F1 F2
          have kLess := kMay
          have p0 := later_cell (w0 := wr) (b := b1) hw1 x0
          have p1 := later_cell (w0 := wr) (b := b1) hw1 x1
          unfold valId at kMay kIn kLess
          generalize mayB y = my at kMay F1 F2 kLess
          generalize inL y out = iy at kIn F1 F2
          clear x0 x1 kIn0 kMay0 hB
          cases my with
          | false =>
            have HN : Hid (BestTo l out (i + 1) (-1)) := F1.out rfl
            go_wp2_with fail
            refine wp_region_later mixed (by kernel_rfl) ?_
            repeat (go_big_quiet_step (first | (go_at_call 10; exact kMay _) | (go_at_call 40; exact kIn _) | (go_at_call 12; exact kLess _)))
            refine wpQuiet_nil ?_
            intro _ hw'
            obtain ⟨p, rfl⟩ := hw'
            have hbp : RowKit.Below w1.heap.size w1 p.w := hb.trans (p.hb.mono hb.size)
            go_wp2
            go_roundw
            case rel => exact ⟨i + 1, -1, by omega, by go_num, rfl, hbp, HN⟩
            case measure => simp [intOf]; omega
          | true =>
            cases iy with
            | true =>
              have HN : Hid (BestTo l out (i + 1) (-1)) := F1.out rfl
              go_wp2_with fail
              refine wp_region_later mixed (by kernel_rfl) ?_
              repeat (go_big_quiet_step (first | (go_at_call 10; exact kMay _) | (go_at_call 40; exact kIn _) | (go_at_call 12; exact kLess _)))
              refine wpQuiet_nil ?_
              intro _ hw'
              obtain ⟨p, rfl⟩ := hw'
              have hbp : RowKit.Below w1.heap.size w1 p.w := hb.trans (p.hb.mono hb.size)
              go_wp2
              go_roundw
              case rel => exact ⟨i + 1, -1, by omega, by go_num, rfl, hbp, HN⟩
              case measure => simp [intOf]; omega
            | false =>
              have HN : Hid (BestTo l out (i + 1) (i : Int)) := F2.out rfl
              go_wp2_with fail
              refine wp_region_later mixed (by kernel_rfl) ?_
              repeat (go_big_quiet_step (first | (go_at_call 10; exact kMay _) | (go_at_call 40; exact kIn _) | (go_at_call 12; exact kLess _)))
              refine wpQuiet_nil ?_
              intro _ hw'
              obtain ⟨p, rfl⟩ := hw'
              have hbp : RowKit.Below w1.heap.size w1 p.w := hb.trans (p.hb.mono hb.size)
              go_wp2
              go_roundw
              case rel => exact ⟨i + 1, (i : Int), by omega, by go_num, rfl, hbp, HN⟩
              case measure => simp [intOf]; omega
        · obtain ⟨k, hkb, hkl, hki⟩ : ∃ k : Nat, b = (k : Int) ∧ k < l.length ∧ k < i := by
            rcases hB.out with ⟨h1, _⟩ | ⟨k, hk, h1, h2, _⟩
            · exact absurd h1 hb0
            · exact ⟨k, h1, hk, h2⟩
          subst hkb
          obtain ⟨b2, o2, he2, _, y0, y1⟩ := (hLl.below hb).id hkl
          obtain ⟨rfl, rfl⟩ : b1 = b2 ∧ o1 = o2 := by injection he2 with he2; injection he2 with e1 e2; exact ⟨e1, e2⟩
          have F2 : Hid (candB out l[i] = true → ltB l[i] l[k] = true → BestTo l out (i + 1) (i : Int)) := fun hc hlt => best_less hB.out hil hkl hc ((ltB_lt _ _).1 hlt)
          have F3 : Hid (ltB l[i] l[k] = false → BestTo l out (i + 1) (k : Int)) := fun hlt => best_keep hB.out hil hkl ((ltB_not _ _).1 hlt)
          have kMay := kMay0 l[i]
          have kIn := kIn0 l[i]
          have kLess := fun p : Later wr => later_grew (refLess_any l[i] l[k] p.w)
          rw [may64] at kMay
          unfold candB at F1 F2
          have hkn : k < n := by omega
          generalize l[i] = y at x0 x1 kMay kIn F1 F2 F3 kLess
          generalize l[k] = z at y0 y1 F2 F3 kLess
          have p0 := later_cell (w0 := wr) (b := b1) hw1 x0
          have p1 := later_cell (w0 := wr) (b := b1) hw1 x1
          have q0 := later_cell (w0 := wr) (b := b1) hw1 y0
          have q1 := later_cell (w0 := wr) (b := b1) hw1 y1
          unfold valId at kMay kIn kLess
          generalize mayB y = my at kMay F1 F2
          generalize inL y out = iy at kIn F1 F2
          generalize ltB y z = ly at kLess F2 F3
          have hkz : ¬ ((k : Int) < 0) := by omega
          have hkd : decide ((k : Int) < 0) = false := decide_eq_false hkz
          clear x0 x1 y0 y1 kIn0 kMay0 hB he2 hb0
          cases my with
          | false =>
            have HN : Hid (BestTo l out (i + 1) (k : Int)) := F1.out rfl
            go_wp2_with fail
            refine wp_region_later mixed (by kernel_rfl) ?_
            repeat (go_big_quiet_step (first | (go_at_call 10; exact kMay _) | (go_at_call 40; exact kIn _) | (go_at_call 12; exact kLess _)))
            refine wpQuiet_nil ?_
            intro _ hw'
            obtain ⟨p, rfl⟩ := hw'
            have hbp : RowKit.Below w1.heap.size w1 p.w := hb.trans (p.hb.mono hb.size)
            go_wp2
            go_roundw
            case rel => exact ⟨i + 1, (k : Int), by omega, by go_num, rfl, hbp, HN⟩
            case measure => simp [intOf]; omega
          | true =>
            cases iy with
            | true =>
              have HN : Hid (BestTo l out (i + 1) (k : Int)) := F1.out rfl
              go_wp2_with fail
              refine wp_region_later mixed (by kernel_rfl) ?_
              repeat (go_big_quiet_step (first | (go_at_call 10; exact kMay _) | (go_at_call 40; exact kIn _) | (go_at_call 12; exact kLess _)))
              refine wpQuiet_nil ?_
              intro _ hw'
              obtain ⟨p, rfl⟩ := hw'
              have hbp : RowKit.Below w1.heap.size w1 p.w := hb.trans (p.hb.mono hb.size)
              go_wp2
              go_roundw
              case rel => exact ⟨i + 1, (k : Int), by omega, by go_num, rfl, hbp, HN⟩
              case measure => simp [intOf]; omega
            | false =>
              cases ly with
              | true =>
                have HN : Hid (BestTo l out (i + 1) (i : Int)) := F2.out rfl rfl
                go_wp2_with fail
                refine wp_region_later mixed (by kernel_rfl) ?_
                repeat (go_big_quiet_step (first | (go_at_call 10; exact kMay _) | (go_at_call 40; exact kIn _) | (go_at_call 12; exact kLess _)))
                refine wpQuiet_nil ?_
                intro _ hw'
                obtain ⟨p, rfl⟩ := hw'
                have hbp : RowKit.Below w1.heap.size w1 p.w := hb.trans (p.hb.mono hb.size)
                go_wp2
                go_roundw
                case rel => exact ⟨i + 1, (i : Int), by omega, by go_num, rfl, hbp, HN⟩
                case measure => simp [intOf]; omega
              | false =>
                have HN : Hid (BestTo l out (i + 1) (k : Int)) := F3.out rfl
                go_wp2_with fail
                refine wp_region_later mixed (by kernel_rfl) ?_
                repeat (go_big_quiet_step (first | (go_at_call 10; exact kMay _) | (go_at_call 40; exact kIn _) | (go_at_call 12; exact kLess _)))
                refine wpQuiet_nil ?_
                intro _ hw'
                obtain ⟨p, rfl⟩ := hw'
                have hbp : RowKit.Below w1.heap.size w1 p.w := hb.trans (p.hb.mono hb.size)
                go_wp2
                go_roundw
                case rel => exact ⟨i + 1, (k : Int), by omega, by go_num, rfl, hbp, HN⟩
                case measure => simp [intOf]; omega
      · have hie : i = l.length := by rw [HL.out]; omega
        rw [hie] at hB
        have hbw2 : RowKit.Below w.heap.size w wr := hbw.trans (hb.mono hbw.size)
        have hown := own_below HO.out hb
        rcases hB.out with ⟨rfl, _⟩ | ⟨k, hkl, rfl, _, _, _⟩
        · have HE : Hid (out = orderedI l) := hS.out.done hB.out
          have HO2 := Lib.hid hown
          clear hown
          go_wp2
          go_ret
          rw [← HE.out]
          exact OwnIds.of hm.out HO2.out hbw2
        · have hS2 := Lib.hid (hS.out.next hB.out hkl)
          have hkn : k < n := by rw [← HL.out]; exact hkl
          obtain ⟨b1, o1, rfl, hl1, x0, x1⟩ := (hLl.below hb).id hkl
          generalize l[k] = z at x0 x1 hS2
          have hlen2 : Hid ((out ++ [z]).length = m + 1) := by show _ = _; rw [List.length_append, hm.out]; rfl
          have hm1 : m + 1 ≤ n := by
            have := nodup_len (out ++ [z]) l hS2.out.strict (fun x hx => (hS2.out.sub x hx).1)
            rw [hlen2.out, HL.out] at this
            exact this
          have hap : Hid (flat encId (out ++ [z]) = flat encId out ++ [.int .u8 (z.f : Int), .int .u64 (z.s : Int)]) := by
            show _ = _
            rw [flat_append]
            rfl
          have hbA : RowKit.Below wr.heap.size wr (wr.alloc (.cells #[.int .u8 (z.f : Int), .int .u64 (z.s : Int)] 24)) := (RowKit.Below.refl _ _).alloc (Nat.le_refl _) _
          have hownA := own_below hown hbA
          have hlit := lies_new wr #[.int .u8 (z.f : Int), .int .u64 (z.s : Int)] 24
          have hbrA : RowKit.Below w.heap.size w (wr.alloc (.cells #[.int .u8 (z.f : Int), .int .u64 (z.s : Int)] 24)) := hbw2.trans (hbA.mono hbw2.size)
          have hkz : (0 : Int) ≤ (k : Int) := by omega
          clear hown hbA hB hLo hLl
          go_wp2_with (at_builtin; refine wpList_append_lstK rfl _ _ 39 rfl w.heap.size 2 (by decide) 24 i0 (.agg #[.int .u8 0, .int .u64 0]) 16 Try.underlying39 hi hz0 hz1 hz2 rfl _ m _ rfl hownA _ _ 1 1 [.int .u8 (z.f : Int), .int .u64 (z.s : Int)] rfl rfl hlit (by simp [Value.oneCell']) ?d2 ?d3 hbrA.size ?_)
          case d2 => unfold maxLen; omega
          case d3 => omega
          intro v8 w8 hown8 _ hb8 _
          rw [← hap.out] at hown8
          obtain ⟨A8, c8, rfl, _, _⟩ := own_sliceK hown8
          have HO8 := Lib.hid hown8
          have hb8' : RowKit.Below w.heap.size w w8 := hbrA.trans hb8
          clear hown8 hownA hlit hbrA hb8
          go_wp2
          go_roundw
          case rel => exact ⟨out ++ [z], m + 1, A8, c8, rfl, hlen2, hm1, hS2, HO8.out, hb8'⟩
          case measure => simp [sliceLen]; omega

end Go.Proofs.Ytoihikeeaobemaa
