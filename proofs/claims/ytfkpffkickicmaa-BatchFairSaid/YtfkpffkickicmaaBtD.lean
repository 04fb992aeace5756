/- Numbers of vectors: At, the document's At, Covers, Same, Equal; slices.Clone at numbers. -/
import Derived.Test.YtfkpffkickicmaaBtA
import Derived.Shelf.SlicesE.Clone
namespace Go.Proofs.Ytfkpffkickicmaa
open Go.RowKit

/-- The number of a process, whatever the place. -/
def atI (l : List Nat) (i : Int) : Nat := if i < 0 then 0 else num l i.toNat

theorem atI_nat (l : List Nat) (k : Nat) : atI l (k : Int) = num l k := by unfold atI; rw [if_neg (by omega)]; rfl

set_option maxHeartbeats 400000 in
theorem at_any (A : Option Addr) (n c : Nat) (i : Int) (B : Nat) (l : List Nat) (w : World) (hl : l.length = n) (h : Lies w B A (uvs l)) :
    Calls Try.prog 33 #[.slice A n c, .int .i64 i] w fun e w' => e = .returned (.int .u64 (atI l i : Int)) ∧ w = w' := by
  by_cases h0 : i < 0
  · have e0 : atI l i = 0 := by unfold atI; rw [if_pos h0]
    rw [e0]
    go_enter Try.func33, Try.ntmps33
    go_wp2
    go_ret
    exact ⟨rfl, rfl⟩
  · obtain ⟨k, rfl⟩ : ∃ k : Nat, i = (k : Int) := ⟨i.toNat, by omega⟩
    rw [atI_nat]
    by_cases hk : k < n
    · have hk1 : k < l.length := by rw [hl]; exact hk
      rw [num_in hk1]
      obtain ⟨b, off, rfl, hb, hc⟩ := h.at_ (uvs_at hk1)
      generalize (l[k] : Int) = x at hc
      clear hl
      go_enter Try.func33, Try.ntmps33
      go_wp2
      go_ret
      exact ⟨rfl, rfl⟩
    · rw [num_out (by omega)]
      clear hl
      go_enter Try.func33, Try.ntmps33
      go_wp2
      go_ret
      exact ⟨rfl, rfl⟩

theorem at_nat (A : Option Addr) (n c : Nat) (k : Nat) (B : Nat) (l : List Nat) (w : World) (hl : l.length = n) (h : Lies w B A (uvs l)) :
    Calls Try.prog 33 #[.slice A n c, .int .i64 (k : Int)] w fun e w' => e = .returned (.int .u64 (num l k : Int)) ∧ w = w' := by
  rw [← atI_nat]
  exact at_any A n c k B l w hl h

/-- Something holds between the numbers of two vectors, for each process that either has a number for. -/
def EveryTo (p : Nat → Nat → Bool) (a b : List Nat) (m : Nat) : Prop := ∀ i, i < m → p (num a i) (num b i) = true

def Every (p : Nat → Nat → Bool) (a b : List Nat) : Prop := EveryTo p a b (max a.length b.length)

open Classical in
noncomputable def everyB (p : Nat → Nat → Bool) (a : List Nat) (ls : List (List Nat)) : Bool := decide (∀ b ∈ ls, Every p a b)

theorem everyB_iff (p : Nat → Nat → Bool) (a : List Nat) (ls : List (List Nat)) : everyB p a ls = true ↔ ∀ b ∈ ls, Every p a b := by unfold everyB; simp

theorem everyB_false {p : Nat → Nat → Bool} {a : List Nat} {ls : List (List Nat)} {b : List Nat} (hb : b ∈ ls) {i m : Nat} (hm : max a.length b.length = m) (hi : i < m) (h : p (num a i) (num b i) = false) : everyB p a ls = false := by
  rw [Bool.eq_false_iff, Ne, everyB_iff]
  intro hall
  have := hall b hb i (by rw [hm]; exact hi)
  rw [h] at this
  cases this

theorem EveryTo.zero (p : Nat → Nat → Bool) (a b : List Nat) : EveryTo p a b 0 := fun _ h => absurd h (by omega)

theorem EveryTo.next {p : Nat → Nat → Bool} {a b : List Nat} {m : Nat} (h : EveryTo p a b m) (hm : p (num a m) (num b m) = true) : EveryTo p a b (m + 1) := fun i hi => by
  by_cases e : i = m
  · subst e; exact hm
  · exact h i (by omega)

noncomputable def coversB (a : List Nat) (ls : List (List Nat)) : Bool := everyB (fun x y => decide (y ≤ x)) a ls

noncomputable def sameB (a : List Nat) (ls : List (List Nat)) : Bool := everyB (fun x y => decide (x = y)) a ls

theorem coversB_iff (a : List Nat) (ls : List (List Nat)) : coversB a ls = true ↔ ∀ b ∈ ls, ∀ i, num b i ≤ num a i := by
  unfold coversB
  rw [everyB_iff]
  refine forall₂_congr fun b _ => ?_
  constructor
  · intro h i
    by_cases hi : i < max a.length b.length
    · simpa using h i hi
    · rw [num_out (l := b) (by omega)]; omega
  · intro h i _
    simpa using h i

theorem sameB_iff (a : List Nat) (ls : List (List Nat)) : sameB a ls = true ↔ ∀ b ∈ ls, ∀ i, num a i = num b i := by
  unfold sameB
  rw [everyB_iff]
  refine forall₂_congr fun b _ => ?_
  constructor
  · intro h i
    by_cases hi : i < max a.length b.length
    · simpa using h i hi
    · rw [num_out (l := b) (by omega), num_out (l := a) (by omega)]
  · intro h i _
    simpa using h i

theorem bool_ext {a b : Bool} (h : a = true ↔ b = true) : a = b := by
  cases a <;> cases b <;> simp_all

theorem num_lt {l : List Nat} (h : ∀ x ∈ l, x < 18446744073709551616) (i : Nat) : num l i < 18446744073709551616 := by
  by_cases hi : i < l.length
  · rw [num_in hi]; exact h _ (List.getElem_mem hi)
  · rw [num_out (by omega)]; omega

set_option maxHeartbeats 400000 in
theorem refAt_any (A : Option Addr) (n c : Nat) (i : Int) (B : Nat) (l : List Nat) (w : World) (hl : l.length = n) (h : Lies w B A (uvs l)) :
    Calls Try.prog 22 #[.slice A n c, .int .i64 i] w fun e w' => e = .returned (.int .u64 (atI l i : Int)) ∧ w = w' := by
  by_cases h0 : i < 0
  · have e0 : atI l i = 0 := by unfold atI; rw [if_pos h0]
    rw [e0]
    go_enter Try.func22, Try.ntmps22
    go_wp2
    go_ret
    exact ⟨rfl, rfl⟩
  · obtain ⟨k, rfl⟩ : ∃ k : Nat, i = (k : Int) := ⟨i.toNat, by omega⟩
    rw [atI_nat]
    by_cases hk : k < n
    · have hk1 : k < l.length := by rw [hl]; exact hk
      rw [num_in hk1]
      obtain ⟨b, off, rfl, hb, hc⟩ := h.at_ (uvs_at hk1)
      generalize (l[k] : Int) = x at hc
      clear hl
      go_enter Try.func22, Try.ntmps22
      go_wp2
      go_ret
      exact ⟨rfl, rfl⟩
    · rw [num_out (by omega)]
      clear hl
      go_enter Try.func22, Try.ntmps22
      go_wp2
      go_ret
      exact ⟨rfl, rfl⟩

theorem refAt_nat (A : Option Addr) (n c : Nat) (k : Nat) (B : Nat) (l : List Nat) (w : World) (hl : l.length = n) (h : Lies w B A (uvs l)) :
    Calls Try.prog 22 #[.slice A n c, .int .i64 (k : Int)] w fun e w' => e = .returned (.int .u64 (num l k : Int)) ∧ w = w' := by
  rw [← atI_nat]
  exact refAt_any A n c k B l w hl h

theorem covers_one_iff (a b : List Nat) : coversB a [b] = true ↔ ∀ i, i < b.length → num b i ≤ num a i := by
  rw [coversB_iff]
  simp only [List.mem_singleton, forall_eq]
  constructor
  · intro h i _
    exact h i
  · intro h i
    by_cases hi : i < b.length
    · exact h i hi
    · rw [num_out (l := b) (by omega)]; omega

set_option maxHeartbeats 1600000 in
theorem refCovers_any (A : Option Addr) (n c : Nat) (a : List Nat) (A2 : Option Addr) (m c2 : Nat) (b : List Nat) (w : World) (hm : m ≤ 1000) (hl : a.length = n) (h : Lies w w.heap.size A (uvs a)) (hl2 : b.length = m) (h2 : Lies w w.heap.size A2 (uvs b)) :
    Calls Try.prog 42 #[.slice A n c, .slice A2 m c2] w fun e w' => e = .returned (.bool (coversB a [b])) ∧ Below w.heap.size w w' := by
  have mixed := mixedOrders
  have HL := Lib.hid hl
  have HL2 := Lib.hid hl2
  have HAT : Hid (∀ (W : World) (k : Nat), Below w.heap.size w W → Calls Try.prog 22 #[.slice A n c, .int .i64 (k : Int)] W fun e w' => e = .returned (.int .u64 (num a k : Int)) ∧ W = w') := fun W k hW => refAt_nat A n c k _ a W HL.out (h.below hW)
  clear hl hl2 h
  go_enter Try.func42, Try.ntmps42
  go_wp2
  go_loopw [5, 8] (fun _ i wr => ∃ k : Nat, k ≤ m ∧ i = .int .i64 k ∧ Below w.heap.size w wr ∧ Hid (∀ i, i < k → num b i ≤ num a i)) (fun _ i _ => m - (intOf i).toNat)
  case atStart => exact ⟨0, Nat.zero_le _, rfl, Below.refl _ _, fun _ h => absurd h (by omega)⟩
  case round =>
    obtain ⟨k, hk, rfl, hb, hK⟩ := hrel
    by_cases hlt : k < m
    · have hk1 : k < b.length := by rw [HL2.out]; exact hlt
      obtain ⟨bb, off, rfl, hbl, hc⟩ := (h2.below hb).at_ (uvs_at hk1)
      have hbw : bb < wr.heap.size := Nat.lt_of_lt_of_le hbl hb.size
      have x0 := later_cell (w0 := wr) hbw hc
      have K1 : Hid (b[k] ≤ num a k → ∀ i, i < k + 1 → num b i ≤ num a i) := fun hq i hi => by
        by_cases e : i = k
        · subst e; rw [num_in hk1]; exact hq
        · exact hK.out i (by omega)
      have K2 : Hid (¬ b[k] ≤ num a k → coversB a [b] = false) := fun hq => by
        rw [Bool.eq_false_iff, Ne, covers_one_iff]
        intro hall
        have := hall k hk1
        rw [num_in hk1] at this
        exact hq this
      have hAT : ∀ p : Later wr, Calls Try.prog 22 #[.slice A n c, .int .i64 (k : Int)] p.w fun e w' => e = .returned (.int .u64 (num a k : Int)) ∧ p.w = w' := fun p => HAT.out p.w k (hb.trans (p.hb.mono hb.size))
      have HATk := Lib.hid hAT
      clear hc hK hAT
      generalize b[k] = y at x0 K1 K2
      generalize num a k = x at HATk K1 K2
      go_wp2_with fail
      by_cases hxy : y ≤ x
      · have HN := Lib.hid (K1.out hxy)
        have hd1 : decide (x < y) = false := by simp; omega
        clear K1 K2
        refine wp_region_later mixed (by kernel_rfl) ?_
        repeat (go_big_quiet_step ((go_at_call 22; exact later_same (HATk.out _))))
        refine wpQuiet_nil ?_
        intro _ hw'
        obtain ⟨p, rfl⟩ := hw'
        have hbp : Below w.heap.size w p.w := hb.trans (p.hb.mono hb.size)
        go_wp2
        go_roundw
        case rel => exact ⟨k + 1, by omega, by go_num, hbp, HN⟩
        case measure => simp [intOf]; omega
      · have HN := Lib.hid (K2.out hxy)
        have hd1 : decide (x < y) = true := by simp; omega
        clear K1 K2
        refine wp_region_later mixed (by kernel_rfl) ?_
        repeat (go_big_quiet_step ((go_at_call 22; exact later_same (HATk.out _))))
        refine wpQuiet_nil ?_
        intro _ hw'
        obtain ⟨p, rfl⟩ := hw'
        have hbp : Below w.heap.size w p.w := hb.trans (p.hb.mono hb.size)
        go_wp2
        go_ret
        rw [HN.out]
        exact ⟨rfl, hbp⟩
    · have HA : Hid (coversB a [b] = true) := (covers_one_iff a b).2 fun i hi => hK.out i (by rw [HL2.out] at hi; omega)
      go_wp2
      go_ret
      rw [HA.out]
      exact ⟨rfl, hb⟩

theorem same_one (a b : List Nat) : sameB a [b] = (coversB a [b] && coversB b [a]) := by
  refine bool_ext ?_
  rw [Bool.and_eq_true, sameB_iff, coversB_iff, coversB_iff]
  simp only [List.mem_singleton, forall_eq]
  constructor
  · intro h
    exact ⟨fun i => by rw [h i]; exact Nat.le_refl _, fun i => by rw [h i]; exact Nat.le_refl _⟩
  · rintro ⟨h1, h2⟩ i
    exact Nat.le_antisymm (h2 i) (h1 i)

set_option maxHeartbeats 400000 in
theorem refSame_any (A : Option Addr) (n c : Nat) (a : List Nat) (A2 : Option Addr) (m c2 : Nat) (b : List Nat) (w : World) (hn : n ≤ 1000) (hm : m ≤ 1000) (hl : a.length = n) (h : Lies w w.heap.size A (uvs a)) (hl2 : b.length = m) (h2 : Lies w w.heap.size A2 (uvs b)) :
    Calls Try.prog 24 #[.slice A n c, .slice A2 m c2] w fun e w' => e = .returned (.bool (sameB a [b])) ∧ Below w.heap.size w w' := by
  rw [same_one]
  have c1 := refCovers_any A n c a A2 m c2 b w hm hl h hl2 h2
  have C2 : Hid (∀ W : World, Below w.heap.size w W → Calls Try.prog 42 #[.slice A2 m c2, .slice A n c] W fun e w' => e = .returned (.bool (coversB b [a])) ∧ Below W.heap.size W w') := fun W hW => refCovers_any A2 m c2 b A n c a W hn hl2 (h2.later hW) hl (h.later hW)
  generalize coversB a [b] = x at c1 ⊢
  generalize coversB b [a] = y at C2 ⊢
  clear hl hl2 h h2
  cases x with
  | true =>
    rw [Bool.true_and]
    go_enter Try.func24, Try.ntmps24
    go_wp2_with fail
    refine c1.mono ?_
    rintro e w1 ⟨rfl, hb1⟩
    clear c1
    go_wp2_with fail
    refine (C2.out w1 hb1).mono ?_
    rintro e w2 ⟨rfl, hb2⟩
    go_wp2
    go_ret
    exact ⟨rfl, hb1.trans (hb2.mono hb1.size)⟩
  | false =>
    rw [Bool.false_and]
    go_enter Try.func24, Try.ntmps24
    go_wp2_with fail
    refine c1.mono ?_
    rintro e w1 ⟨rfl, hb1⟩
    clear c1
    go_wp2
    go_ret
    exact ⟨rfl, hb1⟩

theorem same_refl (a : List Nat) : sameB a [a] = true := by
  rw [sameB_iff]
  intro b hb i
  simp at hb
  subst hb
  rfl

/-- Equal of two vectors that hold the same numbers. -/
theorem refEqual_same (A : Option Addr) (n c : Nat) (a : List Nat) (A2 : Option Addr) (m c2 : Nat) (w : World) (hn : n ≤ 1000) (hl : a.length = n) (h : Lies w w.heap.size A (uvs a)) (hl2 : a.length = m) (h2 : Lies w w.heap.size A2 (uvs a)) :
    Calls Try.prog 9 #[.slice A n c, .slice A2 m c2] w fun e w' => e = .returned (.bool true) ∧ Below w.heap.size w w' := by
  obtain rfl : n = m := by omega
  have c1 := refSame_any A n c a A2 n c2 a w hn hn hl h hl2 h2
  rw [same_refl] at c1
  clear hl hl2 h h2
  go_enter Try.func9, Try.ntmps9
  go_wp2_with fail
  refine c1.mono ?_
  rintro e w1 ⟨rfl, hb1⟩
  go_wp2
  go_ret
  exact ⟨rfl, hb1⟩

/-- append([]uint64{}, a...) -/
theorem wpList_anew {wb : World} {ops : Array Oper} {rest : List Oper} {o : Oper} {a : Act} {Q : Exit → Act → World → Prop} (hgd : o.guard = none) (s x : Operand)
    (ho : o.op = .call { callee := .builtin .append, args := #[s, x], argTypes := #[22, 22] }) (hs : a.eval s = .slice (some ⟨wb.heap.size, 0, none⟩) 0 0)
    (A : Option Addr) (n c B : Nat) (l : List Nat) (hx : a.eval x = .slice A n c) (hl : l.length = n) (hL : Lies wb B A (uvs l)) (hB : B ≤ wb.heap.size) (hn : n ≤ 1000)
    (h : ∀ v' w', w'.ownsRow wb.heap.size 40 1 v' n (uvs l) → Below wb.heap.size wb w' → wpList Try.prog ops Q rest (a.put o.dst v') w') :
    wpList Try.prog ops Q (o :: rest) a (wb.alloc (.cells #[] 40)) := by
  obtain ⟨i0, hi, hz0, hz1, hz2⟩ := info_parts Try.infoU
  have hal : Below wb.heap.size wb (wb.alloc (.cells #[] 40)) := (Below.refl _ _).alloc (Nat.le_refl _) _
  refine wpList_append_lst hgd s x 22 ho wb.heap.size 40 i0 (.int .u64 0) 8 Try.underlying22 hi hz0 hz1 hz2 rfl _ 0 [] hs (World.ownsRow_lit wb #[] 0 (Nat.le_refl _) (Nat.zero_le _) rfl) B A n c (uvs l) hx (by rw [uvs_length]; exact hl) (hL.below (hal.mono hB)) (uvs_one l) (by unfold maxLen; omega) (by omega) (by simp) ?_
  intro v' w' hown' _ hb' _
  refine h v' w' ?_ (hal.trans hb')
  simpa using hown'

theorem eqNilU (w : World) (A : Option Addr) (n c n' c' : Nat) : (binOp .eql 22 (.slice A n c) (.slice none n' c')).run Try.prog w = .ok (.bool A.isNone) w := Lib.run_eql_slice_nil w _ _ A n c n' c' Try.underlying22

set_option maxHeartbeats 400000 in
theorem clone_any (A : Option Addr) (n c : Nat) (l : List Nat) (w : World) (hl : l.length = n) (hn : n ≤ 1000) (h : Lies w w.heap.size A (uvs l)) :
    Calls Try.prog 23 #[.slice A n c] w (OwnedV w w.heap.size l) := by
  have q := eqNilU
  rcases A with _ | ad
  · have hnil : l = [] := by
      rcases l with _ | ⟨x, r⟩
      · rfl
      · obtain ⟨_, _, h, _⟩ := h (by simp [uvs])
        cases h
    subst hnil
    have : n = 0 := by simpa using hl.symm
    subst this
    go_enter Try.func23, Try.ntmps23
    go_wp2
    go_ret
    exact OwnedV.of (World.ownsRow_nil _ _ _ _) (Below.refl _ _)
  · have HL := Lib.hid hl
    clear hl
    go_enter Try.func23, Try.ntmps23
    go_wp2_with (at_builtin; refine wpList_anew rfl (.tmp 5) (.tmp 6) rfl rfl (some ad) n c _ l rfl HL.out h (Nat.le_refl _) hn ?_)
    intro v1 w1 hown hb
    have HO := Lib.hid hown
    clear hown
    go_wp2
    go_ret
    exact OwnedV.of HO.out hb

theorem uvs_set (l : List Nat) (i n : Nat) : uvs (l.set i n) = (uvs l).set i (.int .u64 (n : Int)) := by simp [uvs, uv, List.map_set]

end Go.Proofs.Ytfkpffkickicmaa
