/- BagTwins: for every bytes, every integer and every 32 bits the call returns true (what is put in twice comes out twice, the same, and one that is turned doesn't turn the other one), and changes nothing that was there. No conditions. -/
import Derived.Test.YtjecphjdmjoeiaaBgL
import Derived.ChangeOld
namespace Go.Proofs.Ytjecphjdmjoeiaa
open Go.ChangeShapes Go.WideShapes Go.ChangeAt Go.RowKit

/-- A thing's bytes, told of what it is as plain data. -/
theorem Th.of_pl {x : Th} {b : List UInt8} {t : Bool} (h : x.pl = (b, t)) : ∃ v, x = ⟨v, b, t⟩ := by
  obtain ⟨v, b', t'⟩ := x
  simp only [Th.pl, Prod.mk.injEq] at h
  obtain ⟨rfl, rfl⟩ := h
  exact ⟨v, rfl⟩

/-- What came out stays what it is while the bag goes on. -/
theorem own_stays {w w' : World} {D : Nat → Prop} {B n : Nat} {v : Value} {xs : List Value} {e : TypeId} (h : w.ownsRow B e 1 v n xs) (ho : OnlyE w w' D) (hD : ∀ b, D b → b < B) : w'.ownsRow B e 1 v n xs :=
  own_only h ho fun b hb hb' => by
    have h1 := (h.lt b hb).1
    have h2 := hD b hb'
    omega

set_option maxHeartbeats 3200000 in
theorem bagTwins_walk (A : Option Addr) (n c : Nat) (b : List UInt8) (at_ s : Int) (w : World) (hl : b.length = n) (hn : n ≤ 100) (hc : n ≤ c) (hcm : c ≤ maxLen) (hL : Lies w w.heap.size A (bvs b)) (hs0 : 0 ≤ s) (hs1 : s < 4294967296) :
    Calls Try.prog 7 #[.slice A n c, .int .i64 at_, .int .u32 s] w fun e w' => e = .returned (.bool true) ∧ Below w.heap.size w w' := by
  have hd : decide (100 < (n : Int)) = false := by simp; omega
  have hN := new_any 2 w w.heap.size (Nat.le_refl _) (by decide) (by decide)
  rw [show roomN 2 = 2 by decide] at hN
  have HL := Lib.hid hL
  have HLB := Lib.hid hl
  clear hL hl
  go_enter Try.func7, Try.ntmps7
  go_wp2_with fail
  refine hN.mono ?_
  rintro e w1 ⟨rfl, hB, hb1⟩
  have HB := Lib.hid hB
  have HB1 := Lib.hid hb1
  clear hB hb1 hN
  go_wp2_with fail
  generalize hw2 : World.alloc w1 (.cells #[Value.slice A n c] 30) = w2
  have hb2 : Below w1.heap.size w1 w2 := by rw [← hw2]; exact (Below.refl _ _).alloc (Nat.le_refl _) _
  have k2 : w2.heap[w1.heap.size]? = some (.cells #[Value.slice A n c] 30) := by rw [← hw2]; exact heap_alloc_new _ _
  have hsz : w.heap.size < w1.heap.size := HB.out.plt
  have HB2 : Hid (Below w.heap.size w w2) := HB1.out.trans (hb2.mono HB1.out.size)
  have hX : BytX w2 (fun k => k = w.heap.size) (.slice A n c) b := ⟨A, n, c, rfl, HLB.out, hc, hcm, LiesX.of_lies (HL.out.below HB2.out) (by have := hb2.size; omega) (fun k hk => by omega)⟩
  have hP : Calls Try.prog 15 #[.pointer (some ⟨w.heap.size, 0, none⟩), .slice (some ⟨w1.heap.size, 0, none⟩) 1 1] w2 fun e w' => e = .returned (.int .i64 1) ∧ PutIn w2 w.heap.size w.heap.size 2 0 [] (fun k => k = w.heap.size) [(b, false)] w' :=
    put_any (HB.out.on hb2) (some ⟨w1.heap.size, 0, none⟩) 1 1 _ _ rfl (by decide) (by decide) (by decide) (LiesX.at_block k2 (by omega) rfl) (rowsX_one hX) (by have := HLB.out; simp; omega)
  clear hX k2 hw2 hb2 HB HB1
  refine hP.mono ?_
  rintro e w3 ⟨rfl, T3, l3, D3, hB3, hpl, ho, hd3, -⟩
  have hl1 : l3.length = 1 := by have := congrArg List.length hpl; simpa using this
  obtain ⟨x, rfl⟩ := List.length_eq_one_iff.1 hl1
  obtain ⟨v0, rfl⟩ := Th.of_pl (x := x) (b := b) (t := false) (by simpa using hpl)
  have HB3 : Hid (Below w.heap.size w w3) := HB2.out.trans (ho.below (fun k hk => by omega) HB2.out.size)
  have hT := twice_any hB3 0 (by simp) (by simp)
  clear hP ho hd3 hpl hl1
  have HQ3 := Lib.hid hB3
  clear hB3
  go_wp2_with fail
  refine hT.mono ?_
  rintro e w4 ⟨rfl, T4, l4, D4, hB4, hpl, ho, hd4, -⟩
  have hl2 : l4.length = 2 := by have := congrArg List.length hpl; simpa using this
  obtain ⟨x0, x1, rfl⟩ : ∃ x0 x1, l4 = [x0, x1] := by
    match l4, hl2 with
    | [x0, x1], _ => exact ⟨x0, x1, rfl⟩
  obtain ⟨v0', rfl⟩ := Th.of_pl (x := x0) (b := b) (t := false) (by simp [Th.pl] at hpl; simp [Th.pl, hpl])
  obtain ⟨v1, rfl⟩ := Th.of_pl (x := x1) (b := b) (t := false) (by simp [Th.pl] at hpl; simp [Th.pl, hpl])
  have HB4 : Hid (Below w.heap.size w w4) := HB3.out.trans (ho.below (fun k hk => (HQ3.out.din k hk).1) HB3.out.size)
  have hT2 := twice_full hB4 0 (by simp) (by simp)
  have HQ4 := Lib.hid hB4
  clear hT ho hd4 hpl hl2 HQ3 HB3 HB2 hB4
  go_wp2_with fail
  refine hT2.mono ?_
  rintro e w5 ⟨rfl, hb5⟩
  have hB5 := HQ4.out.on hb5
  have HB5 : Hid (Below w.heap.size w w5) := HB4.out.trans (hb5.mono HB4.out.size)
  have HQ5 := Lib.hid hB5
  clear hT2 hb5 hB5 HQ4 HB4
  have hnl : (n : Int) ≤ 100 := by omega
  by_cases h1 : s = 0
  · have e1 : (s != 0) = false := by simpa using h1
    have e1' : (s == 0) = true := by simpa using h1
    have hmn : ¬ mayT ([(⟨v0', b, false⟩ : Th), ⟨v1, b, false⟩][1]).t ([(⟨v0', b, false⟩ : Th), ⟨v1, b, false⟩][1]).b.length at_ s := fun h => h.2.1 h1
    clear h1
    have hTn := turn_not HQ5.out 1 at_ s (by simp) hmn
    go_wp2_with fail
    refine hTn.mono ?_
    rintro e w6 ⟨rfl, rfl⟩
    have HQ6 := Lib.hid HQ5.out
    have HB6 := Lib.hid HB5.out
    have HSTR : Hid (∀ W, Below w.heap.size w W → Strs W A n b) := fun W hW => strs_of HLB.out (HL.out.below hW)
    clear hTn hmn HQ5 HB5
    have hK := take_any HQ6.out 0 (by simp)
    simp only [List.getElem_cons_zero, List.eraseIdx_cons_zero] at hK
    go_wp2_with fail
    refine hK.mono ?_
    rintro e w7 ⟨A7, n7, c7, T7, rfl, hn7, -, -, ho7, hB7, hE7⟩
    obtain rfl : n = n7 := HLB.out.symm.trans hn7.out
    have HB7 : Hid (Below w.heap.size w w7) := HB6.out.trans (hE7.below (fun k hk => (HQ6.out.din k hk).1) HB6.out.size)
    have hK2 := take_any hB7 0 (by simp)
    simp only [List.getElem_cons_zero, List.eraseIdx_cons_zero] at hK2
    have HDL : Hid (∀ k, D4 k → k < w6.heap.size) := fun k hk => (HQ6.out.din k hk).2
    have HD4 : Hid (∀ k, D4 k → w.heap.size ≤ k) := fun k hk => (HQ6.out.din k hk).1
    have HO7 := Lib.hid ho7
    clear hK hE7 ho7 hB7 HQ6 HB6
    go_wp2_with fail
    refine hK2.mono ?_
    rintro e w8 ⟨A8, n8, c8, T8, rfl, hn8, -, -, ho8, hB8, hE8⟩
    obtain rfl : n = n8 := HLB.out.symm.trans hn8.out
    have HB8 : Hid (Below w.heap.size w w8) := HB7.out.trans (hE8.below (fun k hk => HD4.out k hk) HB7.out.size)
    have s1 := strs_of HLB.out (Lies.of_own (own_stays HO7.out hE8 HDL.out)) c7
    have s2 := strs_of HLB.out (Lies.of_own ho8) c8
    have s3 := HSTR.out w8 HB8.out c
    have hle := len_any hB8
    simp only [List.length_nil, Int.natCast_zero] at hle
    clear hK2 HO7 ho8 hB8 hE8 HDL HSTR
    go_wp2_with (first | (go_at_call 12; refine hle.mono ?_; rintro e w' ⟨rfl, rfl⟩) | (go_at_call 8; refine (awake_any _).mono ?_; rintro e w9 ⟨rfl, hb9⟩))
    go_ret
    exact ⟨rfl, HB8.out.trans (hb9.mono HB8.out.size)⟩
  · have e1 : (s != 0) = true := by simpa using h1
    have e1' : (s == 0) = false := by simpa using h1
    by_cases h2 : 0 ≤ at_
    · have e2 : decide (at_ < 0) = false := by simp; omega
      by_cases h3 : at_ ≤ 8 * (n : Int) - 32
      · have e3 : decide (8 * (n : Int) - 32 < at_) = false := by simp; omega
        have e4 : decide (at_ ≤ 8 * (n : Int) - 32) = true := by simp; omega
        obtain ⟨a, rfl⟩ := Int.eq_ofNat_of_zero_le h2
        obtain ⟨s, rfl⟩ := Int.eq_ofNat_of_zero_le hs0
        have hs32 : s < 4294967296 := by omega
        have hTy := turnBag_any HQ5.out 1 a s (by simp) hs32 ⟨rfl, by simpa using h1, by omega, by simp only [List.getElem_cons_succ, List.getElem_cons_zero]; rw [HLB.out]; omega⟩
        simp only [List.getElem_cons_succ, List.getElem_cons_zero, List.set_cons_succ, List.set_cons_zero] at hTy
        have hTd := fun W => refTurned_any b a s W (by rw [HLB.out]; omega) hs32 (by rw [HLB.out]; omega)
        have HLT := Lib.hid ((turnN_length b a s 32).trans HLB.out)
        generalize turnN b a s 32 = b2 at hTy hTd HLT
        go_wp2_with fail
        refine hTy.mono ?_
        rintro e w6 ⟨rfl, hB6, hE6⟩
        have HB6 : Hid (Below w.heap.size w w6) := HB5.out.trans (hE6.below (fun k hk => (HQ5.out.din k hk).1) HB5.out.size)
        have HQ6 := Lib.hid hB6
        have HSTR : Hid (∀ W, Below w.heap.size w W → Strs W A n b) := fun W hW => strs_of HLB.out (HL.out.below hW)
        clear hTy HQ5 HB5 hB6 hE6
        have hK := take_any HQ6.out 0 (by simp)
        simp only [List.getElem_cons_zero, List.eraseIdx_cons_zero] at hK
        go_wp2_with fail
        refine hK.mono ?_
        rintro e w7 ⟨A7, n7, c7, T7, rfl, hn7, -, -, ho7, hB7, hE7⟩
        obtain rfl : n = n7 := HLB.out.symm.trans hn7.out
        have HB7 : Hid (Below w.heap.size w w7) := HB6.out.trans (hE7.below (fun k hk => (HQ6.out.din k hk).1) HB6.out.size)
        have hK2 := take_any hB7 0 (by simp)
        simp only [List.getElem_cons_zero, List.eraseIdx_cons_zero] at hK2
        have HDL : Hid (∀ k, D4 k → k < w6.heap.size) := fun k hk => (HQ6.out.din k hk).2
        have HD4 : Hid (∀ k, D4 k → w.heap.size ≤ k) := fun k hk => (HQ6.out.din k hk).1
        have HO7 := Lib.hid ho7
        clear hK hE7 ho7 hB7 HQ6 HB6
        go_wp2_with fail
        refine hK2.mono ?_
        rintro e w8 ⟨A8, n8, c8, T8, rfl, hn8, -, -, ho8, hB8, hE8⟩
        obtain rfl : n = n8 := HLT.out.symm.trans hn8.out
        have HB8 : Hid (Below w.heap.size w w8) := HB7.out.trans (hE8.below (fun k hk => HD4.out k hk) HB7.out.size)
        have s3 := HSTR.out w8 HB8.out c
        have hQ7 := own_stays HO7.out hE8 HDL.out
        have HQ7 := Lib.hid hQ7
        have HO8 := Lib.hid ho8
        have HQ8 := Lib.hid hB8
        clear hK2 HO7 hQ7 hB8 hE8 HDL ho8
        go_wp2_with fail
        refine (hTd w8).mono ?_
        rintro e w9 ⟨rfl, hb9⟩
        have HB9 : Hid (Below w.heap.size w w9) := HB8.out.trans (hb9.mono HB8.out.size)
        have s1 := strs_of HLB.out ((Lies.of_own HQ7.out).below hb9) c7
        have s2 := strs_of HLT.out ((Lies.of_own HO8.out).below hb9) c8
        have s4 := HSTR.out w9 HB9.out c
        have hle := len_any (HQ8.out.on hb9)
        simp only [List.length_nil, Int.natCast_zero] at hle
        clear hTd HSTR HO8 HQ7 HQ8 s3 hb9
        go_wp2_with (first | (go_at_call 12; refine hle.mono ?_; rintro e w' ⟨rfl, rfl⟩) | (go_at_call 8; refine (awake_any _).mono ?_; rintro e w10 ⟨rfl, hb10⟩))
        go_ret
        exact ⟨rfl, HB9.out.trans (hb10.mono HB9.out.size)⟩
      · have e3 : decide (8 * (n : Int) - 32 < at_) = true := by simp; omega
        have e4 : decide (at_ ≤ 8 * (n : Int) - 32) = false := by simp; omega
        have hmn : ¬ mayT ([(⟨v0', b, false⟩ : Th), ⟨v1, b, false⟩][1]).t ([(⟨v0', b, false⟩ : Th), ⟨v1, b, false⟩][1]).b.length at_ s := fun h => h3 (by have := h.2.2.2; simp only [List.getElem_cons_succ, List.getElem_cons_zero] at this; rw [HLB.out] at this; exact this)
        clear h1
        have hTn := turn_not HQ5.out 1 at_ s (by simp) hmn
        go_wp2_with fail
        refine hTn.mono ?_
        rintro e w6 ⟨rfl, rfl⟩
        have HQ6 := Lib.hid HQ5.out
        have HB6 := Lib.hid HB5.out
        have HSTR : Hid (∀ W, Below w.heap.size w W → Strs W A n b) := fun W hW => strs_of HLB.out (HL.out.below hW)
        clear hTn hmn HQ5 HB5
        have hK := take_any HQ6.out 0 (by simp)
        simp only [List.getElem_cons_zero, List.eraseIdx_cons_zero] at hK
        go_wp2_with fail
        refine hK.mono ?_
        rintro e w7 ⟨A7, n7, c7, T7, rfl, hn7, -, -, ho7, hB7, hE7⟩
        obtain rfl : n = n7 := HLB.out.symm.trans hn7.out
        have HB7 : Hid (Below w.heap.size w w7) := HB6.out.trans (hE7.below (fun k hk => (HQ6.out.din k hk).1) HB6.out.size)
        have hK2 := take_any hB7 0 (by simp)
        simp only [List.getElem_cons_zero, List.eraseIdx_cons_zero] at hK2
        have HDL : Hid (∀ k, D4 k → k < w6.heap.size) := fun k hk => (HQ6.out.din k hk).2
        have HD4 : Hid (∀ k, D4 k → w.heap.size ≤ k) := fun k hk => (HQ6.out.din k hk).1
        have HO7 := Lib.hid ho7
        clear hK hE7 ho7 hB7 HQ6 HB6
        go_wp2_with fail
        refine hK2.mono ?_
        rintro e w8 ⟨A8, n8, c8, T8, rfl, hn8, -, -, ho8, hB8, hE8⟩
        obtain rfl : n = n8 := HLB.out.symm.trans hn8.out
        have HB8 : Hid (Below w.heap.size w w8) := HB7.out.trans (hE8.below (fun k hk => HD4.out k hk) HB7.out.size)
        have s1 := strs_of HLB.out (Lies.of_own (own_stays HO7.out hE8 HDL.out)) c7
        have s2 := strs_of HLB.out (Lies.of_own ho8) c8
        have s3 := HSTR.out w8 HB8.out c
        have hle := len_any hB8
        simp only [List.length_nil, Int.natCast_zero] at hle
        clear hK2 HO7 ho8 hB8 hE8 HDL HSTR
        go_wp2_with (first | (go_at_call 12; refine hle.mono ?_; rintro e w' ⟨rfl, rfl⟩) | (go_at_call 8; refine (awake_any _).mono ?_; rintro e w9 ⟨rfl, hb9⟩))
        go_ret
        exact ⟨rfl, HB8.out.trans (hb9.mono HB8.out.size)⟩
    · have e2 : decide (at_ < 0) = true := by simp; omega
      have e5 : decide (0 ≤ at_) = false := by simp; omega
      have hmn : ¬ mayT ([(⟨v0', b, false⟩ : Th), ⟨v1, b, false⟩][1]).t ([(⟨v0', b, false⟩ : Th), ⟨v1, b, false⟩][1]).b.length at_ s := fun h => h2 h.2.2.1
      clear h1
      have hTn := turn_not HQ5.out 1 at_ s (by simp) hmn
      go_wp2_with fail
      refine hTn.mono ?_
      rintro e w6 ⟨rfl, rfl⟩
      have HQ6 := Lib.hid HQ5.out
      have HB6 := Lib.hid HB5.out
      have HSTR : Hid (∀ W, Below w.heap.size w W → Strs W A n b) := fun W hW => strs_of HLB.out (HL.out.below hW)
      clear hTn hmn HQ5 HB5
      have hK := take_any HQ6.out 0 (by simp)
      simp only [List.getElem_cons_zero, List.eraseIdx_cons_zero] at hK
      go_wp2_with fail
      refine hK.mono ?_
      rintro e w7 ⟨A7, n7, c7, T7, rfl, hn7, -, -, ho7, hB7, hE7⟩
      obtain rfl : n = n7 := HLB.out.symm.trans hn7.out
      have HB7 : Hid (Below w.heap.size w w7) := HB6.out.trans (hE7.below (fun k hk => (HQ6.out.din k hk).1) HB6.out.size)
      have hK2 := take_any hB7 0 (by simp)
      simp only [List.getElem_cons_zero, List.eraseIdx_cons_zero] at hK2
      have HDL : Hid (∀ k, D4 k → k < w6.heap.size) := fun k hk => (HQ6.out.din k hk).2
      have HD4 : Hid (∀ k, D4 k → w.heap.size ≤ k) := fun k hk => (HQ6.out.din k hk).1
      have HO7 := Lib.hid ho7
      clear hK hE7 ho7 hB7 HQ6 HB6
      go_wp2_with fail
      refine hK2.mono ?_
      rintro e w8 ⟨A8, n8, c8, T8, rfl, hn8, -, -, ho8, hB8, hE8⟩
      obtain rfl : n = n8 := HLB.out.symm.trans hn8.out
      have HB8 : Hid (Below w.heap.size w w8) := HB7.out.trans (hE8.below (fun k hk => HD4.out k hk) HB7.out.size)
      have s1 := strs_of HLB.out (Lies.of_own (own_stays HO7.out hE8 HDL.out)) c7
      have s2 := strs_of HLB.out (Lies.of_own ho8) c8
      have s3 := HSTR.out w8 HB8.out c
      have hle := len_any hB8
      simp only [List.length_nil, Int.natCast_zero] at hle
      clear hK2 HO7 ho8 hB8 hE8 HDL HSTR
      go_wp2_with (first | (go_at_call 12; refine hle.mono ?_; rintro e w' ⟨rfl, rfl⟩) | (go_at_call 8; refine (awake_any _).mono ?_; rintro e w9 ⟨rfl, hb9⟩))
      go_ret
      exact ⟨rfl, HB8.out.trans (hb9.mono HB8.out.size)⟩

theorem bagTwins_many (A : Option Addr) (n c : Nat) (at_ s : Int) (w : World) (hn : 100 < n) :
    Calls Try.prog 7 #[.slice A n c, .int .i64 at_, .int .u32 s] w fun e w' => e = .returned (.bool true) ∧ Below w.heap.size w w' := by
  have hd : decide (100 < (n : Int)) = true := by simp; omega
  go_enter Try.func7, Try.ntmps7
  go_wp2_with (go_at_call 8; refine (awake_any _).mono ?_; rintro e w' ⟨rfl, hb⟩)
  go_ret
  exact ⟨rfl, hb⟩

theorem own : ownKnob Try.prog.godebug = none := by kernel_rfl
theorem laidOut : laidOutB Try.prog = true := by kernel_rfl

set_option maxRecDepth 100000 in
theorem bagTwins_lifted (os : Os) (started : os.Started) (H : Type) (enc : TypeId × Value → H) :
    ReturnsInHanded {} Try.checked os 7 .any (Rows.bagTwinsSpec.pre6 enc Try.prog Try.f7 Rows.bagTwinsRow.domain false) (Rows.bagTwinsSpec.post enc Try.prog Try.f7 false true false false) := by
  refine returnsInHanded_of_change (C := Try.checked) own started (by kernel_rfl) Try.func7
    (ChangeSpec.witness6 (enc := enc) (C := Try.checked) false ⟨#[], #[.slice none 0 0, .int .i64 0, .int .u32 0], []⟩ 8 (by kernel_rfl) (by kernel_rfl) (by kernel_rfl) (by kernel_rfl)) ?_
  intro W base args ds gs before hval0 hW _ _
  have hval : ∀ (j : Nat) t v, Try.f7.params[j]? = some t → args[j]? = some v → Value.okWide Try.prog W .any base t v := hval0
  have hW' := hW
  obtain ⟨p, q, hA0, hV, rfl, _, _⟩ := hW
  have hA : DataW.TrodAll enc Try.prog W 0 (fun _ => true) true Try.f7.params.toList args.toList ds p := hA0
  rw [Try.params7] at hA hval
  obtain ⟨v0, vs0, d0, ds0, p0, q0, hargs, rfl, rfl, h0, r0⟩ := trodAll_cons hA
  obtain ⟨v1, vs1, d1, ds1, p1, q1, rfl, rfl, rfl, h1, r1⟩ := trodAll_cons r0
  obtain ⟨v2, vs2, d2, ds2, p2, q2, rfl, rfl, rfl, h2, r2⟩ := trodAll_cons r1
  obtain ⟨rfl, rfl, rfl⟩ := trodAll_nil r2
  obtain rfl : args = #[v0, v1, v2] := by cases args; simp_all
  obtain ⟨rfl, rfl⟩ := trodVars_none hV
  have k0 := h0
  have lt0 : ∀ x ∈ p0, x.block < W.heap.size := by obtain ⟨m, hm⟩ := k0; exact DataW.trod_lt m _ _ _ hm
  have k1 := h1
  have lt1 : ∀ x ∈ p1, x.block < W.heap.size := by obtain ⟨m, hm⟩ := k1; exact DataW.trod_lt m _ _ _ hm
  have k2 := h2
  have lt2 : ∀ x ∈ p2, x.block < W.heap.size := by obtain ⟨m, hm⟩ := k2; exact DataW.trod_lt m _ _ _ hm
  obtain ⟨a1, rfl, _, _, _⟩ := open_int Try.underlying3 (hval 1 3 v1 rfl rfl) h1
  obtain ⟨a2, rfl, _, _, wf2⟩ := open_int Try.underlying31 (hval 2 31 v2 rfl rfl) h2
  have hwalk : Calls Try.prog 7 #[v0, .int .i64 a1, .int .u32 a2] W fun e w' => e = .returned (.bool true) ∧ Below W.heap.size W w' := by
    obtain ⟨a0, len0, cap0, rfl⟩ := okWide_slice Try.underlying30 (hval 0 30 v0 rfl rfl)
    obtain ⟨fuel, hf⟩ := h0
    obtain ⟨l, A, n, c, hv, hl, hc, hcm, hL⟩ := open_bytes Try.underlying30 Try.underlying5 (by kernel_rfl) (by simpa [Value.cells] using hf)
    injection hv with e1 e2 e3
    subst e1 e2 e3
    by_cases hn : 100 < len0
    · exact bagTwins_many a0 len0 cap0 a1 a2 W hn
    · have hb := bounds_u32 wf2
      exact bagTwins_walk a0 len0 cap0 l a1 a2 W hl (by omega) hc hcm hL (by omega) (by omega)
  clear hA0 hval0
  refine hwalk.mono fun e W' ⟨he, bel⟩ => ?_
  subst he
  exact ⟨_, rfl, _, _, _, [], _, [], hW', trodAll_mk1 (shut_bool Try.underlying4 _), (trodAll_cons_mk (Below.trod laidOut (by kernel_rfl) (of_decide_eq_true (by kernel_rfl)) k0 bel lt0) (trodAll_cons_mk (Below.trod laidOut (by kernel_rfl) (of_decide_eq_true (by kernel_rfl)) k1 bel lt1) (trodAll_cons_mk (Below.trod laidOut (by kernel_rfl) (of_decide_eq_true (by kernel_rfl)) k2 bel lt2) trodAll_mk0))), rfl, bel.frame _, fun h => by cases h⟩

theorem bagTwins_proved : Rows.BagTwinsSaid :=
  OpenClaim.holds_of_wide 7 Try.f7 rfl rfl rfl rfl rfl rfl rfl ⟨rfl, rfl, rfl, rfl, rfl⟩ rfl rfl rfl rfl rfl (by kernel_rfl) Try.func7 (by kernel_rfl)
    (of_decide_eq_true (by kernel_rfl)) (by unfold Func.isWrapper; first | (rw [if_pos (by decide +kernel)]; kernel_rfl) | (rw [if_neg (by decide +kernel)]; exact ⟨rfl, rfl⟩))
    (fun os started H enc _ => bagTwins_lifted os started H enc)

end Go.Proofs.Ytjecphjdmjoeiaa
