/- turn, mayTurn, Turn. -/
import Derived.Test.YtjecphjdmjoeiaaBgI
import Derived.RegionTactic
namespace Go.Proofs.Ytjecphjdmjoeiaa
open Go.RowKit Go.Sort

theorem drewB (W : World) : RowKit.Below W.heap.size W W.drew := (RowKit.Below.refl _ _).drew

section
variable {w : World} {base p : Nat} {T : Value} {room lost : Nat} {l : List Th} {D : Nat → Prop}

set_option maxHeartbeats 1600000 in
theorem turn_any (h : BagAt w base p T room lost l D) {i g m c0 at_ s : Nat} {v : Value} {b : List UInt8} (hT : T = .slice (some ⟨g, 0, none⟩) m c0) (hi : i < l.length) (hx : l[i]? = some ⟨v, b, false⟩) (hs : s < 4294967296) (ha : at_ + 32 ≤ 8 * b.length) :
    Calls Try.prog 30 #[.pointer (some ⟨g, i * 2, none⟩), .int .i64 (at_ : Int), .int .u32 (s : Int)] w fun e w' =>
      e = .returned (.tuple #[]) ∧ BagAt w' base p T room lost (l.set i ⟨v, turnN b at_ s 32, true⟩) D ∧ OnlyE w w' D := by
  have hmem : (⟨v, b, false⟩ : Th) ∈ l := List.mem_of_getElem? hx
  have hb1 : b.length ≤ 1000 := h.bm _ hmem
  obtain ⟨bk, c, hv, -, -⟩ := (h.bod _ hmem).form (by show 0 < b.length; omega)
  simp only [] at hv
  subst hv
  have hS : BagAt w base p T room lost (l.set i ⟨.slice (some ⟨bk, 0, none⟩) b.length c, turnN b at_ s 0, false⟩) D := by
    rw [turnN]
    have : l.set i ⟨.slice (some ⟨bk, 0, none⟩) b.length c, b, false⟩ = l := by
      obtain ⟨hil, hie⟩ := List.getElem?_eq_some_iff.1 hx
      rw [← hie]
      exact List.set_getElem_self hil
    rw [this]
    exact h
  have HS := Lib.hid hS
  clear h hS hmem hx
  go_enter Try.func30, Try.ntmps30
  go_wp2_with fail
  go_loopw [6, 7, 8] (fun _ _ s8 wr => ∃ q : Nat, q ≤ 32 ∧ s8 = .int .i64 q ∧ BagAt wr base p T room lost (l.set i ⟨.slice (some ⟨bk, 0, none⟩) b.length c, turnN b at_ s q, false⟩) D ∧ OnlyE w wr D) (fun _ _ s8 _ => 32 - (intOf s8).toNat)
  case atStart => exact ⟨0, Nat.zero_le _, rfl, HS.out, OnlyE.refl _ _⟩
  case round =>
    clear HS
    obtain ⟨q, hq, rfl, hB, ho⟩ := hrel
    have hil : i < (l.set i (⟨.slice (some ⟨bk, 0, none⟩) b.length c, turnN b at_ s q, false⟩ : Th)).length := by rw [List.length_set]; exact hi
    have hget : (l.set i (⟨.slice (some ⟨bk, 0, none⟩) b.length c, turnN b at_ s q, false⟩ : Th))[i] = ⟨.slice (some ⟨bk, 0, none⟩) b.length c, turnN b at_ s q, false⟩ := List.getElem_set_self hil
    have hget? : (l.set i (⟨.slice (some ⟨bk, 0, none⟩) b.length c, turnN b at_ s q, false⟩ : Th))[i]? = some ⟨.slice (some ⟨bk, 0, none⟩) b.length c, turnN b at_ s q, false⟩ := by rw [List.getElem?_eq_getElem hil, hget]
    obtain ⟨g', c', hT', -, -, d0, d1, f1⟩ := hB.thing hil
    obtain ⟨rfl, rfl⟩ : g = g' ∧ c0 = c' := by
      rw [hT] at hT'
      injection hT' with e1 _ e3
      injection e1 with e1
      injection e1 with e1
      exact ⟨e1, e3⟩
    rw [hget] at d0 d1
    simp only [] at d0 d1
    have hown := hB.bod _ (List.mem_of_getElem? hget?)
    have hlen := turnN_length b at_ s q
    simp only [hlen] at hown
    clear hT' hget hil
    by_cases hlt : q < 32
    · have hx := bit_and s q hs
      by_cases hbit : s / 2 ^ q % 2 = 1
      · rw [hbit] at hx
        have HT : Hid (s.testBit q = true) := by
          show s.testBit q = true
          rw [Nat.testBit_eq_decide_div_mod_eq, hbit]; rfl
        have hk8 : (at_ + q) / 8 < b.length := by omega
        have hcell : wr.cell? ⟨bk, (at_ + q) / 8, none⟩ = some (.int .u8 (((turnN b at_ s q).getD ((at_ + q) / 8) 0).toNat : Int)) := by
          rw [hown.cellAt _ (by omega), bvs_at (by omega)]
          simp [bv, List.getD, hlen, hk8]
        have hfr := hown.frozenAt ((at_ + q) / 8)
        have hx8 := ((turnN b at_ s q).getD ((at_ + q) / 8) 0).toNat_lt
        have HB := Lib.hid hB
        have HO := Lib.hid ho
        have HG := Lib.hid hget?
        clear hbit hB ho hown hget? hlen f1 d1
        go_wp2_with fail
        rw [show (at_ : Int) + (q : Int) = ((at_ + q : Nat) : Int) from rfl]
        have HY := Lib.hid (turnN_yes (l := b) (p := at_) HT.out)
        generalize hkk : at_ + q = k at hk8 hcell hfr hx8 HY ⊢
        generalize hyy : ((turnN b at_ s q).getD (k / 8) 0).toNat = y at hcell hx8 HY
        have hkb : k ≤ 100000 := by omega
        clear hkk hyy
        go_region
        all_goals
          go_wp2
          go_roundw
          case rel =>
            refine ⟨q + 1, by omega, by go_num, ?_⟩
            obtain ⟨r1, r2⟩ := HB.out.setByte (j := k / 8) HG.out (UInt8.ofNat (y ^^^ 2 ^ (k % 8)))
            rw [← flip_val y _ hx8 (Nat.mod_lt _ (by decide)), List.set_set, ← HY.out] at r1
            rw [← flip_val y _ hx8 (Nat.mod_lt _ (by decide))] at r2
            exact ⟨r1.on (drewB _), (HO.out.trans r2).trans (OnlyE.of_below (drewB _))⟩
          case measure => simp [intOf]; omega
      · have hb0 : s / 2 ^ q % 2 = 0 := by omega
        rw [hb0] at hx
        have HT : Hid (s.testBit q = false) := by
          show s.testBit q = false
          rw [Nat.testBit_eq_decide_div_mod_eq, hb0]; rfl
        have HB := Lib.hid hB
        have HO := Lib.hid ho
        clear hbit hb0 hB ho hown hget? hlen f1 d1
        go_wp2
        go_roundw
        case rel => exact ⟨q + 1, by omega, by go_num, by rw [turnN_no HT.out]; exact HB.out, HO.out⟩
        case measure => simp [intOf]; omega
    · obtain rfl : q = 32 := by omega
      have HB := Lib.hid hB
      have HO := Lib.hid ho
      have HG := Lib.hid hget?
      clear hB ho hown hget? hlen
      go_wp2
      go_end0
      obtain ⟨r1, r2⟩ := HB.out.setFlag hT HG.out true
      rw [List.set_set] at r1
      exact ⟨rfl, r1, HO.out.trans r2⟩

/-- Whether a thing may be turned. -/
def mayT (t : Bool) (n : Nat) (at_ s : Int) : Prop := t = false ∧ s ≠ 0 ∧ 0 ≤ at_ ∧ at_ ≤ 8 * (n : Int) - 32

theorem mayTurn_yes {g o n c : Nat} {A : Option Addr} {t : Bool} {at_ s : Int} (d0 : w.cell? ⟨g, o, none⟩ = some (.slice A n c)) (d1 : w.cell? ⟨g, o + 1, none⟩ = some (.bool t)) (hn : n ≤ 1000) (hm : mayT t n at_ s) :
    Calls Try.prog 29 #[.pointer (some ⟨g, o, none⟩), .int .i64 at_, .int .u32 s] w fun e w' => e = .returned (.bool true) ∧ w' = w := by
  obtain ⟨rfl, h1, h2, h3⟩ := hm
  have e1 : (s == 0) = false := by simpa using h1
  have e1' : (s != 0) = true := by simpa using h1
  have e2 : decide (at_ < 0) = false := by simp; omega
  have e3 : decide (8 * (n : Int) - 32 < at_) = false := by simp; omega
  have hn' : (n : Int) ≤ 1000 := by omega
  clear h1
  go_enter Try.func29, Try.ntmps29
  go_wp2
  go_ret
  exact ⟨rfl, rfl⟩

theorem mayTurn_no {g o n c : Nat} {A : Option Addr} {t : Bool} {at_ s : Int} (d0 : w.cell? ⟨g, o, none⟩ = some (.slice A n c)) (d1 : w.cell? ⟨g, o + 1, none⟩ = some (.bool t)) (hn : n ≤ 1000) (hm : ¬ mayT t n at_ s) :
    Calls Try.prog 29 #[.pointer (some ⟨g, o, none⟩), .int .i64 at_, .int .u32 s] w fun e w' => e = .returned (.bool false) ∧ w' = w := by
  have hn' : (n : Int) ≤ 1000 := by omega
  cases t with
  | true =>
    clear hm
    go_enter Try.func29, Try.ntmps29
    go_wp2
    go_ret
    exact ⟨rfl, rfl⟩
  | false =>
    by_cases h1 : s = 0
    · subst h1
      clear hm
      go_enter Try.func29, Try.ntmps29
      go_wp2
      go_ret
      exact ⟨rfl, rfl⟩
    · have e1 : (s == 0) = false := by simpa using h1
      have e1' : (s != 0) = true := by simpa using h1
      by_cases h2 : at_ < 0
      · have e2 : decide (at_ < 0) = true := by simpa using h2
        clear hm h1
        go_enter Try.func29, Try.ntmps29
        go_wp2
        go_ret
        exact ⟨rfl, rfl⟩
      · have e2 : decide (at_ < 0) = false := by simpa using h2
        have h3 : 8 * (n : Int) - 32 < at_ := by
          by_cases h : 8 * (n : Int) - 32 < at_
          · exact h
          · exact absurd ⟨rfl, h1, by omega, by omega⟩ hm
        have e3 : decide (8 * (n : Int) - 32 < at_) = true := by simpa using h3
        have e4 : decide (at_ ≤ 8 * (n : Int) - 32) = false := by simp; omega
        clear hm h1
        go_enter Try.func29, Try.ntmps29
        go_wp2
        go_ret
        exact ⟨rfl, rfl⟩

theorem turn_none (h : BagAt w base p T room lost l D) (i at_ s : Int) (hi : ¬ (0 ≤ i ∧ i < l.length)) : Calls Try.prog 19 #[.pointer (some ⟨p, 0, none⟩), .int .i64 i, .int .i64 at_, .int .u32 s] w fun e w' => e = .returned (.bool false) ∧ w' = w := by
  have hh := has_any h i
  rw [decide_eq_false hi] at hh
  clear h
  go_enter Try.func19, Try.ntmps19
  go_wp2_with (go_at_call 25; refine hh.mono ?_; rintro e w' ⟨rfl, rfl⟩)
  go_ret
  exact ⟨rfl, rfl⟩

theorem turn_not (h : BagAt w base p T room lost l D) (i : Nat) (at_ s : Int) (hi : i < l.length) (hm : ¬ mayT l[i].t l[i].b.length at_ s) : Calls Try.prog 19 #[.pointer (some ⟨p, 0, none⟩), .int .i64 (i : Int), .int .i64 at_, .int .u32 s] w fun e w' => e = .returned (.bool false) ∧ w' = w := by
  have hh := has_any h (i : Int)
  rw [decide_eq_true (by omega : 0 ≤ (i : Int) ∧ (i : Int) < l.length)] at hh
  obtain ⟨g, c, rfl, -, -, d0, d1, -⟩ := h.thing hi
  obtain ⟨A, c1, hv, -, -, -⟩ := h.body hi
  rw [hv] at d0
  have hmt := mayTurn_no d0 d1 (h.bm _ (List.getElem_mem hi)) hm
  have hi4 : i < 4096 := by have h1 := h.fit; have h2 := h.room2; omega
  have c0 := h.c0
  clear h hv hm d0 d1
  go_enter Try.func19, Try.ntmps19
  go_wp2_with (first | (go_at_call 25; refine hh.mono ?_; rintro e w' ⟨rfl, rfl⟩) | (go_at_call 29; refine hmt.mono ?_; rintro e w' ⟨rfl, rfl⟩))
  go_ret
  exact ⟨rfl, rfl⟩

set_option maxHeartbeats 800000 in
theorem turnBag_any (h : BagAt w base p T room lost l D) (i : Nat) (at_ s : Nat) (hi : i < l.length) (hs : s < 4294967296) (hm : mayT l[i].t l[i].b.length (at_ : Int) (s : Int)) :
    Calls Try.prog 19 #[.pointer (some ⟨p, 0, none⟩), .int .i64 (i : Int), .int .i64 (at_ : Int), .int .u32 (s : Int)] w fun e w' =>
      e = .returned (.bool true) ∧ BagAt w' base p T room lost (l.set i ⟨l[i].v, turnN l[i].b at_ s 32, true⟩) D ∧ OnlyE w w' D := by
  have hh := has_any h (i : Int)
  rw [decide_eq_true (by omega : 0 ≤ (i : Int) ∧ (i : Int) < l.length)] at hh
  obtain ⟨g, c, rfl, -, -, d0, d1, -⟩ := h.thing hi
  obtain ⟨A, c1, hv, -, -, -⟩ := h.body hi
  have d0' := d0
  rw [hv] at d0'
  have hmt := mayTurn_yes d0' d1 (h.bm _ (List.getElem_mem hi)) hm
  have hi4 : i < 4096 := by have h1 := h.fit; have h2 := h.room2; omega
  have c0 := h.c0
  have htn := turn_any h (i := i) (v := l[i].v) (b := l[i].b) (at_ := at_) (s := s) rfl hi (by rw [List.getElem?_eq_getElem hi, ← hm.1]) hs (by have := hm.2.2.2; omega)
  clear h hv hm d0 d0' d1
  go_enter Try.func19, Try.ntmps19
  go_wp2_with (first | (go_at_call 25; refine hh.mono ?_; rintro e w' ⟨rfl, rfl⟩) | (go_at_call 29; refine hmt.mono ?_; rintro e w' ⟨rfl, rfl⟩) | (go_at_call 30; refine htn.mono ?_; rintro e w2 ⟨rfl, hB, hO⟩))
  go_ret
  exact ⟨rfl, hB, hO⟩
end

end Go.Proofs.Ytjecphjdmjoeiaa
