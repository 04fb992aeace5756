/- The walks of the statements' own example (awake), and of IdentChain. -/
import Derived.Test.YtoihikeeaobemaaIdJ
import Derived.Test.YtoihikeeaobemaaIdM
namespace Go.Proofs.Ytoihikeeaobemaa
open Go.RowKit Go.Sort

set_option maxHeartbeats 800000 in
theorem awake_any (w : World) : Calls Try.prog 8 #[] w fun e w' => e = .returned (.bool true) ∧ RowKit.Below w.heap.size w w' := by
  have hGd := guardRn
  go_enter Try.func8, Try.ntmps8
  go_wp2_with fail
  have hL := lies_new w #[Value.int IntKind.u8 0, Value.int IntKind.u64 2, Value.int IntKind.u8 0, Value.int IntKind.u64 1, Value.int IntKind.u8 0, Value.int IntKind.u64 5] 24
  generalize hw0 : World.alloc w _ = w0 at hL ⊢
  have hb0 : RowKit.Below w.heap.size w w0 := by rw [← hw0]; exact (RowKit.Below.refl _ _).alloc (Nat.le_refl _) _
  have hs0 : w0.heap.size = w.heap.size + 1 := by rw [← hw0]; simp
  rw [← hs0] at hL
  have hj := join_any _ 3 3 [mkI 0 2, mkI 0 1, mkI 0 5] w0 rfl (by decide) hL
  rw [join_example] at hj
  clear hL hw0 hs0
  refine hj.mono ?_
  rintro e w1 ⟨A1, n1, c1, rfl, hn1, _, _, hown, hb1⟩
  obtain rfl : n1 = 2 := hn1.out.symm
  obtain ⟨g, cap, hv, _, _⟩ := hown.form (by decide)
  obtain ⟨rfl, rfl⟩ : A1 = some ⟨g, 0, none⟩ ∧ c1 = cap := by injection hv with e1 _ e3; exact ⟨e1, e3⟩
  have a0 := hown.cellAt 0 (by decide)
  have a1 := hown.cellAt 1 (by decide)
  have a2 := hown.cellAt 2 (by decide)
  have a3 := hown.cellAt 3 (by decide)
  have a4 := hown.cellAt 4 (by decide)
  have a5 := hown.cellAt 5 (by decide)
  simp [flat, encRn] at a0 a1 a2 a3 a4 a5
  have hb2 : RowKit.Below w.heap.size w w1 := hb0.trans (hb1.mono hb0.size)
  clear hown hv hj hn1
  go_wp2
  go_ret
  exact ⟨rfl, hb2⟩

theorem box3 (W w0 : World) (c1 c2 c3 : Array Value) (t1 t2 t3 : TypeId) (h : ((W.alloc (.cells c1 t1)).alloc (.cells c2 t2)).alloc (.cells c3 t3) = w0) : w0.heap.size = W.heap.size + 1 + 1 + 1 ∧ Grew W w0 ∧
    (∀ j u, c1[j]? = some u → w0.cell? ⟨W.heap.size, j, none⟩ = some u) ∧ (∀ j u, c2[j]? = some u → w0.cell? ⟨W.heap.size + 1, j, none⟩ = some u) ∧ (∀ j u, c3[j]? = some u → w0.cell? ⟨W.heap.size + 1 + 1, j, none⟩ = some u) := by
  generalize hw1 : W.alloc (.cells c1 t1) = w1 at h
  obtain ⟨s1, g1, k1⟩ := box1 W w1 _ _ hw1
  obtain ⟨s2, g2, k2, k3⟩ := box2 w1 w0 _ _ _ _ h
  refine ⟨by omega, g1.trans g2, fun j u hu => ?_, fun j u hu => ?_, fun j u hu => ?_⟩
  · exact (g2.below.cell (p := ⟨W.heap.size, j, none⟩) (by show W.heap.size < w1.heap.size; omega)).trans (k1 j u hu)
  · rw [← s1]; exact k2 j u hu
  · rw [← s1]; exact k3 j u hu

theorem ltB_self (x : Id) : ltB x x = false := (ltB_not x x).2 (lt_irrefl x)
theorem ltB_flip {x y : Id} (h : x ≠ y) : ltB y x = !ltB x y := by
  cases h1 : ltB x y
  · cases h2 : ltB y x
    · rw [ltB_not] at h1 h2
      rcases lt_total x y with h3 | h3 | h3
      · exact absurd h3 h1
      · exact absurd h3 h
      · exact absurd h3 h2
    · rfl
  · rw [ltB_lt] at h1
    exact (ltB_not y x).2 (lt_asymm h1)
theorem ltB_chain (a b c : Id) : (!ltB a b || !ltB b c || ltB a c) = true := by
  cases h1 : ltB a b
  · rfl
  · cases h2 : ltB b c
    · rfl
    · rw [ltB_lt] at h1 h2
      simp [(ltB_lt a c).2 (lt_trans h1 h2)]

theorem less_lit (x y : Id) (W : World) : Calls Try.prog 11 #[.agg #[.int .u8 (x.f : Int), .int .u64 (x.s : Int)], .agg #[.int .u8 (y.f : Int), .int .u64 (y.s : Int)]] W fun e w' => e = .returned (.bool (ltB x y)) ∧ Grew W w' := less_any x y W

set_option maxHeartbeats 1600000 in
theorem identChain_walk (a b c : Id) (w : World) : Calls Try.prog 6 #[valId a, valId b, valId c] w fun e w' => e = .returned (.bool true) ∧ RowKit.Below w.heap.size w w' := by
  have mixed := mixedOrders
  have hGd := guardId
  have hch := ltB_chain a b c
  have hN := neqId a b
  have haa := ltB_self a
  have hfl : decide (a = b) = true ∧ ltB a b = false ∧ ltB b a = false ∨ decide (a = b) = false ∧ (ltB a b == ltB b a) = false := by
    by_cases h : a = b
    · subst h; exact .inl ⟨decide_eq_true rfl, ltB_self _, ltB_self _⟩
    · exact .inr ⟨decide_eq_false h, by rw [ltB_flip h]; cases ltB a b <;> rfl⟩
  generalize decide (a = b) = de at hN hfl
  have HCH := Lib.hid hch
  clear hch
  unfold valId
  go_enter Try.func6, Try.ntmps6
  go_wp2_with fail
  generalize hw0 : ((World.alloc w _).alloc _).alloc _ = w0
  obtain ⟨hs0, hG, hc1, hc2, hc3⟩ := box3 w w0 _ _ _ _ _ _ hw0
  obtain ⟨a0, a1⟩ := id_grown (x := a) (b := w.heap.size) (by omega) (hc1 0 _ rfl) (hc1 1 _ rfl)
  obtain ⟨b0, b1⟩ := id_grown (x := b) (b := w.heap.size + 1) (by omega) (hc2 0 _ rfl) (hc2 1 _ rfl)
  obtain ⟨d0, d1⟩ := id_grown (x := c) (b := w.heap.size + 1 + 1) (by omega) (hc3 0 _ rfl) (hc3 1 _ rfl)
  have HG : Hid (Grew w w0) := hG
  clear hc1 hc2 hc3 hw0 hs0 hG
  rcases hfl with ⟨rfl, hab, hba⟩ | ⟨rfl, hne⟩
  · go_quiet_grown (first | (go_at_call 11; exact Calls.grown_of (less_lit _ _ _)))
    go_wp2_with fail
    refine (Calls.grown_of (less_lit a b _)).mono ?_
    rintro e w' ⟨rfl, ⟨n1, o1⟩, rfl⟩
    dsimp only
    go_wp2_with (go_at_call 8; refine (awake_any _).mono ?_; rintro e w' ⟨rfl, hb⟩)
    go_ret
    have hg := (HG.out.grown n1 o1).below
    exact ⟨rfl, hg.trans (hb.mono hg.size)⟩
  · go_quiet_grown (first | (go_at_call 11; exact Calls.grown_of (less_lit _ _ _)))
    go_wp2_with fail
    refine (Calls.grown_of (less_lit a b _)).mono ?_
    rintro e w' ⟨rfl, ⟨n1, o1⟩, rfl⟩
    dsimp only
    clear hne
    cases hab : ltB a b with
    | false =>
      go_wp2_with (go_at_call 8; refine (awake_any _).mono ?_; rintro e w' ⟨rfl, hb⟩)
      go_ret
      have hg := (HG.out.grown n1 o1).below
      exact ⟨rfl, hg.trans (hb.mono hg.size)⟩
    | true =>
      go_wp2_with fail
      refine (Calls.grown_of (less_lit b c _)).mono ?_
      rintro e w' ⟨rfl, ⟨n2, o2⟩, rfl⟩
      dsimp only
      cases hbc : ltB b c with
      | false =>
        go_wp2_with (go_at_call 8; refine (awake_any _).mono ?_; rintro e w' ⟨rfl, hb⟩)
        go_ret
        have hg := (HG.out.grown n2 o2).below
        exact ⟨rfl, hg.trans (hb.mono hg.size)⟩
      | true =>
        have hac : ltB a c = true := by have := HCH.out; rw [hab, hbc] at this; simpa using this
        go_wp2_with fail
        refine (Calls.grown_of (less_lit a c _)).mono ?_
        rintro e w' ⟨rfl, ⟨n3, o3⟩, rfl⟩
        dsimp only
        go_wp2_with (go_at_call 8; refine (awake_any _).mono ?_; rintro e w' ⟨rfl, hb⟩)
        go_ret
        have hg := (HG.out.grown n3 o3).below
        exact ⟨rfl, hg.trans (hb.mono hg.size)⟩

end Go.Proofs.Ytoihikeeaobemaa
