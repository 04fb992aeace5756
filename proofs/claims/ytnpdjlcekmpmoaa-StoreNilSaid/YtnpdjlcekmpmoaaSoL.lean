/- Stage 14: the walk of Put. -/
import Derived.Test.YtnpdjlcekmpmoaaSoK
set_option maxRecDepth 20000
namespace Go.Proofs.Ytnpdjlcekmpmoaa
open Go.RowKit Go.Sort Go.Maps

section
variable {w : World} {base g mb fb : Nat} {m : Sm} {D : Nat → Prop}
set_option maxHeartbeats 1600000 in
theorem put_no (h : StAt w base g mb fb m D) (x : Id) (b : List UInt8) {A : Option Addr} {n c : Nat} (hn : b.length = n) (_ : n ≤ 1000) (ht : m.takes x b = false) :
    Calls Try.prog 19 #[sptr g, valId x, .slice A n c] w fun e w' => e = .returned (.bool false) ∧ RowKit.Below w.heap.size w w' := by
  have mixed := mixedOrders
  have hL : Hid (∀ W, RowKit.Below w.heap.size w W → Calls Try.prog 32 #[.pointer (some ⟨g, 0, none⟩), .agg #[.int .u8 (x.f : Int), .int .u64 (x.s : Int)]] W fun e w' => e = .returned (.bool (m.lacks x)) ∧ RowKit.Below W.heap.size W w') := fun W hW => lacks_any (h.on hW) x
  have c2 := h.c2
  have c3 := h.c3
  have hlt := h.lt
  have hu := h.ok.use
  have hr := h.ok.room
  have hq : Hid (m.lacks x = true → decide (m.room - useL m.l < n) = true) := fun hq => by
    unfold Sm.takes at ht
    rw [hq, Bool.true_and, decide_eq_false_iff_not, hn] at ht
    exact decide_eq_true (by omega)
  have hd0 : Hid ((m.room : Int) - (useL m.l : Int) = ((m.room - useL m.l : Nat) : Int)) := by show _ = _; omega
  clear h ht hn
  generalize m.lacks x = q at hL hq
  generalize useL m.l = us at c3 hu hq hd0
  generalize m.room = rm at c2 hu hr hq hd0
  unfold sptr valId
  cases q with
  | false =>
    clear hq
    go_enter Try.func19, Try.ntmps19
    go_wp2_with fail
    generalize hw0 : World.alloc w _ = w0
    obtain ⟨hs0, hG, hcc⟩ := box1 w w0 _ _ hw0
    have hb0 : RowKit.Below w.heap.size w w0 := hG.below
    have x0 := later_cell (w0 := w0) (by omega) (hcc 0 _ rfl)
    have x1 := later_cell (w0 := w0) (by omega) (hcc 1 _ rfl)
    have HB := Lib.hid hb0
    clear hcc hw0 hG c2 c3 hb0 hd0
    refine wp_region_later mixed (by kernel_rfl) ?_
    repeat (go_big_quiet_step (first | (go_at_call 32; exact later_of (hL.out _ (HB.out.trans (Later.hb _ |>.mono HB.out.size))))))
    refine wpQuiet_nil ?_
    intro _ hw'
    obtain ⟨p, rfl⟩ := hw'
    have hbp : RowKit.Below w.heap.size w p.w := HB.out.trans (p.hb.mono HB.out.size)
    go_wp2
    go_ret
    exact ⟨rfl, hbp⟩
  | true =>
    have hd := hq.out rfl
    clear hq
    have hf : rm - us ≤ 9223372036854775807 := by omega
    generalize rm - us = fr at hd hd0 hf
    have hd1 := hd0.out
    clear hd0
    go_enter Try.func19, Try.ntmps19
    go_wp2_with fail
    generalize hw0 : World.alloc w _ = w0
    obtain ⟨hs0, hG, hcc⟩ := box1 w w0 _ _ hw0
    have hb0 : RowKit.Below w.heap.size w w0 := hG.below
    have x0 := later_cell (w0 := w0) (by omega) (hcc 0 _ rfl)
    have x1 := later_cell (w0 := w0) (by omega) (hcc 1 _ rfl)
    have y2 := later_cell (w0 := w0) (b := g) (by omega) ((hb0.cell (p := ⟨g, 2, none⟩) hlt).trans c2)
    have y3 := later_cell (w0 := w0) (b := g) (by omega) ((hb0.cell (p := ⟨g, 3, none⟩) hlt).trans c3)
    have HB := Lib.hid hb0
    clear hcc hw0 hG c2 c3 hb0
    refine wp_region_later mixed (by kernel_rfl) ?_
    repeat (go_big_quiet_step (first | (go_at_call 32; exact later_of (hL.out _ (HB.out.trans (Later.hb _ |>.mono HB.out.size))))))
    refine wpQuiet_nil ?_
    intro _ hw'
    obtain ⟨p, rfl⟩ := hw'
    have hbp : RowKit.Below w.heap.size w p.w := HB.out.trans (p.hb.mono HB.out.size)
    go_wp2
    go_ret
    exact ⟨rfl, hbp⟩

set_option maxHeartbeats 1600000 in
theorem put_yes (h : StAt w base g mb fb m D) (x : Id) (b : List UInt8) {A : Option Addr} {n c : Nat} (hn : b.length = n) (hn2 : n ≤ 1000) (hA : Lies w w.heap.size A (bvs b)) (hlen : m.l.length ≤ 1000) (ht : m.takes x b = true) :
    Calls Try.prog 19 #[sptr g, valId x, .slice A n c] w fun e w' => e = .returned (.bool true) ∧ StAt w' base g mb fb (m.put x b) D ∧ OnlyE w w' (own3 g mb fb) := by
  have mixed := mixedOrders
  have hL : Hid (∀ W, RowKit.Below w.heap.size w W → Calls Try.prog 32 #[.pointer (some ⟨g, 0, none⟩), .agg #[.int .u8 (x.f : Int), .int .u64 (x.s : Int)]] W fun e w' => e = .returned (.bool (m.lacks x)) ∧ RowKit.Below W.heap.size W w') := fun W hW => lacks_any (h.on hW) x
  have hC : Hid (∀ W, RowKit.Below w.heap.size w W → Calls Try.prog 33 #[.slice A n c] W (Owned W W.heap.size (bvs b))) := fun W hW => copyOf_any A n c b W hn2 hn (hA.later hW)
  have hP : Hid (∀ W w1 A1 n1 c1, RowKit.Below w.heap.size w W → RowKit.Below W.heap.size W w1 → b.length = n1 → n1 ≤ c1 → c1 ≤ maxLen → w1.ownsRow W.heap.size 5 1 (.slice A1 n1 c1) n1 (bvs b) → ∃ w4, (Instr.mapUpdate 54 (.map (some mb)) (valId x) (.slice A1 n1 c1)).run Try.prog w1 = .ok () w4 ∧
      w4.cell? ⟨g, 3, none⟩ = some (.int .i64 (useL m.l : Int)) ∧ w4.frozen? ⟨g, 3, none⟩ = false ∧
      StAt (w4.setCell ⟨g, 3, none⟩ (.int .i64 ((useL m.l : Int) + (n1 : Int)))) base g mb fb (m.put x b) D ∧ OnlyE w (w4.setCell ⟨g, 3, none⟩ (.int .i64 ((useL m.l : Int) + (n1 : Int)))) (own3 g mb fb)) := by
    intro W w1 A1 n1 c1 hW h1 e1 e2 e3 e4
    obtain ⟨w4, a1, a2, a3, a4, a5⟩ := (h.on hW).putIn x b ht hlen (by omega) e1 e2 e3 h1 e4
    exact ⟨w4, a1, a2, a3, a4, (OnlyE.of_below hW).trans a5⟩
  have c0 := h.c0
  have c2 := h.c2
  have c3 := h.c3
  have hlt := h.lt
  have hu := h.ok.use
  have hr := h.ok.room
  have hq : m.lacks x = true ∧ useL m.l + n ≤ m.room := by
    unfold Sm.takes at ht
    rw [Bool.and_eq_true, decide_eq_true_eq, hn] at ht
    exact ht
  have hd0 : (m.room : Int) - (useL m.l : Int) = ((m.room - useL m.l : Nat) : Int) := by omega
  have hd : decide (m.room - useL m.l < n) = false := decide_eq_false (by omega)
  have hsum : useL m.l + n ≤ 9223372036854775807 := by omega
  rw [hq.1] at hL
  have HN := Lib.hid hn
  clear h ht hq hA hn
  generalize m.put x b = m' at hP ⊢
  generalize useL m.l = us at c3 hu hd hd0 hP hsum
  generalize m.room = rm at c2 hu hr hd hd0
  have hf : rm - us ≤ 9223372036854775807 := by omega
  generalize rm - us = fr at hd hd0 hf
  unfold sptr
  unfold valId at hP ⊢
  go_enter Try.func19, Try.ntmps19
  go_wp2_with fail
  generalize hw0 : World.alloc w _ = w0
  obtain ⟨hs0, hG, hcc⟩ := box1 w w0 _ _ hw0
  have hb0 : RowKit.Below w.heap.size w w0 := hG.below
  have k0 := hcc 0 _ rfl
  have k1 := hcc 1 _ rfl
  have x0 := later_cell (w0 := w0) (by omega) k0
  have x1 := later_cell (w0 := w0) (by omega) k1
  have y2 := later_cell (w0 := w0) (b := g) (by omega) ((hb0.cell (p := ⟨g, 2, none⟩) hlt).trans c2)
  have y3 := later_cell (w0 := w0) (b := g) (by omega) ((hb0.cell (p := ⟨g, 3, none⟩) hlt).trans c3)
  have z0 := (hb0.cell (p := ⟨g, 0, none⟩) hlt).trans c0
  have HB := Lib.hid hb0
  clear hcc hw0 hG c0 c2 c3 hb0
  refine wp_region_later mixed (by kernel_rfl) ?_
  repeat (go_big_quiet_step (first | (go_at_call 32; exact later_of (hL.out _ (HB.out.trans (Later.hb _ |>.mono HB.out.size))))))
  refine wpQuiet_nil ?_
  intro _ hw'
  obtain ⟨p, rfl⟩ := hw'
  have hbp : RowKit.Below w.heap.size w p.w := HB.out.trans (p.hb.mono HB.out.size)
  have hs0' : w0.heap.size ≤ p.w.heap.size := p.hb.size
  have j0 : Hid (∀ V, RowKit.Below p.w.heap.size p.w V → V.cell? ⟨w.heap.size, 0, none⟩ = some (.int .u8 (x.f : Int))) := fun V hV => ((p.hb.trans (hV.mono p.hb.size)).cell (p := ⟨w.heap.size, 0, none⟩) (by show w.heap.size < _; omega)).trans k0
  have j1 : Hid (∀ V, RowKit.Below p.w.heap.size p.w V → V.cell? ⟨w.heap.size, 1, none⟩ = some (.int .u64 (x.s : Int))) := fun V hV => ((p.hb.trans (hV.mono p.hb.size)).cell (p := ⟨w.heap.size, 1, none⟩) (by show w.heap.size < _; omega)).trans k1
  have jg : Hid (∀ V, RowKit.Below p.w.heap.size p.w V → V.cell? ⟨g, 0, none⟩ = some (.map (some mb))) := fun V hV => ((p.hb.trans (hV.mono p.hb.size)).cell (p := ⟨g, 0, none⟩) (by show g < _; omega)).trans z0
  have HP := Lib.hid hbp
  clear hbp hs0' x0 x1 y2 y3 z0 k0 k1 hL HB
  generalize p.w = W at j0 j1 jg HP ⊢
  clear p hs0
  go_wp2_with fail
  have g0 := j0.out
  have g1 := j1.out
  have gg := jg.out
  clear j0 j1 jg
  refine wp_region_Z 7 (fun V => RowKit.Below W.heap.size W V) (by kernel_rfl) ?_
  have hHeld : RowKit.Below W.heap.size W W.drew := drewB W

  refine wpZ_take (i := 0) (d := 29) (v := ?_) rfl rfl (by kernel_rfl) (by kernel_rfl) (by kernel_rfl) (by kernel_rfl) (fun _ _ _ h => h) (Or.inl ⟨by rfl, ?_⟩) hHeld ?_
  rotate_left
  · (intro _ hSw; go_simp; try with_reducible rfl)
  simp only [List.setIfInBounds_toArray, List.set_cons_zero, List.set_cons_succ]
  refine wpZ_take (i := 1) (d := 30) (v := ?_) rfl rfl (by kernel_rfl) (by kernel_rfl) (by kernel_rfl) (by kernel_rfl) (fun _ _ _ h => h) (Or.inl ⟨by rfl, ?_⟩) hHeld ?_
  rotate_left
  · (intro _ hSw; go_simp; try with_reducible rfl)
  simp only [List.setIfInBounds_toArray, List.set_cons_zero, List.set_cons_succ]
  refine wpZ_take (i := 2) (d := 31) (v := ?_) rfl rfl (by kernel_rfl) (by kernel_rfl) (by kernel_rfl) (by kernel_rfl) (fun _ _ _ h => h) (Or.inl ⟨by rfl, ?_⟩) hHeld ?_
  rotate_left
  · (intro _ hSw; go_simp; try with_reducible rfl)
  simp only [List.setIfInBounds_toArray, List.set_cons_zero, List.set_cons_succ]
  refine wpZ_take (i := 3) (d := 32) (v := ?_) rfl rfl (by kernel_rfl) (by kernel_rfl) (by kernel_rfl) (by kernel_rfl) (fun _ _ _ h => h) (Or.inl ⟨by rfl, ?_⟩) hHeld ?_
  rotate_left
  · (intro _ hSw; go_simp; try with_reducible rfl)
  simp only [List.setIfInBounds_toArray, List.set_cons_zero, List.set_cons_succ]
  refine wpZ_take (i := 4) (d := 33) (v := ?_) rfl rfl (by kernel_rfl) (by kernel_rfl) (by kernel_rfl) (by kernel_rfl) (fun _ _ _ h => h) (Or.inl ⟨by rfl, ?_⟩) hHeld ?_
  rotate_left
  · (intro _ hSw; go_simp; try with_reducible rfl)
  simp only [List.setIfInBounds_toArray, List.set_cons_zero, List.set_cons_succ]
  refine wpZ_take (i := 5) (d := 34) (v := ?_) rfl rfl (by kernel_rfl) (by kernel_rfl) (by kernel_rfl) (by kernel_rfl) (fun _ _ _ h => h) (Or.inl ⟨by rfl, ?_⟩) hHeld ?_
  rotate_left
  · (intro _ hSw; go_simp; try with_reducible rfl)
  simp only [List.setIfInBounds_toArray, List.set_cons_zero, List.set_cons_succ]
  refine wpZ_ready (rs := [6]) (by kernel_rfl) (by simp) ?_
  refine AllReadyZ.cons rfl (fun K hK => ?_) AllReadyZ.nil
  go_simp
  refine (hC.out _ (HP.out.trans (hHeld.mono HP.out.size))).mono ?_
  rintro e w3 ⟨A1, n1, c1, rfl, hn1, h1, h2, ho, hb3⟩
  rw [bvs_length] at hn1
  obtain ⟨w4, hrun, q1, q2, q3, q4⟩ := hP.out W w3 A1 n1 c1 HP.out (hHeld.trans (hb3.mono hHeld.size)) hn1 h1 h2 (own_base ho hHeld.size)
  have hHeld2 := hHeld.trans (hb3.mono hHeld.size)
  refine hK.out _ _ (fun _ => hHeld2) ?_
  clear hK K hHeld
  have hHeld := hHeld2
  clear hHeld2
  refine wpZ_ready (rs := [7]) (by kernel_rfl) (by simp) ?_
  refine AllReadyZ.cons rfl (fun K hK => ?_) AllReadyZ.nil
  refine wp_mapUpdate_step (x := .tmp 32) (y := .tmp 33) (z := .tmp 35) rfl rfl rfl rfl rfl hrun ?_
  refine hK.out _ _ (fun h => absurd rfl h) ?_
  clear hK K
  refine wpZ_done (by kernel_rfl) ?_ _
  have hnn : n1 = n := by rw [← hn1]; exact HN.out
  subst hnn
  have HQ3 := Lib.hid q3
  have HQ4 := Lib.hid q4
  clear hrun q3 q4 hb3 ho hHeld g0 g1 gg hP hC
  go_wp2
  go_ret
  exact ⟨rfl, HQ3.out, HQ4.out⟩

theorem put_any (h : StAt w base g mb fb m D) (x : Id) (b : List UInt8) {A : Option Addr} {n c : Nat} (hn : b.length = n) (hn2 : n ≤ 1000) (hA : Lies w w.heap.size A (bvs b)) (hlen : m.l.length ≤ 1000) :
    Calls Try.prog 19 #[sptr g, valId x, .slice A n c] w fun e w' => e = .returned (.bool (m.takes x b)) ∧ StAt w' base g mb fb (m.put x b) D ∧ OnlyE w w' (own3 g mb fb) := by
  cases ht : m.takes x b with
  | true => exact put_yes h x b hn hn2 hA hlen ht
  | false =>
    refine (put_no h x b hn hn2 ht).mono ?_
    rintro e w' ⟨rfl, hb⟩
    have e : m.put x b = m := by unfold Sm.put; rw [if_neg (by rw [ht]; simp)]
    rw [e]
    exact ⟨rfl, h.on hb, OnlyE.of_below hb⟩
end

end Go.Proofs.Ytnpdjlcekmpmoaa
