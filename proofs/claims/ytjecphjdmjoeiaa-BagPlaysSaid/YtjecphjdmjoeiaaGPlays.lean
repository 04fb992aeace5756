/- BagPlays: for every room and every list of acts the call returns true (any row of acts is answered, and leaves all things in their order, as the document says; what is handed in isn't kept), and changes nothing that was there. No conditions. -/
import Derived.Test.YtjecphjdmjoeiaaBgZb
import Derived.ChangeOld
namespace Go.Proofs.Ytjecphjdmjoeiaa
open Go.ChangeShapes Go.WideShapes Go.ChangeAt Go.RowKit

/-- The document's list doesn't lie in a block that holds a bag of the document's. -/
theorem LiesX.off {W : World} {D : Nat → Prop} {A : Option Addr} {gl : List (List UInt8 × Bool)} {q n c : Nat} {a b : Int} {B : Option Addr} {t : TypeId} {fr : Nat × Nat} (h : LiesX W D A (flat encG gl)) (hq : W.heap[q]? = some (.cells #[.int .i64 a, .slice B n c, .int .i64 b] t fr)) : LiesX W (fun k => D k ∨ k = q) A (flat encG gl) := fun hn => by
  obtain ⟨g, off, e, hlt, hd, hc⟩ := h hn
  refine ⟨g, off, e, hlt, fun hk => ?_, hc⟩
  rcases hk with hk | rfl
  · exact hd hk
  · cases gl with
    | nil => simp [flat] at hn
    | cons y r =>
      have h0 := hc 0 (.string (str y.1)) (by simp [flat_cons, encG])
      rw [cell_of_row W g _ _ _ _ hq] at h0
      match off, h0 with
      | 0, h0 => simp at h0
      | 1, h0 => simp at h0
      | 2, h0 => simp at h0
      | k + 3, h0 => simp at h0

structure Pl (w : World) (p q6 room : Nat) (T : Value) (lost : Nat) (l : List Th) (D : Nat → Prop) (AG : Option Addr) (cG : Nat) (W : World) : Prop where
  bag : BagAt W w.heap.size p T room lost l D
  row : W.heap[q6]? = some (.cells #[.int .i64 (room : Int), .slice AG l.length cG, .int .i64 (lost : Int)] 28 (0, 0))
  nq : ¬ D q6
  cg : l.length ≤ cG
  cm : cG ≤ maxLen
  lies : LiesX W D AG (flat encG (l.map Th.pl))
  below : Below w.heap.size w W
  hq : w.heap.size ≤ q6

theorem Pl.on {w W W' : World} {p q6 room : Nat} {T : Value} {lost : Nat} {l : List Th} {D : Nat → Prop} {AG : Option Addr} {cG : Nat} (h : Pl w p q6 room T lost l D AG cG W) (hb : Below W.heap.size W W') : Pl w p q6 room T lost l D AG cG W' :=
  ⟨h.bag.on hb, (hb.block q6 (Array.getElem?_eq_some_iff.1 h.row).1).trans h.row, h.nq, h.cg, h.cm, h.lies.kept (OnlyE.of_below hb), h.below.trans (hb.mono h.below.size), h.hq⟩

/-- Behind a call of does the document's bag is still to be stored. -/
structure Pm (w : World) (p q6 q9 room : Nat) (T : Value) (lost : Nat) (l : List Th) (D : Nat → Prop) (AG : Option Addr) (cG : Nat) (gs : Array Value) (W : World) : Prop where
  bag : BagAt W w.heap.size p T room lost l D
  row : W.heap[q6]? = some (.cells gs 28 (0, 0))
  new : W.heap[q9]? = some (.cells #[.int .i64 (room : Int), .slice AG l.length cG, .int .i64 (lost : Int)] 28 (0, 0))
  nq : ¬ D q6
  cg : l.length ≤ cG
  cm : cG ≤ maxLen
  lies : LiesX W D AG (flat encG (l.map Th.pl))
  below : Below w.heap.size w W
  hq : w.heap.size ≤ q6

theorem Pm.done {w W : World} {p q6 q9 room n c : Nat} {T : Value} {lost : Nat} {l : List Th} {D : Nat → Prop} {AG B : Option Addr} {cG : Nat} {a b : Int} (h : Pm w p q6 q9 room T lost l D AG cG #[.int .i64 a, .slice B n c, .int .i64 b] W) :
    Pl w p q6 room T lost l D AG cG (((W.setCell ⟨q6, 0, none⟩ (.int .i64 (room : Int))).setCell ⟨q6, 1, none⟩ (.slice AG l.length cG)).setCell ⟨q6, 2, none⟩ (.int .i64 (lost : Int))) := by
  have ho : OnlyE W (((W.setCell ⟨q6, 0, none⟩ (.int .i64 (room : Int))).setCell ⟨q6, 1, none⟩ (.slice AG l.length cG)).setCell ⟨q6, 2, none⟩ (.int .i64 (lost : Int))) (fun k => k = q6) :=
    (onlyE_set (D := fun k => k = q6) rfl 0 _).trans ((onlyE_set (D := fun k => k = q6) rfl 1 _).trans (onlyE_set (D := fun k => k = q6) rfl 2 _))
  refine ⟨h.bag.kept ho fun b hb e => h.nq (e ▸ hb), ?_, h.nq, h.cg, h.cm, ?_, h.below.trans (ho.below (fun k e => e ▸ h.hq) h.below.size), h.hq⟩
  · exact heap_setCell_same _ _ 2 _ _ _ (heap_setCell_same _ _ 1 _ _ _ (heap_setCell_same _ _ 0 _ _ _ h.row))
  · exact ((h.lies.off h.row).kept (ho.mono fun k e => .inr e)).widen fun k hk => .inl (.inl hk)

/-- What does answers is stored into a new block. -/
theorem Pm.of_does {w W0 W : World} {p q6 room : Nat} {T : Value} {lost : Nat} {l : List Th} {D0 D : Nat → Prop} {AG : Option Addr} {cG : Nat} {gs old : Array Value} (hb : BagAt W w.heap.size p T room lost l D) (hr0 : W0.heap[q6]? = some (.cells gs 28 (0, 0))) (hn : ¬ D0 q6) (hcg : l.length ≤ cG) (hcm : cG ≤ maxLen)
    (hL : LiesX W D AG (flat encG (l.map Th.pl))) (ho : OnlyE W0 W D0) (hd : ∀ b, D b → D0 b ∨ W0.heap.size ≤ b) (hbw : Below w.heap.size w W0) (hq : w.heap.size ≤ q6) (h0 : ∀ b, D0 b → w.heap.size ≤ b) :
    Pm w p q6 W.heap.size room T lost l D AG cG gs ((W.alloc (.cells old 28)).setRow W.heap.size #[.int .i64 (room : Int), .slice AG l.length cG, .int .i64 (lost : Int)]) := by
  rw [setRow_new]
  have h6 := (Array.getElem?_eq_some_iff.1 hr0).1
  have hbA : Below W.heap.size W (W.alloc (.cells #[.int .i64 (room : Int), .slice AG l.length cG, .int .i64 (lost : Int)] 28)) := (Below.refl _ _).alloc (Nat.le_refl _) _
  have hbW := hbw.trans (ho.below h0 hbw.size)
  exact ⟨hb.on hbA, (hbA.block q6 (Nat.lt_of_lt_of_le h6 ho.size)).trans ((ho.same q6 h6 hn).trans hr0), heap_alloc_new _ _, fun h => (hd _ h).elim hn (fun h => by omega), hcg, hcm, hL.kept (OnlyE.of_below hbA), hbW.trans (hbA.mono hbW.size), hq⟩
theorem Pm.of_does2 {w W0 W : World} {p q6 q9 room : Nat} {T : Value} {lost : Nat} {l : List Th} {D0 D : Nat → Prop} {AG : Option Addr} {cG : Nat} {gs : Array Value} (hb : BagAt W w.heap.size p T room lost l D) (hr0 : W0.heap[q6]? = some (.cells gs 28 (0, 0))) (hr9 : W0.heap[q9]? = some (.cells #[.int .i64 0, .slice none 0 0, .int .i64 0] 28 (0, 0))) (hn : ¬ D0 q6) (hn9 : ¬ D0 q9) (h69 : q6 ≠ q9) (hcg : l.length ≤ cG) (hcm : cG ≤ maxLen)
    (hL : LiesX W D AG (flat encG (l.map Th.pl))) (ho : OnlyE W0 W D0) (hd : ∀ b, D b → D0 b ∨ W0.heap.size ≤ b) (hbw : Below w.heap.size w W0) (hq : w.heap.size ≤ q6) (hq9 : w.heap.size ≤ q9) (h0 : ∀ b, D0 b → w.heap.size ≤ b) :
    Pm w p q6 q9 room T lost l D AG cG gs (W.setRow q9 #[.int .i64 (room : Int), .slice AG l.length cG, .int .i64 (lost : Int)]) := by
  have h6 := (Array.getElem?_eq_some_iff.1 hr0).1
  have h9 := (Array.getElem?_eq_some_iff.1 hr9).1
  have hr9' := (ho.same q9 h9 hn9).trans hr9
  have hnd9 : ¬ D q9 := fun h => (hd _ h).elim hn9 (fun h => by omega)
  have hg : OnlyE W (W.setRow q9 #[.int .i64 (room : Int), .slice AG l.length cG, .int .i64 (lost : Int)]) (fun k => k = q9) := onlyE_setRow (D := fun k => k = q9) rfl _
  have hbW := hbw.trans (ho.below h0 hbw.size)
  refine ⟨hb.kept hg fun b hb e => hnd9 (e ▸ hb), ?_, setRow_heap _ _ _ _ _ _ hr9', fun h => (hd _ h).elim hn (fun h => by omega), hcg, hcm, ?_, hbW.trans (hg.below (fun k e => e ▸ hq9) hbW.size), hq⟩
  · exact (setRow_other _ _ _ _ h69).trans ((ho.same q6 h6 hn).trans hr0)
  · exact ((hL.off hr9').kept (hg.mono fun k e => .inr e)).widen fun k hk => .inl (.inl hk)

/-- Any act is done as the document says. -/
theorem does_any {w : World} {base p room lost : Nat} {T : Value} {l : List Th} {D : Nat → Prop} (h : BagAt w base p T room lost l D) (AG : Option Addr) (cG : Nat) (hcG : l.length ≤ cG) (hcm : cG ≤ maxLen) (hG : LiesX w D AG (flat encG (l.map Th.pl))) (x : Ac) (hx : AcOk w base x) (hxb : x.b.length ≤ 300) (hlost : lost ≤ 900000) :
    Calls Try.prog 11 #[.pointer (some ⟨p, 0, none⟩), .agg #[.int .i64 (room : Int), .slice AG l.length cG, .int .i64 (lost : Int)], .agg #[.int .i64 x.k, .slice x.A x.b.length x.c, .int .i64 x.i, .int .i64 x.p, .int .u32 x.s]] w (Does w base p room lost D) := by
  by_cases k0 : x.k = 0
  · rw [k0]; exact does_put h AG cG hcG hcm hG x.A x.c x.b x.i x.p x.s hxb hx.l hlost
  · by_cases k1 : x.k = 1
    · rw [k1]; exact does_take h AG cG hcG hcm hG x.A x.c x.b x.i x.p x.s
    · by_cases k2 : x.k = 2
      · rw [k2]; exact does_look h AG cG hcG hcm hG x.A x.c x.b x.i x.p x.s
      · by_cases k3 : x.k = 3
        · rw [k3]; exact does_twice h AG cG hcG hcm hG x.A x.c x.b x.i x.p x.s
        · exact does_turn h AG cG hcG hcm hG x.A x.c x.b x.k x.i x.p x.s (by simpa using k0) (by simpa using k1) (by simpa using k2) (by simpa using k3) hx.s.1 hx.s.2

/-- The document's bag in its box, and the act. -/
structure TwoS (w : World) (bb off : Nat) (x : Ac) (q : Nat) (gs : Array Value) (W : World) : Prop where
  g : W.heap[q]? = some (.cells gs 28 (0, 0))
  a : ∀ j u, (encAc x)[j]? = some u → W.cell? ⟨bb, off + j, none⟩ = some u
theorem TwoS.only {w W W' : World} {bb off q : Nat} {x : Ac} {gs : Array Value} {D : Nat → Prop} (h : TwoS w bb off x q gs W) (ho : OnlyE W W' D) (h1 : ¬ D q) (h2 : ¬ D bb) : TwoS w bb off x q gs W' :=
  ⟨(ho.same _ (Array.getElem?_eq_some_iff.1 h.g).1 h1).trans h.g, fun j u hu => by
    have h3 := h.a j u hu
    rw [World.cell?_of_block (w := W) (ho.same bb (World.block_lt_of_cell? W _ h3) h2)]
    exact h3⟩

set_option maxRecDepth 20000 in
set_option maxHeartbeats 6400000 in
theorem bagPlays_walk (A : Option Addr) (m c : Nat) (r : Int) (l : List Ac) (w : World) (hl : l.length = m) (hm : m ≤ 100) (hmc : m ≤ c) (hA : Lies w w.heap.size A (flat encAc l)) (hok : ∀ x ∈ l, AcOk w w.heap.size x) (h1 : -9223372036854775808 ≤ r) (h2 : r ≤ 9223372036854775807) :
    Calls Try.prog 3 #[.int .i64 r, .slice A m c] w fun e w' => e = .returned (.bool true) ∧ Below w.heap.size w w' := by
  have mixed := mixedOrders
  have hd : decide (100 < (m : Int)) = false := by simp; omega
  have hN := new_any r w w.heap.size (Nat.le_refl _) h1 h2
  have hRN := fun W => refNew_any r W
  have hR : roomN r ≤ 4096 := by unfold roomN; omega
  generalize roomN r = room at hN hR hRN
  have HL := Lib.hid hl
  have HA := Lib.hid hA
  have HOK := Lib.hid hok
  have HRN := Lib.hid hRN
  clear hl hA hok h1 h2 hRN
  go_enter Try.func3, Try.ntmps3
  go_wp2_with fail
  refine hN.mono ?_
  rintro e w1 ⟨rfl, hB, hb1⟩
  have HB := Lib.hid hB
  have HB1 := Lib.hid hb1
  clear hB hb1 hN
  go_wp2_with fail
  refine (HRN.out w1).mono ?_
  rintro e w2 ⟨rfl, hb2⟩
  have HB2 := Lib.hid (HB.out.on hb2)
  have HW2 : Hid (Below w.heap.size w w2) := HB1.out.trans (hb2.mono HB1.out.size)
  clear hb2 HB HB1 HRN
  go_wp2_with fail
  generalize hw3 : World.alloc w2 (.cells #[.int .i64 (room : Int), .slice none 0 0, .int .i64 0] 28) = w3
  have hb3 : Below w2.heap.size w2 w3 := by rw [← hw3]; exact (Below.refl _ _).alloc (Nat.le_refl _) _
  have HS : Hid (Pl w w.heap.size w2.heap.size room (.slice none 0 0) 0 [] (fun k => k = w.heap.size) none 0 w3) :=
    { bag := HB2.out.on hb3
      row := by rw [← hw3]; exact heap_alloc_new _ _
      nq := by have := HB2.out.plt; omega
      cg := Nat.le_refl _, cm := Nat.zero_le _
      lies := LiesX.nil
      below := HW2.out.trans (hb3.mono HW2.out.size)
      hq := HW2.out.size }
  clear hw3 hb3 HB2 HW2
  generalize w2.heap.size = q6 at HS ⊢
  go_loopw [7] (fun s7 wr => ∃ (k : Nat) (T : Value) (lost : Nat) (tl : List Th) (D : Nat → Prop) (AG : Option Addr) (cG : Nat), k ≤ m ∧ s7 = .int .i64 k ∧ lost ≤ k ∧ Pl w w.heap.size q6 room T lost tl D AG cG wr) (fun s7 _ => m - (intOf s7).toNat)
  case atStart => exact ⟨0, _, _, _, _, _, _, Nat.zero_le _, rfl, Nat.le_refl _, HS.out⟩
  case round =>
    clear HS
    obtain ⟨k, T, lost, tl, D, AG, cG, hk, rfl, hlo, hP⟩ := hrel
    by_cases hlt : k < m
    · have hkl : k < l.length := by rw [HL.out]; exact hlt
      obtain ⟨bb, off, rfl, hbb, c0, c1, c2, c3, c4⟩ := acts_at (HA.out.below hP.below) hkl
      have hox := HOK.out l[k] (List.getElem_mem hkl)
      generalize l[k] = x at c0 c1 c2 c3 c4 hox
      have HX := Lib.hid hox
      have HP := Lib.hid hP
      clear hox hP
      by_cases hg : 300 < x.b.length
      · have hd1 : decide (300 < (x.b.length : Int)) = true := by simp; omega
        go_wp2_with (go_at_call 8; refine (awake_any _).mono ?_; rintro e w' ⟨rfl, hb⟩)
        go_ret
        exact ⟨rfl, HP.out.below.trans (hb.mono HP.out.below.size)⟩
      · have hd1 : decide (300 < (x.b.length : Int)) = false := by simp; omega
        go_wp2_with fail
        have hPd := HP.out.on (drewB wr)
        have hHeld : TwoS w bb (off + k * 5) x q6 #[.int .i64 (room : Int), .slice AG tl.length cG, .int .i64 (lost : Int)] wr.drew := ⟨hPd.row, fun j u hu => ?_⟩
        rotate_left
        · have hj : j < 5 := by
            have := (List.getElem?_eq_some_iff.1 hu).1
            rw [encAc_len] at this
            exact this
          show wr.cell? _ = _
          match j, hj with
          | 0, _ => rw [Nat.add_zero, c0, ← hu]; rfl
          | 1, _ => rw [c1, ← hu]; rfl
          | 2, _ => rw [c2, ← hu]; rfl
          | 3, _ => rw [c3, ← hu]; rfl
          | 4, _ => rw [c4, ← hu]; rfl
        have HPD := Lib.hid hPd
        have HDW : Hid (∀ b, D b → w.heap.size ≤ b) := fun b hb => (HP.out.bag.din b hb).1
        have HDL : Hid (∀ b, D b → b < wr.drew.heap.size) := fun b hb => (HPD.out.bag.din b hb).2
        have HCALL : Hid (∀ W, Below wr.drew.heap.size wr.drew W → Calls Try.prog 11 #[.pointer (some ⟨w.heap.size, 0, none⟩), .agg #[.int .i64 (room : Int), .slice AG tl.length cG, .int .i64 (lost : Int)], .agg #[.int .i64 x.k, .slice x.A x.b.length x.c, .int .i64 x.i, .int .i64 x.p, .int .u32 x.s]] W (Does W w.heap.size w.heap.size room lost D)) := fun W hW => by
          have h1 := HPD.out.on hW
          exact does_any h1.bag AG cG h1.cg h1.cm h1.lies x (HX.out.on h1.below) (by omega) (by omega)
        clear c0 c1 c2 c3 c4 hPd HP
        refine wp_region_Z 12 (TwoS w bb (off + k * 5) x q6 #[.int .i64 (room : Int), .slice AG tl.length cG, .int .i64 (lost : Int)]) (by kernel_rfl) ?_
        generalize wr.drew = w4 at hHeld HPD HDL HCALL ⊢
        refine wpZ_take (i := 0) (d := 36) (v := ?_) rfl rfl (by kernel_rfl) (by kernel_rfl) (by kernel_rfl) (by kernel_rfl) (fun _ _ _ h => h) (Or.inl ⟨by rfl, ?_⟩) hHeld ?_
        rotate_left
        · (intro _ hSw; go_simp; try with_reducible rfl)
        simp only [List.setIfInBounds_toArray, List.set_cons_zero, List.set_cons_succ]
        refine wpZ_take (i := 1) (d := 37) (v := ?_) rfl rfl (by kernel_rfl) (by kernel_rfl) (by kernel_rfl) (by kernel_rfl) (fun _ _ _ h => h) (Or.inl ⟨by rfl, ?_⟩) hHeld ?_
        rotate_left
        · (intro _ hSw; have y0 := hSw.a 0 _ rfl; have y1 := hSw.a 1 _ rfl; have y2 := hSw.a 2 _ rfl; have y3 := hSw.a 3 _ rfl; have y4 := hSw.a 4 _ rfl; obtain ⟨x0, x1, x2⟩ := rowG_cells hSw.g; simp only [Nat.add_zero] at y0; go_simp; try with_reducible rfl)
        simp only [List.setIfInBounds_toArray, List.set_cons_zero, List.set_cons_succ]
        refine wpZ_take (i := 2) (d := 38) (v := ?_) rfl rfl (by kernel_rfl) (by kernel_rfl) (by kernel_rfl) (by kernel_rfl) (fun _ _ _ h => h) (Or.inl ⟨by rfl, ?_⟩) hHeld ?_
        rotate_left
        · (intro _ hSw; go_simp; try with_reducible rfl)
        simp only [List.setIfInBounds_toArray, List.set_cons_zero, List.set_cons_succ]
        refine wpZ_take (i := 3) (d := 39) (v := ?_) rfl rfl (by kernel_rfl) (by kernel_rfl) (by kernel_rfl) (by kernel_rfl) (fun _ _ _ h => h) (Or.inl ⟨by rfl, ?_⟩) hHeld ?_
        rotate_left
        · (intro _ hSw; go_simp; try with_reducible rfl)
        simp only [List.setIfInBounds_toArray, List.set_cons_zero, List.set_cons_succ]
        refine wpZ_take (i := 4) (d := 40) (v := ?_) rfl rfl (by kernel_rfl) (by kernel_rfl) (by kernel_rfl) (by kernel_rfl) (fun _ _ _ h => h) (Or.inl ⟨by rfl, ?_⟩) hHeld ?_
        rotate_left
        · (intro _ hSw; go_simp; try with_reducible rfl)
        simp only [List.setIfInBounds_toArray, List.set_cons_zero, List.set_cons_succ]
        refine wpZ_take (i := 5) (d := 41) (v := ?_) rfl rfl (by kernel_rfl) (by kernel_rfl) (by kernel_rfl) (by kernel_rfl) (fun _ _ _ h => h) (Or.inl ⟨by rfl, ?_⟩) hHeld ?_
        rotate_left
        · (intro _ hSw; have y0 := hSw.a 0 _ rfl; have y1 := hSw.a 1 _ rfl; have y2 := hSw.a 2 _ rfl; have y3 := hSw.a 3 _ rfl; have y4 := hSw.a 4 _ rfl; obtain ⟨x0, x1, x2⟩ := rowG_cells hSw.g; simp only [Nat.add_zero] at y0; go_simp; try with_reducible rfl)
        simp only [List.setIfInBounds_toArray, List.set_cons_zero, List.set_cons_succ]
        refine wpZ_ready (rs := [6, 10]) (by kernel_rfl) (by simp) ?_
        refine AllReadyZ.cons rfl (fun K hK => ?_) (AllReadyZ.cons rfl (fun K hK => ?_) AllReadyZ.nil)
        · skip
          go_simp
          refine (HCALL.out w4 (Below.refl _ _)).mono ?_
          rintro e w7 ⟨T7, lost7, l7, D7, A7, c7, rfl, hB7, hc7, hm7, hL7, hO7, hd7, hlo7⟩
          unfold gCells
          have hTw := hHeld.only hO7 HPD.out.nq (fun h => by have := HDW.out _ h; omega)
          have HPM : Hid (Pm w w.heap.size q6 w7.heap.size room T7 lost7 l7 D7 A7 c7 #[.int .i64 (room : Int), .slice AG tl.length cG, .int .i64 (lost : Int)] ((w7.alloc (.cells #[.int .i64 0, .slice none 0 0, .int .i64 0] 28)).setRow w7.heap.size #[.int .i64 (room : Int), .slice A7 l7.length c7, .int .i64 (lost7 : Int)])) :=
            Pm.of_does hB7 HPD.out.row HPD.out.nq hc7 hm7 hL7 hO7 hd7 HPD.out.below HPD.out.hq HDW.out
          clear hB7 hc7 hm7 hL7 hO7 hd7
          have hHeld2 := hTw
          refine hK.out _ _ (fun _ => hHeld2) ?_
          clear hK K hHeld
          have hHeld := hHeld2
          clear hHeld2
          clear hTw
          refine wpZ_take (i := 7) (d := 35) (v := ?_) rfl rfl (by kernel_rfl) (by kernel_rfl) (by kernel_rfl) (by kernel_rfl) (fun _ _ _ h => h) (Or.inl ⟨by rfl, ?_⟩) hHeld ?_
          rotate_left
          · (intro _ hSw; go_simp; try with_reducible rfl)
          simp only [List.setIfInBounds_toArray, List.set_cons_zero, List.set_cons_succ]
          refine wpZ_take (i := 8) (d := 43) (v := ?_) rfl rfl (by kernel_rfl) (by kernel_rfl) (by kernel_rfl) (by kernel_rfl) (fun _ _ _ h => h) (Or.inl ⟨by rfl, ?_⟩) hHeld ?_
          rotate_left
          · (intro _ hSw; go_simp; try with_reducible rfl)
          simp only [List.setIfInBounds_toArray, List.set_cons_zero, List.set_cons_succ]
          refine wpZ_take (i := 9) (d := 44) (v := ?_) rfl rfl (by kernel_rfl) (by kernel_rfl) (by kernel_rfl) (by kernel_rfl) (fun _ _ _ h => h) (Or.inl ⟨by rfl, ?_⟩) hHeld ?_
          rotate_left
          · (intro _ hSw; go_simp; try with_reducible rfl)
          simp only [List.setIfInBounds_toArray, List.set_cons_zero, List.set_cons_succ]
          refine wpZ_ready (rs := [10]) (by kernel_rfl) (by simp) ?_
          refine AllReadyZ.cons rfl (fun K hK => ?_) AllReadyZ.nil
          go_simp
          have hTw : TwoS w bb (off + k * 5) x q6 #[.int .i64 (room : Int), .slice AG tl.length cG, .int .i64 (lost : Int)] (w7.alloc (.cells #[.int .i64 0, .slice none 0 0, .int .i64 0] 28)) := hHeld.only (D := fun _ => False) (OnlyE.of_below ((Below.refl _ _).alloc (Nat.le_refl _) _)) id id
          have hHeld2 := hTw
          refine hK.out _ _ (fun _ => hHeld2) ?_
          clear hK K hHeld
          have hHeld := hHeld2
          clear hHeld2
          clear hTw
          refine wpZ_take (i := 11) (d := 8) (v := ?_) rfl rfl (by kernel_rfl) (by kernel_rfl) (by kernel_rfl) (by kernel_rfl) (fun _ _ _ h => h) (Or.inl ⟨by rfl, ?_⟩) hHeld ?_
          rotate_left
          · (intro _ hSw; go_simp; try with_reducible rfl)
          simp only [List.setIfInBounds_toArray, List.set_cons_zero, List.set_cons_succ]
          refine wpZ_ready (rs := [12]) (by kernel_rfl) (by simp) ?_
          refine AllReadyZ.cons rfl (fun K hK => ?_) AllReadyZ.nil
          refine wp_store_G (x := .tmp 9) (y := .tmp 44) rfl rfl rfl rfl (heap_alloc_new w7 _) rfl rfl (by simp [Value.oneCell']) ?_
          go_simp
          refine hK.out _ _ (fun h => absurd rfl h) ?_
          clear hK K
          refine wpZ_done (by kernel_rfl) ?_ _
          generalize hw8 : World.setRow (World.alloc w7 _) w7.heap.size _ = w8 at HPM ⊢
          clear hw8
          generalize w7.heap.size = q9 at HPM ⊢
          have hlo8 : lost7 ≤ k + 1 := by omega
          obtain ⟨g0, g1, g2⟩ := rowG_cells HPM.out.new
          obtain ⟨o0, o1, o2⟩ := rowG_cells HPM.out.row
          have f0 := frozen_of_row w8 q6 0 _ _ HPM.out.row
          have f1 := frozen_of_row w8 q6 1 _ _ HPM.out.row
          have f2 := frozen_of_row w8 q6 2 _ _ HPM.out.row
          go_wp2_with fail
          have hPl := HPM.out.done
          generalize hw9 : World.setCell (World.setCell (World.setCell w8 _ _) _ _) _ _ = w9 at hPl ⊢
          clear hw9 g0 g1 g2 o0 o1 o2 f0 f1 f2 HPM
          obtain ⟨g0, g1, g2⟩ := rowG_cells hPl.row
          have hq6lt := (Array.getElem?_eq_some_iff.1 hPl.row).1
          have x1 := later_cell (w0 := w9) (b := q6) hq6lt g1
          have x2 := later_cell (w0 := w9) (b := q6) hq6lt g2
          have hle : ∀ p : Later w9, Calls Try.prog 12 #[.pointer (some ⟨w.heap.size, 0, none⟩)] p.w fun e w' => e = .returned (.int .i64 (l7.length : Int)) ∧ Below p.w.heap.size p.w w' := fun p => (len_any (hPl.bag.on p.hb)).mono fun _ _ ⟨h1, h2⟩ => ⟨h1, h2 ▸ Below.refl _ _⟩
          have hll : ∀ p : Later w9, Calls Try.prog 13 #[.pointer (some ⟨w.heap.size, 0, none⟩)] p.w fun e w' => e = .returned (.int .i64 (lost7 : Int)) ∧ Below p.w.heap.size p.w w' := fun p => (lost_any (hPl.bag.on p.hb)).mono fun _ _ ⟨h1, h2⟩ => ⟨h1, h2 ▸ Below.refl _ _⟩
          have hl7 : l7.length ≤ 4096 := Nat.le_trans hPl.bag.fit hPl.bag.room2
          have HPL := Lib.hid hPl
          clear hPl g0 g1 g2 hq6lt
          generalize hN7 : l7.length = n7 at x1 hle hl7
          have HN7 := Lib.hid hN7
          clear hN7
          refine wp_region_later mixed (by kernel_rfl) ?_
          repeat (go_big_quiet_step ((first | (go_at_call 12; exact later_of (hle _)) | (go_at_call 13; exact later_of (hll _)))))
          refine wpQuiet_nil ?_
          intro _ hw'
          obtain ⟨p9, rfl⟩ := hw'
          have HP9 := Lib.hid (HPL.out.on p9.hb)
          generalize p9.w = w10 at HP9 ⊢
          clear x1 x2 hle hll HPL
          go_wp2_with fail
          go_loopw [10] (fun s10 wi => ∃ q : Nat, q ≤ n7 ∧ s10 = .int .i64 (q : Int) ∧ Below w10.heap.size w10 wi) (fun s10 _ => n7 - (intOf s10).toNat)
          case atStart => exact ⟨0, Nat.zero_le _, rfl, Below.refl _ _⟩
          case round =>
            obtain ⟨q, hq, rfl, hbi⟩ := hrel
            have hPi := HP9.out.on hbi
            have hrow := hPi.row
            rw [HN7.out] at hrow
            obtain ⟨-, g1, -⟩ := rowG_cells hrow
            have HPI := Lib.hid hPi
            have HBI := Lib.hid hbi
            have HROW := Lib.hid hrow
            clear hPi hbi hrow
            by_cases hql : q < n7
            · have hq7 : q < l7.length := by rw [HN7.out]; exact hql
              have hqm : q < (l7.map Th.pl).length := by rw [List.length_map]; exact hq7
              have hlk := look_any HPI.out.bag q hq7
              obtain ⟨bL, oL, hAL, hbL, k0, -⟩ := gl_at HPI.out.lies.lies hqm
              subst hAL
              have hpl : (l7.map Th.pl)[q].1 = l7[q].b := by rw [List.getElem_map]; rfl
              rw [hpl] at k0
              generalize l7[q].b = sb at hlk k0
              clear hpl
              go_wp2_with fail
              refine hlk.mono ?_
              rintro e w12 ⟨A12, n12, c12, rfl, hn12, -, -, ho12, hb12⟩
              have hn12' := hn12.out
              subst hn12'
              have s1 : ∀ p : Later w12, (convert 30 9 (.slice A12 sb.length c12)).run Try.prog p.w = .ok (.string (str sb)) p.w := fun p => strs_of rfl ((Lies.of_own ho12).below p.hb) c12
              have hr12 := (hb12.block q6 (Array.getElem?_eq_some_iff.1 HROW.out).1).trans HROW.out
              have x1 := later_cell (w0 := w12) (b := q6) (Array.getElem?_eq_some_iff.1 hr12).1 (rowG_cells hr12).2.1
              have x3 := later_cell (w0 := w12) (b := bL) (Nat.lt_of_lt_of_le hbL hb12.size) ((hb12.cell (p := ⟨bL, oL + q * 2, none⟩) hbL).trans k0)
              have HB12 : Hid (Below w10.heap.size w10 w12) := HBI.out.trans (hb12.mono HBI.out.size)
              clear hlk ho12 hb12 hr12 k0 g1 HPI HROW hn12
              go_wp2_with fail
              refine wp_region_later mixed (by kernel_rfl) ?_
              repeat (go_big_quiet_step (fail))
              refine wpQuiet_nil ?_
              intro _ hw'
              obtain ⟨p12, rfl⟩ := hw'
              clear x1 x3 s1
              go_wp2
              go_roundw
              case rel => exact ⟨q + 1, by omega, by go_num, HB12.out.trans (p12.hb.mono HB12.out.size)⟩
              case measure => simp [intOf]; omega
            · have hq0 : ¬ (q : Int) < (n7 : Int) := by omega
              go_wp2
              go_roundw
              case rel => exact ⟨k + 1, T7, lost7, l7, D7, A7, c7, by omega, by go_num, hlo8, HPI.out⟩
              case measure => simp [intOf]; omega
        · skip
          go_simp
          have hbz : Below w4.heap.size w4 (w4.alloc (.cells #[.int .i64 0, .slice none 0 0, .int .i64 0] 28)) := (Below.refl _ _).alloc (Nat.le_refl _) _
          have hTw : TwoS w bb (off + k * 5) x q6 #[.int .i64 (room : Int), .slice AG tl.length cG, .int .i64 (lost : Int)] (w4.alloc (.cells #[.int .i64 0, .slice none 0 0, .int .i64 0] 28)) := hHeld.only (D := fun _ => False) (OnlyE.of_below hbz) id id
          have hHeld2 := hTw
          refine hK.out _ _ (fun _ => hHeld2) ?_
          clear hK K hHeld
          have hHeld := hHeld2
          clear hHeld2
          clear hTw
          refine wpZ_ready (rs := [6]) (by kernel_rfl) (by simp) ?_
          refine AllReadyZ.cons rfl (fun K hK => ?_) AllReadyZ.nil
          go_simp
          refine (HCALL.out _ hbz).mono ?_
          rintro e w7 ⟨T7, lost7, l7, D7, A7, c7, rfl, hB7, hc7, hm7, hL7, hO7, hd7, hlo7⟩
          unfold gCells
          have hTw := hHeld.only hO7 HPD.out.nq (fun h => by have := HDW.out _ h; omega)
          have hr9 : w7.heap[w4.heap.size]? = some (.cells #[.int .i64 0, .slice none 0 0, .int .i64 0] 28 (0, 0)) := (hO7.same _ (by simp) (fun h => by have := HDL.out _ h; omega)).trans (heap_alloc_new _ _)
          have h6lt := (Array.getElem?_eq_some_iff.1 HPD.out.row).1
          have HPM : Hid (Pm w w.heap.size q6 w4.heap.size room T7 lost7 l7 D7 A7 c7 #[.int .i64 (room : Int), .slice AG tl.length cG, .int .i64 (lost : Int)] (w7.setRow w4.heap.size #[.int .i64 (room : Int), .slice A7 l7.length c7, .int .i64 (lost7 : Int)])) :=
            Pm.of_does2 (D0 := D) hB7 (HPD.out.on hbz).row (heap_alloc_new w4 _) HPD.out.nq (fun h => by have := HDL.out _ h; omega) (by omega) hc7 hm7 hL7 hO7 hd7 (HPD.out.on hbz).below HPD.out.hq HPD.out.below.size HDW.out
          clear hB7 hc7 hm7 hL7 hO7 hd7 hbz h6lt
          have hHeld2 := hTw
          refine hK.out _ _ (fun _ => hHeld2) ?_
          clear hK K hHeld
          have hHeld := hHeld2
          clear hHeld2
          clear hTw
          refine wpZ_take (i := 7) (d := 35) (v := ?_) rfl rfl (by kernel_rfl) (by kernel_rfl) (by kernel_rfl) (by kernel_rfl) (fun _ _ _ h => h) (Or.inl ⟨by rfl, ?_⟩) hHeld ?_
          rotate_left
          · (intro _ hSw; go_simp; try with_reducible rfl)
          simp only [List.setIfInBounds_toArray, List.set_cons_zero, List.set_cons_succ]
          refine wpZ_take (i := 8) (d := 43) (v := ?_) rfl rfl (by kernel_rfl) (by kernel_rfl) (by kernel_rfl) (by kernel_rfl) (fun _ _ _ h => h) (Or.inl ⟨by rfl, ?_⟩) hHeld ?_
          rotate_left
          · (intro _ hSw; go_simp; try with_reducible rfl)
          simp only [List.setIfInBounds_toArray, List.set_cons_zero, List.set_cons_succ]
          refine wpZ_take (i := 9) (d := 44) (v := ?_) rfl rfl (by kernel_rfl) (by kernel_rfl) (by kernel_rfl) (by kernel_rfl) (fun _ _ _ h => h) (Or.inl ⟨by rfl, ?_⟩) hHeld ?_
          rotate_left
          · (intro _ hSw; go_simp; try with_reducible rfl)
          simp only [List.setIfInBounds_toArray, List.set_cons_zero, List.set_cons_succ]
          refine wpZ_take (i := 11) (d := 8) (v := ?_) rfl rfl (by kernel_rfl) (by kernel_rfl) (by kernel_rfl) (by kernel_rfl) (fun _ _ _ h => h) (Or.inl ⟨by rfl, ?_⟩) hHeld ?_
          rotate_left
          · (intro _ hSw; go_simp; try with_reducible rfl)
          simp only [List.setIfInBounds_toArray, List.set_cons_zero, List.set_cons_succ]
          refine wpZ_ready (rs := [12]) (by kernel_rfl) (by simp) ?_
          refine AllReadyZ.cons rfl (fun K hK => ?_) AllReadyZ.nil
          refine wp_store_G (x := .tmp 9) (y := .tmp 44) rfl rfl rfl rfl hr9 rfl rfl (by simp [Value.oneCell']) ?_
          go_simp
          refine hK.out _ _ (fun h => absurd rfl h) ?_
          clear hK K
          refine wpZ_done (by kernel_rfl) ?_ _
          clear hr9 hHeld
          generalize hw8 : World.setRow w7 w4.heap.size _ = w8 at HPM ⊢
          clear hw8
          have HD4 := HDL
          clear HDL HCALL HPD
          generalize w4.heap.size = q9 at HPM HD4 ⊢
          have hlo8 : lost7 ≤ k + 1 := by omega
          obtain ⟨g0, g1, g2⟩ := rowG_cells HPM.out.new
          obtain ⟨o0, o1, o2⟩ := rowG_cells HPM.out.row
          have f0 := frozen_of_row w8 q6 0 _ _ HPM.out.row
          have f1 := frozen_of_row w8 q6 1 _ _ HPM.out.row
          have f2 := frozen_of_row w8 q6 2 _ _ HPM.out.row
          go_wp2_with fail
          have hPl := HPM.out.done
          generalize hw9 : World.setCell (World.setCell (World.setCell w8 _ _) _ _) _ _ = w9 at hPl ⊢
          clear hw9 g0 g1 g2 o0 o1 o2 f0 f1 f2 HPM
          obtain ⟨g0, g1, g2⟩ := rowG_cells hPl.row
          have hq6lt := (Array.getElem?_eq_some_iff.1 hPl.row).1
          have x1 := later_cell (w0 := w9) (b := q6) hq6lt g1
          have x2 := later_cell (w0 := w9) (b := q6) hq6lt g2
          have hle : ∀ p : Later w9, Calls Try.prog 12 #[.pointer (some ⟨w.heap.size, 0, none⟩)] p.w fun e w' => e = .returned (.int .i64 (l7.length : Int)) ∧ Below p.w.heap.size p.w w' := fun p => (len_any (hPl.bag.on p.hb)).mono fun _ _ ⟨h1, h2⟩ => ⟨h1, h2 ▸ Below.refl _ _⟩
          have hll : ∀ p : Later w9, Calls Try.prog 13 #[.pointer (some ⟨w.heap.size, 0, none⟩)] p.w fun e w' => e = .returned (.int .i64 (lost7 : Int)) ∧ Below p.w.heap.size p.w w' := fun p => (lost_any (hPl.bag.on p.hb)).mono fun _ _ ⟨h1, h2⟩ => ⟨h1, h2 ▸ Below.refl _ _⟩
          have hl7 : l7.length ≤ 4096 := Nat.le_trans hPl.bag.fit hPl.bag.room2
          have HPL := Lib.hid hPl
          clear hPl g0 g1 g2 hq6lt
          generalize hN7 : l7.length = n7 at x1 hle hl7
          have HN7 := Lib.hid hN7
          clear hN7
          refine wp_region_later mixed (by kernel_rfl) ?_
          repeat (go_big_quiet_step ((first | (go_at_call 12; exact later_of (hle _)) | (go_at_call 13; exact later_of (hll _)))))
          refine wpQuiet_nil ?_
          intro _ hw'
          obtain ⟨p9, rfl⟩ := hw'
          have HP9 := Lib.hid (HPL.out.on p9.hb)
          generalize p9.w = w10 at HP9 ⊢
          clear x1 x2 hle hll HPL
          go_wp2_with fail
          go_loopw [10] (fun s10 wi => ∃ q : Nat, q ≤ n7 ∧ s10 = .int .i64 (q : Int) ∧ Below w10.heap.size w10 wi) (fun s10 _ => n7 - (intOf s10).toNat)
          case atStart => exact ⟨0, Nat.zero_le _, rfl, Below.refl _ _⟩
          case round =>
            obtain ⟨q, hq, rfl, hbi⟩ := hrel
            have hPi := HP9.out.on hbi
            have hrow := hPi.row
            rw [HN7.out] at hrow
            obtain ⟨-, g1, -⟩ := rowG_cells hrow
            have HPI := Lib.hid hPi
            have HBI := Lib.hid hbi
            have HROW := Lib.hid hrow
            clear hPi hbi hrow
            by_cases hql : q < n7
            · have hq7 : q < l7.length := by rw [HN7.out]; exact hql
              have hqm : q < (l7.map Th.pl).length := by rw [List.length_map]; exact hq7
              have hlk := look_any HPI.out.bag q hq7
              obtain ⟨bL, oL, hAL, hbL, k0, -⟩ := gl_at HPI.out.lies.lies hqm
              subst hAL
              have hpl : (l7.map Th.pl)[q].1 = l7[q].b := by rw [List.getElem_map]; rfl
              rw [hpl] at k0
              generalize l7[q].b = sb at hlk k0
              clear hpl
              go_wp2_with fail
              refine hlk.mono ?_
              rintro e w12 ⟨A12, n12, c12, rfl, hn12, -, -, ho12, hb12⟩
              have hn12' := hn12.out
              subst hn12'
              have s1 : ∀ p : Later w12, (convert 30 9 (.slice A12 sb.length c12)).run Try.prog p.w = .ok (.string (str sb)) p.w := fun p => strs_of rfl ((Lies.of_own ho12).below p.hb) c12
              have hr12 := (hb12.block q6 (Array.getElem?_eq_some_iff.1 HROW.out).1).trans HROW.out
              have x1 := later_cell (w0 := w12) (b := q6) (Array.getElem?_eq_some_iff.1 hr12).1 (rowG_cells hr12).2.1
              have x3 := later_cell (w0 := w12) (b := bL) (Nat.lt_of_lt_of_le hbL hb12.size) ((hb12.cell (p := ⟨bL, oL + q * 2, none⟩) hbL).trans k0)
              have HB12 : Hid (Below w10.heap.size w10 w12) := HBI.out.trans (hb12.mono HBI.out.size)
              clear hlk ho12 hb12 hr12 k0 g1 HPI HROW hn12
              go_wp2_with fail
              refine wp_region_later mixed (by kernel_rfl) ?_
              repeat (go_big_quiet_step (fail))
              refine wpQuiet_nil ?_
              intro _ hw'
              obtain ⟨p12, rfl⟩ := hw'
              clear x1 x3 s1
              go_wp2
              go_roundw
              case rel => exact ⟨q + 1, by omega, by go_num, HB12.out.trans (p12.hb.mono HB12.out.size)⟩
              case measure => simp [intOf]; omega
            · have hq0 : ¬ (q : Int) < (n7 : Int) := by omega
              go_wp2
              go_roundw
              case rel => exact ⟨k + 1, T7, lost7, l7, D7, A7, c7, by omega, by go_num, hlo8, HPI.out⟩
              case measure => simp [intOf]; omega
    · obtain rfl : k = m := by omega
      have HB := Lib.hid hP.below
      clear hP
      go_wp2_with (go_at_call 8; refine (awake_any _).mono ?_; rintro e w' ⟨rfl, hb⟩)
      go_ret
      exact ⟨rfl, HB.out.trans (hb.mono HB.out.size)⟩

theorem bagPlays_many (A : Option Addr) (n c : Nat) (r : Int) (w : World) (hn : 100 < n) :
    Calls Try.prog 3 #[.int .i64 r, .slice A n c] w fun e w' => e = .returned (.bool true) ∧ Below w.heap.size w w' := by
  have hd : decide (100 < (n : Int)) = true := by simp; omega
  go_enter Try.func3, Try.ntmps3
  go_wp2_with (go_at_call 8; refine (awake_any _).mono ?_; rintro e w' ⟨rfl, hb⟩)
  go_ret
  exact ⟨rfl, hb⟩

theorem own : ownKnob Try.prog.godebug = none := by kernel_rfl
theorem laidOut : laidOutB Try.prog = true := by kernel_rfl

set_option maxRecDepth 100000 in
theorem bagPlays_lifted (os : Os) (started : os.Started) (H : Type) (enc : TypeId × Value → H) :
    ReturnsInHanded {} Try.checked os 3 .any (Rows.bagPlaysSpec.pre6 enc Try.prog Try.f3 Rows.bagPlaysRow.domain false) (Rows.bagPlaysSpec.post enc Try.prog Try.f3 false true false false) := by
  refine returnsInHanded_of_change (C := Try.checked) own started (by kernel_rfl) Try.func3
    (ChangeSpec.witness6 (enc := enc) (C := Try.checked) false ⟨#[], #[.int .i64 0, .slice none 0 0], []⟩ 8 (by kernel_rfl) (by kernel_rfl) (by kernel_rfl) (by kernel_rfl)) ?_
  intro W base args ds gs before hval0 hW _ _
  have hval : ∀ (j : Nat) t v, Try.f3.params[j]? = some t → args[j]? = some v → Value.okWide Try.prog W .any base t v := hval0
  have hW' := hW
  obtain ⟨p, q, hA0, hV, rfl, _, _⟩ := hW
  have hA : DataW.TrodAll enc Try.prog W 0 (fun _ => true) true Try.f3.params.toList args.toList ds p := hA0
  rw [Try.params3] at hA hval
  obtain ⟨v0, vs0, d0, ds0, p0, q0, hargs, rfl, rfl, h0, r0⟩ := trodAll_cons hA
  obtain ⟨v1, vs1, d1, ds1, p1, q1, rfl, rfl, rfl, h1, r1⟩ := trodAll_cons r0
  obtain ⟨rfl, rfl, rfl⟩ := trodAll_nil r1
  obtain rfl : args = #[v0, v1] := by cases args; simp_all
  obtain ⟨rfl, rfl⟩ := trodVars_none hV
  have k0 := h0
  have lt0 : ∀ x ∈ p0, x.block < W.heap.size := by obtain ⟨m, hm⟩ := k0; exact DataW.trod_lt m _ _ _ hm
  have k1 := h1
  have lt1 : ∀ x ∈ p1, x.block < W.heap.size := by obtain ⟨m, hm⟩ := k1; exact DataW.trod_lt m _ _ _ hm
  obtain ⟨a0, rfl, _, _, wf0⟩ := open_int Try.underlying3 (hval 0 3 v0 rfl rfl) h0
  have hwalk : Calls Try.prog 3 #[.int .i64 a0, v1] W fun e w' => e = .returned (.bool true) ∧ Below W.heap.size W w' := by
    obtain ⟨a1, len1, cap1, rfl⟩ := okWide_slice Try.underlying22 (hval 1 22 v1 rfl rfl)
    obtain ⟨fuel, hf⟩ := h1
    obtain ⟨l, A, n, c, hv, hl, hc, hcm, hL, hok⟩ := open_acts (by simpa [Value.cells] using hf)
    injection hv with e1 e2 e3
    subst e1 e2 e3
    by_cases hn : 100 < len1
    · exact bagPlays_many a1 len1 cap1 a0 W hn
    · have hb := bounds_i64 wf0
      exact bagPlays_walk a1 len1 cap1 a0 l W hl (by omega) hc hL hok (by omega) (by omega)
  clear hA0 hval0
  refine hwalk.mono fun e W' ⟨he, bel⟩ => ?_
  subst he
  exact ⟨_, rfl, _, _, _, [], _, [], hW', trodAll_mk1 (shut_bool Try.underlying4 _), (trodAll_cons_mk (Below.trod laidOut (by kernel_rfl) (of_decide_eq_true (by kernel_rfl)) k0 bel lt0) (trodAll_cons_mk (Below.trod laidOut (by kernel_rfl) (of_decide_eq_true (by kernel_rfl)) k1 bel lt1) trodAll_mk0)), rfl, bel.frame _, fun h => by cases h⟩

theorem bagPlays_proved : Rows.BagPlaysSaid :=
  OpenClaim.holds_of_wide 3 Try.f3 rfl rfl rfl rfl rfl rfl rfl ⟨rfl, rfl, rfl, rfl, rfl⟩ rfl rfl rfl rfl rfl (by kernel_rfl) Try.func3 (by kernel_rfl)
    (of_decide_eq_true (by kernel_rfl)) (by unfold Func.isWrapper; first | (rw [if_pos (by decide +kernel)]; kernel_rfl) | (rw [if_neg (by decide +kernel)]; exact ⟨rfl, rfl⟩))
    (fun os started H enc _ => bagPlays_lifted os started H enc)

end Go.Proofs.Ytjecphjdmjoeiaa
