/- Stage 14: the walk of release. -/
import Derived.Test.YtnpdjlcekmpmoaaSoQa
set_option maxRecDepth 20000
namespace Go.Proofs.Ytnpdjlcekmpmoaa
open Go.RowKit Go.Sort Go.Maps

structure Sv where
  A : Option Addr
  n : Nat
  c : Nat
def mkSl (z : Sv) : Value := .slice z.A z.n z.c
theorem mkSl_inv (v : Value) (y : DataW Value × List MemPlace) (h : slR v = some y) : ∃ z, v = mkSl z := by
  obtain ⟨A, n, c, rfl, -⟩ := slR_inv h
  exact ⟨⟨A, n, c⟩, rfl⟩
theorem valId_inv (v : Value) (kl : Lit) (h : keyOf Try.prog 33 v = some kl) : ∃ x : Id, v = valId x := by
  obtain ⟨x, rfl, -⟩ := key_inv h
  exact ⟨x, rfl⟩

/-- What stands while a payload is deleted: the store's map, and the id's box. -/
def S3 (g mb kb f s : Nat) (V : World) : Prop := V.cell? ⟨g, 0, none⟩ = some (.map (some mb)) ∧ V.cell? ⟨kb, 0, none⟩ = some (.int .u8 (f : Int)) ∧ V.cell? ⟨kb, 1, none⟩ = some (.int .u64 (s : Int))

section
variable {w : World} {base g mb fb : Nat} {m : Sm} {D : Nat → Prop}
set_option maxHeartbeats 3200000 in
theorem release_any (h : StAt w base g mb fb m D) (bs : Nat) (hbc : w.cell? ⟨bs, 0, none⟩ = some (.pointer (some ⟨g, 0, none⟩))) (hbs : bs < w.heap.size) (hbD : ¬ D bs) (hlen : m.l.length ≤ 1000) :
    Calls Try.prog 36 #[sptr g, .func (.func 37) #[] #[.pointer (some ⟨bs, 0, none⟩)]] w fun e w' =>
      e = .returned (.int .i64 ((m.l.length - (m.l.filter (keptB m.fl)).length : Nat) : Int)) ∧ StAt w' base g mb fb { m with l := m.l.filter (keptB m.fl) } D ∧ OnlyE w w' (own3 g mb fb) := by
  have mixed := mixedOrders
  have eg : ∀ args w, (callFunc 37 args).run Try.prog w = .ok (.enter 37 args) w := enters_of Try.func37 (by kernel_rfl) rfl
  have H := Lib.hid h
  have c0 := h.c0
  obtain ⟨E0, own0, has0, pay0⟩ := h.map
  have hus := h.ok.use
  have hur := h.ok.room
  have HBC := Lib.hid hbc
  have P0 := Lib.hid (show HasE E0 m.l ∧ (∀ y ∈ m.l, PayAt w D E0 y) from ⟨has0, pay0⟩)
  clear h has0 pay0 hbc
  unfold sptr
  go_enter Try.func36, Try.ntmps36
  go_wp2_with (at_range; refine wpList_range_own _ rfl _ 54 rfl 33 34 keyLaw uMap slR mb _ E0 rfl own0 ?_; intro w0 hrg0 hg0 hs0)
  have H0 : Hid (RelS m base g mb fb D w (Maps.has E0) (Maps.size E0) m.l (useL m.l) E0 w0) := by
    have ho : OnlyE w w0 D := OnlyE.of_below ((RowKit.Below.refl _ _).grown hg0 (Nat.le_refl _) fun q hq => by cases hq)
    exact {
      rng := hrg0, has := P0.out.1, pay := fun y hy => (P0.out.2 y hy).kept ho, sub := List.Sublist.refl _
      box := (hg0.block g H.out.lt (by simp)).trans H.out.box
      row := own_below H.out.row ((RowKit.Below.refl _ _).grown hg0 (Nat.le_refl _) fun q hq => by cases hq)
      only := OnlyE.of_below ((RowKit.Below.refl _ _).grown hg0 (Nat.le_refl _) fun q hq => by cases hq) }
  have L0 : Hid (m.l = stays m.fl (Maps.has E0) m.l) := by
    show _ = _
    unfold stays
    rw [List.filter_eq_self.2]
    intro y hy
    rw [P0.out.1.has, hasL_iff.2 ⟨y, hy, rfl⟩, Bool.or_true]
  clear hrg0 hg0 P0 own0 c0
  go_frame
  go_loopw [5] (fun s5 wr => ∃ left cnt l' E, Hid (RelS m base g mb fb D w left cnt l' (useL l') E wr) ∧ Hid (l' = stays m.fl left m.l) ∧ s5 = .int .i64 ((m.l.length - l'.length : Nat) : Int)) (fun _ wr => wr.rangeLeft mb w.heap.size)
  case atStart => exact ⟨_, _, _, _, H0, L0, by simp⟩
  case round =>
    obtain ⟨left, cnt, l', E, HR, HL, rfl⟩ := hrel
    clear H0 L0 hs0
    have hrng := HR.out.rng
    go_wp2_with (first | (at_next; refine wpList_next_ranges wr rfl (.tmp 12) rfl 33 keyLaw slR valId mkSl valId_inv mkSl_inv mb w.heap.size m.l.length E left cnt rfl hrng ?_ ?_) | fail)
    · intro _ hl0
      have hl1 : l' = m.l.filter (keptB m.fl) := by
        rw [HL.out]
        unfold stays
        refine List.filter_congr fun y _ => ?_
        rw [hl0, Bool.or_false]
      have HS : Hid (StAt wr base g mb fb { m with l := m.l.filter (keptB m.fl) } D ∧ OnlyE w wr (own3 g mb fb) ∧ l' = m.l.filter (keptB m.fl)) := ⟨by rw [← hl1]; exact HR.out.done H.out rfl, HR.out.only, hl1⟩
      clear hl1 hrng HR HL hl0
      go_wp2
      go_ret
      exact ⟨by rw [← HS.out.2.2]; rfl, HS.out.1, HS.out.2.1⟩
    · intro x z kl yd yp w1 cnt1 hkey hlk hv hat hrg1 hlt1 hg1 hs1 hen
      obtain ⟨A, n, c⟩ := z
      obtain rfl : kl = idLit x := by
        rw [key_id] at hkey
        exact (Option.some.inj hkey).symm
      have hyd : yd = .held (.slice A n c) := by
        have := congrArg Option.some (rfl : yd = yd)
        have h2 : some (DataW.held (Value.slice A n c), ([] : List MemPlace)) = some (yd, yp) := hv
        injection h2 with h2
        exact (congrArg Prod.fst h2).symm
      subst hyd
      obtain ⟨y, hy, hyx, hyn⟩ : ∃ y ∈ l', y.id = x ∧ y.b.length = n := by
        have hh : hasL l' x = true := by rw [← HR.out.has.has]; exact Maps.has_true_of_atKey hat
        obtain ⟨y, hy, hyx⟩ := hasL_iff.1 hh
        obtain ⟨A1, c1, a1, -⟩ := HR.out.pay y hy
        have h2 := a1 .nil
        rw [hyx, hat] at h2
        injection h2 with h2
        injection h2 with h3 h4 h5
        exact ⟨y, hy, hyx, h4.symm⟩
      have R1 : Hid (RelS m base g mb fb D w (fun q => left q && !q.sameKey (idLit x)) cnt1 l' (useL l') E w1) := HR.out.next H.out hrg1 hg1
      have hxf : x.f < m.n := by
        have := H.out.ok.each y (HR.out.sub.subset hy)
        rw [hyx] at this
        unfold Sm.may at this
        simp only [Bool.and_eq_true, decide_eq_true_eq] at this
        exact this.1
      have hkb : keptB m.fl y = decide (num m.fl x.f < x.s) := by unfold keptB; rw [hyx]
      have K1 : Hid (keptB m.fl y = true → l' = stays m.fl (fun q => left q && !q.sameKey (idLit x)) m.l) := fun hq => by rw [← hyx, stays_keep hq]; exact HL.out
      have K2 : Hid (keptB m.fl y = false → strike l' x = stays m.fl (fun q => left q && !q.sameKey (idLit x)) m.l ∧ (strike l' x).length + 1 = l'.length ∧ useL (strike l' x) + n = useL l') := fun hq => by
        obtain ⟨q1, q2⟩ := strike_one (H.out.ok.apart.sublist HR.out.sub) hy
        rw [hyx] at q1 q2
        refine ⟨by rw [← hyx, stays_gone hq, ← HL.out], q1, ?_⟩
        rw [← hyn]
        exact q2
      have hle := HR.out.sub.length_le
      have hul : useL l' ≤ m.room := Nat.le_trans (useL_sub HR.out.sub) hus
      have HM1 : Hid (w1.rangeLeft mb w.heap.size < wr.rangeLeft mb w.heap.size) := by
        show _ < _
        rw [R1.out.rng.left_eq, HR.out.rng.left_eq]; exact hlt1
      have HY := Lib.hid (show y ∈ l' ∧ y.id = x from ⟨hy, hyx⟩)
      have HG1 := Lib.hid hg1
      have HC : Hid (wr.rangeLeft mb w.heap.size = cnt) := HR.out.rng.left_eq
      have HLT := Lib.hid hlt1
      clear hkey hlk hv hat hrg1 hg1 hs1 hy hyx hyn hrng HR HL hlt1
      have hen2 : (Instr.entry (.pointer (some ⟨w.heap.size, 0, none⟩))).run Try.prog w1 = .ok (.tuple #[.agg #[.int .u8 (x.f : Int), .int .u64 (x.s : Int)], .slice A n c]) w1 := hen
      clear hen
      unfold mkSl valId
      go_wp2_with fail
      generalize hw2 : World.alloc w1 _ = w2
      obtain ⟨hs2, hG2, hcc⟩ := box1 w1 w2 _ _ hw2
      have hb2 : RowKit.Below w1.heap.size w1 w2 := hG2.below
      have k0 := hcc 0 _ rfl
      have k1 := hcc 1 _ rfl
      have R2 := R1.out.on hb2
      have hwl : w.heap.size ≤ w1.heap.size := R1.out.only.size
      have hf2 : w2.cell? ⟨fb, x.f, none⟩ = some (.int .u64 (num m.fl x.f : Int)) := by
        have hl : x.f < m.fl.length := by rw [H.out.ok.fl]; exact hxf
        rw [R2.row.cellAt x.f (by omega), uvs_at hl, num_in hl]
      have hcall := goes_any x g fb bs m.n (num m.fl x.f) w2 hxf ((R2.only.cell hbs fun ho => hbD (H.out.own ho)).trans HBC.out) (Nat.lt_of_lt_of_le hbs R2.only.size) (cell_of_row w2 g 1 _ _ _ R2.box) (Array.getElem?_eq_some_iff.1 R2.box).1 hf2 (R2.row.lt fb rfl).2
      have R2h := Lib.hid R2
      have hkbs : w1.heap.size < w2.heap.size := by omega
      clear hw2 hG2 hcc hb2 hf2 R2 R1 hs2 hen2
      refine hcall.mono ?_
      rintro e w3 ⟨rfl, hb3⟩
      have R3 : Hid (RelS m base g mb fb D w (fun q => left q && !q.sameKey (idLit x)) cnt1 l' (useL l') E w3) := R2h.out.on hb3
      have z0 := (hb3.cell (p := ⟨w1.heap.size, 0, none⟩) hkbs).trans k0
      have z1 := (hb3.cell (p := ⟨w1.heap.size, 1, none⟩) hkbs).trans k1
      have hk3 : w1.heap.size < w3.heap.size := Nat.lt_of_lt_of_le hkbs hb3.size
      clear hb3 k0 k1 R2h hcall hkbs
      by_cases hgo : x.s ≤ num m.fl x.f
      · have hd : decide (x.s ≤ num m.fl x.f) = true := decide_eq_true hgo
        have hnk : keptB m.fl y = false := by rw [hkb]; exact decide_eq_false (by omega)
        obtain ⟨q1, q2, q3⟩ := K2.out hnk
        rw [hd]
        have R3d : RelS m base g mb fb D w (fun q => left q && !q.sameKey (idLit x)) cnt1 l' (useL l') E w3.drew := R3.out.on (drewB w3)
        obtain ⟨w4, cnt4, hrun, hrg4, hle4, ht4⟩ := R3d.rng.drop keyLaw uMap (key_id x) 0
        rw [Maps.strike_twice] at hrg4
        have R4 : Hid (RelS m base g mb fb D w (fun q => left q && !q.sameKey (idLit x)) cnt4 (strike l' x) (useL l') (E.del (idLit x)) w4) := by
          have := R3d.gone H.out HY.out.1 (by rw [HY.out.2]; exact hrg4) ht4
          rw [HY.out.2] at this
          exact this
        have ho4 : OnlyE w3.drew w4 (fun k => k = mb) := turned_only ht4 rfl
        have hmbl : mb < w.heap.size := (H.out.din mb H.out.dm).2
        have c30 : w3.cell? ⟨g, 0, none⟩ = some (.map (some mb)) := cell_of_row w3 g 0 _ _ _ R3.out.box
        have hgl3 : g < w3.heap.size := (Array.getElem?_eq_some_iff.1 R3.out.box).1
        have c43 : w4.cell? ⟨g, 3, none⟩ = some (.int .i64 (useL l' : Int)) := cell_of_row w4 g 3 _ _ _ R4.out.box
        have f43 : w4.frozen? ⟨g, 3, none⟩ = false := frozen_of_row w4 g 3 _ _ R4.out.box
        have hHD : S3 g mb w1.heap.size x.f x.s w3.drew := ⟨c30, z0, z1⟩
        have hH4 : S3 g mb w1.heap.size x.f x.s w4 := ⟨(ho4.cell hgl3 H.out.ne.1).trans c30, (ho4.cell hk3 (by omega)).trans z0, (ho4.cell hk3 (by omega)).trans z1⟩
        have Q1 := Lib.hid q1
        have HLE4 := Lib.hid hle4
        have HRUN := Lib.hid hrun
        clear hrg4 ht4 ho4 R3d q1 c30 z0 z1 hle4 hrun K1 K2 hkb hnk
        have hus2 : useL l' - n = useL (strike l' x) := by omega
        have hnu : n ≤ useL l' := by omega
        have R5 : Hid (∀ u : Int, u = ((useL l' - n : Nat) : Int) → RelS m base g mb fb D w (fun q => left q && !q.sameKey (idLit x)) cnt4 (strike l' x) (useL (strike l' x)) (E.del (idLit x)) (w4.setCell ⟨g, 3, none⟩ (.int .i64 u))) := fun u hu => by
          rw [← hus2]
          exact R4.out.used H.out hu
        have hlt5 : l'.length - 1 = (strike l' x).length := by omega
        have hlp : 1 ≤ l'.length := by omega
        have HL5 := Lib.hid hlt5
        clear q2 q3 hus2 R4 hlt5
        generalize useL l' = U at c43 R5 hnu hul R3
        generalize hll : l'.length = ll at hle hlp HL5 ⊢
        generalize hml : m.l.length = ml at hlen hle R3 R5 ⊢
        go_wp2_with fail
        refine wp_region_held_drew (S := S3 g mb w1.heap.size x.f x.s) (by kernel_rfl) hHD (fun hHeld => ?_)
        clear hHD

        refine wpAnyH_takeAt (i := 0) (d := 21) (v := ?_) rfl rfl (by kernel_rfl) (by kernel_rfl) (by kernel_rfl) (fun _ _ _ h => h) (Or.inl ⟨by rfl, ?_⟩) hHeld ?_
        rotate_left
        · (intro _ hSw; obtain ⟨s0, s1, s2⟩ := hSw; go_simp; try with_reducible rfl)
        simp only [List.setIfInBounds_toArray, List.set_cons_zero, List.set_cons_succ]
        refine wpAnyH_takeAt (i := 1) (d := 22) (v := ?_) rfl rfl (by kernel_rfl) (by kernel_rfl) (by kernel_rfl) (fun _ _ _ h => h) (Or.inl ⟨by rfl, ?_⟩) hHeld ?_
        rotate_left
        · (intro _ hSw; obtain ⟨s0, s1, s2⟩ := hSw; go_simp; try with_reducible rfl)
        simp only [List.setIfInBounds_toArray, List.set_cons_zero, List.set_cons_succ]
        refine wpAnyH_takeAt (i := 2) (d := 23) (v := ?_) rfl rfl (by kernel_rfl) (by kernel_rfl) (by kernel_rfl) (fun _ _ _ h => h) (Or.inl ⟨by rfl, ?_⟩) hHeld ?_
        rotate_left
        · (intro _ hSw; obtain ⟨s0, s1, s2⟩ := hSw; go_simp; try with_reducible rfl)
        simp only [List.setIfInBounds_toArray, List.set_cons_zero, List.set_cons_succ]
        refine wpAnyH_takeAt (i := 3) (d := 24) (v := ?_) rfl rfl (by kernel_rfl) (by kernel_rfl) (by kernel_rfl) (fun _ _ _ h => h) (Or.inl ⟨by rfl, ?_⟩) hHeld ?_
        rotate_left
        · (intro _ hSw; obtain ⟨s0, s1, s2⟩ := hSw; go_simp; try with_reducible rfl)
        simp only [List.setIfInBounds_toArray, List.set_cons_zero, List.set_cons_succ]
        refine wpAnyH_takeAt (i := 4) (d := 25) (v := ?_) rfl rfl (by kernel_rfl) (by kernel_rfl) (by kernel_rfl) (fun _ _ _ h => h) (Or.inl ⟨by rfl, ?_⟩) hHeld ?_
        rotate_left
        · (intro _ hSw; obtain ⟨s0, s1, s2⟩ := hSw; go_simp; try with_reducible rfl)
        simp only [List.setIfInBounds_toArray, List.set_cons_zero, List.set_cons_succ]
        refine wpAnyH_ready (rs := [5]) (by kernel_rfl) (by simp) ?_
        refine AllReadyH.cons rfl (fun K hK => ?_) AllReadyH.nil
        refine wp_delete_step (x := .tmp 24) (y := .tmp 25) rfl rfl rfl rfl HRUN.out ?_
        refine hK.out _ _ hH4 (fun hHeld => ?_)
        clear hK K
        refine wpAnyH_done (by kernel_rfl) ?_ _
        clear hHeld hH4 HRUN
        go_wp2
        have R6 := R5.out ((U : Int) - (n : Int)) (by omega)
        go_roundw
        case rel =>
          refine ⟨_, cnt4, strike l' x, _, R6, Q1, ?_⟩
          have := HL5.out
          rw [hml]
          congr 1
          omega
        case measure =>
          rw [R6.rng.left_eq, HC.out]
          exact Nat.lt_of_le_of_lt HLE4.out HLT.out
      · have hd : decide (x.s ≤ num m.fl x.f) = false := decide_eq_false hgo
        have hnk : keptB m.fl y = true := by rw [hkb]; exact decide_eq_true (by omega)
        have Q1 := Lib.hid (K1.out hnk)
        rw [hd]
        clear K1 K2 hkb hnk z0 z1
        go_wp2
        go_roundw
        case rel => exact ⟨_, cnt1, l', E, R3, Q1, rfl⟩
        case measure => rw [R3.out.rng.left_eq, HC.out]; exact HLT.out
end

end Go.Proofs.Ytnpdjlcekmpmoaa
