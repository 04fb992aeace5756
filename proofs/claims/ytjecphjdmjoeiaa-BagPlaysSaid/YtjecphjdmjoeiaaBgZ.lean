/- does: a Take, and a Look. -/
import Derived.Test.YtjecphjdmjoeiaaBgY
namespace Go.Proofs.Ytjecphjdmjoeiaa
open Go.RowKit Go.Sort

section
variable {w : World} {base p : Nat} {T : Value} {room lost : Nat} {l : List Th} {D : Nat → Prop}

/-- What came out, in memory of its own; the bag behind it. -/
def CameOut (W : World) (base p room lost : Nat) (l' : List Th) (D : Nat → Prop) (sb : List UInt8) (okb : Bool) (e : Ending) (w' : World) : Prop :=
  ∃ A c T', e = .returned (.tuple #[.slice A sb.length c, .bool okb]) ∧ sb.length ≤ c ∧ c ≤ maxLen ∧ w'.ownsRow W.heap.size 5 1 (.slice A sb.length c) sb.length (bvs sb) ∧ BagAt w' base p T' room lost l' D ∧ OnlyE W w' D

theorem take_both (AG : Option Addr) (cG : Nat) (hcG : l.length ≤ cG) (hcm : cG ≤ maxLen) (hn : l.length ≤ 4096) (hbm : ∀ x ∈ l, x.b.length ≤ 1000) (xi : Int) (goes : Bool) : ∃ (sb : List UInt8) (okb : Bool) (l' : List Th), sb.length ≤ 1000 ∧
    (∀ W, Lies W W.heap.size AG (flat encG (l.map Th.pl)) → Calls Try.prog 22 #[.agg #[.int .i64 (room : Int), .slice AG l.length cG, .int .i64 (lost : Int)], .int .i64 xi, .bool goes] W (GGot W AG (l.map Th.pl) room (l'.map Th.pl) lost #[.string (str sb), .bool okb])) ∧
    (goes = true → ∀ W, BagAt W base p T room lost l D → Calls Try.prog 17 #[.pointer (some ⟨p, 0, none⟩), .int .i64 xi] W (CameOut W base p room lost l' D sb okb)) ∧
    (goes = false → ∀ W, BagAt W base p T room lost l D → Calls Try.prog 14 #[.pointer (some ⟨p, 0, none⟩), .int .i64 xi] W (CameOut W base p room lost l' D sb okb)) := by
  have hml : (l.map Th.pl).length = l.length := List.length_map _
  by_cases hir : 0 ≤ xi ∧ xi < l.length
  · obtain ⟨j, rfl⟩ := Int.eq_ofNat_of_zero_le hir.1
    have hj : j < l.length := by omega
    have hjm : j < (l.map Th.pl).length := by rw [hml]; exact hj
    have hgj : (l.map Th.pl)[j] = l[j].pl := List.getElem_map _
    cases goes with
    | true =>
      refine ⟨l[j].b, true, l.eraseIdx j, hbm _ (List.getElem_mem hj), fun W hL => ?_, fun _ W hB => ?_, fun h => (by cases h)⟩
      · have := refTake_goes AG l.length cG room lost (l.map Th.pl) j W hml hcG hcm hjm (by omega) hL
        rw [hgj] at this
        rw [show (l.eraseIdx j).map Th.pl = (l.map Th.pl).eraseIdx j by rw [List.eraseIdx_eq_take_drop_succ, List.eraseIdx_eq_take_drop_succ, List.map_append, List.map_take, List.map_drop]]
        exact this
      · refine (take_any hB j hj).mono ?_
        rintro e w' ⟨A, n, c, T', he, hn, h1, h2, h3, h4, h5⟩
        have hn' := hn.out
        subst hn'
        exact ⟨A, c, T', he, h1, h2, h3, h4, h5⟩
    | false =>
      refine ⟨l[j].b, true, l, hbm _ (List.getElem_mem hj), fun W hL => ?_, fun h => (by cases h), fun _ W hB => ?_⟩
      · have := refTake_look AG l.length cG room lost (l.map Th.pl) j W hml hcG hcm hjm hL
        rw [hgj] at this
        exact this
      · refine (look_any hB j hj).mono ?_
        rintro e w' ⟨A, n, c, he, hn, h1, h2, h3, h4⟩
        have hn' := hn.out
        subst hn'
        exact ⟨A, c, T, he, h1, h2, h3, hB.on h4, OnlyE.of_below h4⟩
  · refine ⟨[], false, l, Nat.zero_le _, fun W _ => refTake_no AG l.length cG room lost (l.map Th.pl) xi goes W hml hcG hcm hir, fun _ W hB => ?_, fun _ W hB => ?_⟩
    · refine (take_none hB xi hir).mono ?_
      rintro e w' ⟨rfl, rfl⟩
      exact ⟨none, 0, T, rfl, Nat.zero_le _, Nat.zero_le _, World.ownsRow_nil _ _ _ _, hB, OnlyE.refl _ _⟩
    · refine (look_none hB xi hir).mono ?_
      rintro e w' ⟨rfl, rfl⟩
      exact ⟨none, 0, T, rfl, Nat.zero_le _, Nat.zero_le _, World.ownsRow_nil _ _ _ _, hB, OnlyE.refl _ _⟩

set_option maxRecDepth 20000 in
set_option maxHeartbeats 3200000 in
theorem does_take (h : BagAt w base p T room lost l D) (AG : Option Addr) (cG : Nat) (hcG : l.length ≤ cG) (hcm : cG ≤ maxLen) (hG : LiesX w D AG (flat encG (l.map Th.pl))) (xA : Option Addr) (xc : Nat) (xb : List UInt8) (xi xp xs : Int) :
    Calls Try.prog 11 #[.pointer (some ⟨p, 0, none⟩), .agg #[.int .i64 (room : Int), .slice AG l.length cG, .int .i64 (lost : Int)], .agg #[.int .i64 1, .slice xA xb.length xc, .int .i64 xi, .int .i64 xp, .int .u32 xs]] w (Does w base p room lost D) := by
  have mixed := mixedOrders
  obtain ⟨sb, okb, l7, hsb, hRef, hTake, hLook⟩ := take_both (base := base) (p := p) (T := T) (room := room) (lost := lost) (l := l) (D := D) AG cG hcG hcm (Nat.le_trans h.fit h.room2) h.bm xi true
  have HDL : Hid (∀ b, D b → b < w.heap.size) := fun b hb => (h.din b hb).2
  have HREF := Lib.hid hRef
  have HBAG := Lib.hid (hTake rfl)
  have HH := Lib.hid h
  have HGX := Lib.hid hG
  generalize hN : l.length = n at HREF
  have HN := Lib.hid hN
  clear h hRef hTake hLook hG hN
  go_enter Try.func11, Try.ntmps11
  go_wp2_with fail
  generalize hw3 : World.alloc (World.alloc (World.alloc w (.cells #[.int .i64 (room : Int), .slice AG n cG, .int .i64 (lost : Int)] 28)) (.cells #[.int .i64 1, .slice xA xb.length xc, .int .i64 xi, .int .i64 xp, .int .u32 xs] 33)) (.cells #[.int .i64 0, .slice none 0 0, .int .i64 0] 28) = w3
  have hb3 : RowKit.Below w.heap.size w w3 := (alloc3_blocks w _ _ _ hw3).2.2.2
  have HB3 : Hid (DBox w D #[.int .i64 (room : Int), .slice AG n cG, .int .i64 (lost : Int)] #[.int .i64 1, .slice xA xb.length xc, .int .i64 xi, .int .i64 xp, .int .u32 xs] zeroG w3) := DBox.start hw3
  clear hw3
  have HBG3 := Lib.hid (HH.out.on hb3)
  have h3s := HB3.out.lt
  have hGL3 : LiesX w3 (fun b => D b ∨ b = w.heap.size + 1 + 1) AG (flat encG (l.map Th.pl)) := by
    have h1 : LiesX w (fun b => D b ∨ b = w.heap.size + 1 + 1) AG (flat encG (l.map Th.pl)) := HGX.out.widen fun k hk => hk.elim .inl fun h => .inr (by omega)
    exact h1.kept (OnlyE.of_below hb3)
  refine (HREF.out w3 hGL3.lies).mono ?_
  rintro e w4 ⟨A5, c5, he, hc5, hm5, hK5, hb4⟩
  have he' : e = .returned (.tuple #[.agg #[.int .i64 (room : Int), .slice A5 (l7.map Th.pl).length c5, .int .i64 (lost : Int)], .string (str sb), .bool okb]) := he
  clear he
  subst he'
  have hL4 := hK5 _ (fun b hb => hb.elim (fun h => by have := HDL.out b h; omega) (fun h => by omega)) hGL3
  have HB4 := Lib.hid (HB3.out.on hb4 HDL.out)
  have HBG4 := Lib.hid (HBG3.out.on hb4)
  have h34 := hb4.size
  generalize hM : (l7.map Th.pl).length = m at hc5 ⊢
  have HM := Lib.hid hM
  have HL4 := Lib.hid hL4
  have hb5 : RowKit.Below w4.heap.size w4 (World.alloc (World.alloc w4 (.cells #[.int .i64 (room : Int), .slice A5 m c5, .int .i64 (lost : Int)] 28)) (.cells #[] 5)) := ((RowKit.Below.refl _ _).alloc (Nat.le_refl _) _).alloc (by simp) _
  obtain ⟨a0, a1, a2, a3, a4⟩ := rowA_cells (HB4.out.on hb5 HDL.out).a
  clear hGL3 hK5 hb4 hL4 hM HB3 HBG3 hb3 hb5
  go_wp2_with fail
  generalize hw5 : World.alloc (World.alloc w4 (.cells #[.int .i64 (room : Int), .slice A5 m c5, .int .i64 (lost : Int)] 28)) (.cells #[] 5) = w5
  obtain ⟨q1, -, hb5⟩ := alloc2_blocks w4 _ _ hw5
  have hs5 : w5.heap.size = w4.heap.size + 2 := by rw [← hw5]; simp
  clear hw5
  have hB5 := HB4.out.on hb5 HDL.out
  refine (HBAG.out w5 (HBG4.out.on hb5)).mono ?_
  rintro e w7 ⟨AO, cO, T7, rfl, hcO, hmO, ho7, hB7, hO7⟩
  have HO7 := Lib.hid ho7
  have HB7 := Lib.hid (hB5.step hO7 (fun _ => .inl) HDL.out)
  have HR7 : Hid (w7.heap[w4.heap.size]? = some (.cells #[.int .i64 (room : Int), .slice A5 m c5, .int .i64 (lost : Int)] 28 (0, 0))) := (hO7.same _ (by omega) (fun h => by have := HDL.out _ h; omega)).trans q1
  have HL7 : Hid (LiesX w7 (fun b => D b ∨ ((Value.slice AO sb.length cO).ownBlock = some b ∨ b = w.heap.size + 1 + 1)) A5 (flat encG (l7.map Th.pl))) := by
    have h1 : LiesX w5 (fun b => D b ∨ ((Value.slice AO sb.length cO).ownBlock = some b ∨ b = w.heap.size + 1 + 1)) A5 (flat encG (l7.map Th.pl)) := (HL4.out.kept (OnlyE.of_below hb5)).widen fun k hk => hk.elim (fun h => .inl (.inl h)) fun h => h.elim (fun h => .inr (ho7.lt k h).1) (fun h => .inl (.inr h))
    exact h1.kept (hO7.mono fun b hb => .inl hb)
  have HBG7 := Lib.hid hB7
  have HOO4 : Hid (∀ b, (Value.slice AO sb.length cO).ownBlock = some b → w5.heap.size ≤ b ∧ b < w7.heap.size) := ho7.lt
  have s1 := strs_of (n := sb.length) rfl (Lies.of_own ho7) cO
  have hse : ((str sb).toList == (str sb).toList) = true := by simp
  clear ho7 hB7 hO7 hB5 q1 hb5 HB4 HBG4 HL4 a0 a1 a2 a3 a4
  cases okb

  · skip
    go_wp2_with fail
    go_loopw [19] (fun s wr => ∃ q : Nat, s = .int .i64 (q : Int) ∧ IncS w7 w5.heap.size sb.length q (.slice AO sb.length cO) wr) (fun s _ => sb.length - (intOf s).toNat)
    case atStart => exact ⟨0, rfl, IncS.start HO7.out⟩
    case round =>
      obtain ⟨q, rfl, hR⟩ := hrel
      clear s1
      by_cases hq : q < sb.length
      · obtain ⟨gO, c', k, hv, hk, hcell, hfr⟩ := hR.cell hq
        obtain ⟨rfl, rfl⟩ : AO = some ⟨gO, 0, none⟩ ∧ cO = c' := by injection hv with e1 _ e3; exact ⟨e1, e3⟩
        have hq2 : ¬ sb.length ≤ q := by omega
        have HR := Lib.hid hR
        clear hR hv
        go_wp2
        go_roundw
        case rel =>
          refine ⟨q + 1, by go_num, ?_⟩
          have := HR.out.step hq ((k + 1) % 256) (Nat.mod_lt _ (by decide))
          simpa using this
        case measure => simp [intOf]; omega
      · have hq0 := hR.1
        obtain rfl : q = sb.length := by omega
        obtain ⟨_, _, _, _, hOO⟩ := hR
        have hBr := HB7.out.step hOO (fun b hb => .inr (by have := (HOO4.out b hb).1; omega)) HDL.out
        have hRr : wr.heap[w4.heap.size]? = some (.cells #[.int .i64 (room : Int), .slice A5 m c5, .int .i64 (lost : Int)] 28 (0, 0)) := (hOO.same _ (Array.getElem?_eq_some_iff.1 HR7.out).1 (fun h => by have := (HOO4.out _ h).1; omega)).trans HR7.out
        have hBGr := HBG7.out.kept hOO (fun b hb ho => by have := HDL.out b hb; have := (HOO4.out b ho).1; omega)
        have hLr := HL7.out.kept (hOO.mono fun b hb => .inr (.inl hb))
        have HBr := Lib.hid hBr
        have HBGr := Lib.hid hBGr
        have HLr := Lib.hid hLr
        clear HB7 HR7 HBG7 HL7 hOO hBr hBGr hLr HO7
        go_wp2_with fail
        refine wp_region_Z 3 (fun W => W.heap[w4.heap.size]? = some (.cells #[.int .i64 (room : Int), .slice A5 m c5, .int .i64 (lost : Int)] 28 (0, 0))) (by kernel_rfl) ?_
        have hHeld : wr.drew.heap[w4.heap.size]? = some (.cells #[.int .i64 (room : Int), .slice A5 m c5, .int .i64 (lost : Int)] 28 (0, 0)) := hRr
        have HB8 := Lib.hid (HBr.out.on (drewB wr) HDL.out)
        have HBG8 := Lib.hid (HBGr.out.on (drewB wr))
        have HL8 := Lib.hid (HLr.out.kept (onlyE_drew wr _))
        clear hRr HBr HBGr HLr
        generalize wr.drew = w8 at hHeld HB8 HBG8 HL8 ⊢
        refine wpZ_take (i := 0) (d := 111) (v := ?_) rfl rfl (by kernel_rfl) (by kernel_rfl) (by kernel_rfl) (by kernel_rfl) (fun _ _ _ h => h) (Or.inl ⟨by rfl, ?_⟩) hHeld ?_
        rotate_left
        · (intro _ hSw; go_simp; try with_reducible rfl)
        simp only [List.setIfInBounds_toArray, List.set_cons_zero, List.set_cons_succ]
        refine wpZ_take (i := 1) (d := 112) (v := ?_) rfl rfl (by kernel_rfl) (by kernel_rfl) (by kernel_rfl) (by kernel_rfl) (fun _ _ _ h => h) (Or.inl ⟨by rfl, ?_⟩) hHeld ?_
        rotate_left
        · (intro _ hSw; obtain ⟨x0, x1, x2⟩ := rowG_cells hSw; go_simp; try with_reducible rfl)
        simp only [List.setIfInBounds_toArray, List.set_cons_zero, List.set_cons_succ]
        refine wpZ_take (i := 2) (d := 6) (v := ?_) rfl rfl (by kernel_rfl) (by kernel_rfl) (by kernel_rfl) (by kernel_rfl) (fun _ _ _ h => h) (Or.inl ⟨by rfl, ?_⟩) hHeld ?_
        rotate_left
        · (intro _ hSw; go_simp; try with_reducible rfl)
        simp only [List.setIfInBounds_toArray, List.set_cons_zero, List.set_cons_succ]
        refine wpZ_ready (rs := [3]) (by kernel_rfl) (by simp) ?_
        refine AllReadyZ.cons rfl (fun K hK => ?_) AllReadyZ.nil
        refine wp_store_G (x := .tmp 7) (y := .tmp 112) rfl rfl rfl rfl HB8.out.r rfl rfl (by simp [Value.oneCell']) ?_
        go_simp
        refine hK.out _ _ (fun h => absurd rfl h) ?_
        clear hK K
        refine wpZ_done (by kernel_rfl) ?_ _
        have hw8 := HB8.out.r
        have hg8 : ∀ cs, OnlyE w8 (w8.setRow (w.heap.size + 1 + 1) cs) (fun k => k = w.heap.size + 1 + 1) := fun cs => onlyE_setRow (D := fun k => k = w.heap.size + 1 + 1) rfl cs
        go_wp2
        refine bodyPost_ret (results_tmp_cell rfl _ _ (w.heap.size + 1 + 1) _ rfl (load_rowG (setRow_heap _ _ _ _ _ _ hw8) rfl)) rfl ?_
        have hl7 : l7.length = m := by rw [← HM.out, List.length_map]
        refine ⟨T7, lost, l7, D, A5, c5, by rw [hl7]; rfl, ?_, by rw [hl7]; exact hc5, hm5, ?_, ?_, fun b hb => .inl hb, Nat.le_succ _⟩
        · exact HBG8.out.kept (hg8 _) fun b hb e => by have := HDL.out b hb; omega
        · exact (HL8.out.kept ((hg8 _).mono fun b hb => .inr (.inr hb))).widen fun k hk => .inl (.inl hk)
        · exact ⟨Nat.le_trans HB8.out.only.size (hg8 _).size, fun k hk hd => ((hg8 _).same k (Nat.lt_of_lt_of_le hk HB8.out.only.size) (by omega)).trans (HB8.out.only.same k hk hd), HB8.out.only.base.trans (hg8 _).base⟩
  · skip
    go_wp2_with fail
    go_loopw [19] (fun s wr => ∃ q : Nat, s = .int .i64 (q : Int) ∧ IncS w7 w5.heap.size sb.length q (.slice AO sb.length cO) wr) (fun s _ => sb.length - (intOf s).toNat)
    case atStart => exact ⟨0, rfl, IncS.start HO7.out⟩
    case round =>
      obtain ⟨q, rfl, hR⟩ := hrel
      clear s1
      by_cases hq : q < sb.length
      · obtain ⟨gO, c', k, hv, hk, hcell, hfr⟩ := hR.cell hq
        obtain ⟨rfl, rfl⟩ : AO = some ⟨gO, 0, none⟩ ∧ cO = c' := by injection hv with e1 _ e3; exact ⟨e1, e3⟩
        have hq2 : ¬ sb.length ≤ q := by omega
        have HR := Lib.hid hR
        clear hR hv
        go_wp2
        go_roundw
        case rel =>
          refine ⟨q + 1, by go_num, ?_⟩
          have := HR.out.step hq ((k + 1) % 256) (Nat.mod_lt _ (by decide))
          simpa using this
        case measure => simp [intOf]; omega
      · have hq0 := hR.1
        obtain rfl : q = sb.length := by omega
        obtain ⟨_, _, _, _, hOO⟩ := hR
        have hBr := HB7.out.step hOO (fun b hb => .inr (by have := (HOO4.out b hb).1; omega)) HDL.out
        have hRr : wr.heap[w4.heap.size]? = some (.cells #[.int .i64 (room : Int), .slice A5 m c5, .int .i64 (lost : Int)] 28 (0, 0)) := (hOO.same _ (Array.getElem?_eq_some_iff.1 HR7.out).1 (fun h => by have := (HOO4.out _ h).1; omega)).trans HR7.out
        have hBGr := HBG7.out.kept hOO (fun b hb ho => by have := HDL.out b hb; have := (HOO4.out b ho).1; omega)
        have hLr := HL7.out.kept (hOO.mono fun b hb => .inr (.inl hb))
        have HBr := Lib.hid hBr
        have HBGr := Lib.hid hBGr
        have HLr := Lib.hid hLr
        clear HB7 HR7 HBG7 HL7 hOO hBr hBGr hLr HO7
        go_wp2_with fail
        refine wp_region_Z 3 (fun W => W.heap[w4.heap.size]? = some (.cells #[.int .i64 (room : Int), .slice A5 m c5, .int .i64 (lost : Int)] 28 (0, 0))) (by kernel_rfl) ?_
        have hHeld : wr.drew.heap[w4.heap.size]? = some (.cells #[.int .i64 (room : Int), .slice A5 m c5, .int .i64 (lost : Int)] 28 (0, 0)) := hRr
        have HB8 := Lib.hid (HBr.out.on (drewB wr) HDL.out)
        have HBG8 := Lib.hid (HBGr.out.on (drewB wr))
        have HL8 := Lib.hid (HLr.out.kept (onlyE_drew wr _))
        clear hRr HBr HBGr HLr
        generalize wr.drew = w8 at hHeld HB8 HBG8 HL8 ⊢
        refine wpZ_take (i := 0) (d := 111) (v := ?_) rfl rfl (by kernel_rfl) (by kernel_rfl) (by kernel_rfl) (by kernel_rfl) (fun _ _ _ h => h) (Or.inl ⟨by rfl, ?_⟩) hHeld ?_
        rotate_left
        · (intro _ hSw; go_simp; try with_reducible rfl)
        simp only [List.setIfInBounds_toArray, List.set_cons_zero, List.set_cons_succ]
        refine wpZ_take (i := 1) (d := 112) (v := ?_) rfl rfl (by kernel_rfl) (by kernel_rfl) (by kernel_rfl) (by kernel_rfl) (fun _ _ _ h => h) (Or.inl ⟨by rfl, ?_⟩) hHeld ?_
        rotate_left
        · (intro _ hSw; obtain ⟨x0, x1, x2⟩ := rowG_cells hSw; go_simp; try with_reducible rfl)
        simp only [List.setIfInBounds_toArray, List.set_cons_zero, List.set_cons_succ]
        refine wpZ_take (i := 2) (d := 6) (v := ?_) rfl rfl (by kernel_rfl) (by kernel_rfl) (by kernel_rfl) (by kernel_rfl) (fun _ _ _ h => h) (Or.inl ⟨by rfl, ?_⟩) hHeld ?_
        rotate_left
        · (intro _ hSw; go_simp; try with_reducible rfl)
        simp only [List.setIfInBounds_toArray, List.set_cons_zero, List.set_cons_succ]
        refine wpZ_ready (rs := [3]) (by kernel_rfl) (by simp) ?_
        refine AllReadyZ.cons rfl (fun K hK => ?_) AllReadyZ.nil
        refine wp_store_G (x := .tmp 7) (y := .tmp 112) rfl rfl rfl rfl HB8.out.r rfl rfl (by simp [Value.oneCell']) ?_
        go_simp
        refine hK.out _ _ (fun h => absurd rfl h) ?_
        clear hK K
        refine wpZ_done (by kernel_rfl) ?_ _
        have hw8 := HB8.out.r
        have hg8 : ∀ cs, OnlyE w8 (w8.setRow (w.heap.size + 1 + 1) cs) (fun k => k = w.heap.size + 1 + 1) := fun cs => onlyE_setRow (D := fun k => k = w.heap.size + 1 + 1) rfl cs
        go_wp2
        refine bodyPost_ret (results_tmp_cell rfl _ _ (w.heap.size + 1 + 1) _ rfl (load_rowG (setRow_heap _ _ _ _ _ _ hw8) rfl)) rfl ?_
        have hl7 : l7.length = m := by rw [← HM.out, List.length_map]
        refine ⟨T7, lost, l7, D, A5, c5, by rw [hl7]; rfl, ?_, by rw [hl7]; exact hc5, hm5, ?_, ?_, fun b hb => .inl hb, Nat.le_succ _⟩
        · exact HBG8.out.kept (hg8 _) fun b hb e => by have := HDL.out b hb; omega
        · exact (HL8.out.kept ((hg8 _).mono fun b hb => .inr (.inr hb))).widen fun k hk => .inl (.inl hk)
        · exact ⟨Nat.le_trans HB8.out.only.size (hg8 _).size, fun k hk hd => ((hg8 _).same k (Nat.lt_of_lt_of_le hk HB8.out.only.size) (by omega)).trans (HB8.out.only.same k hk hd), HB8.out.only.base.trans (hg8 _).base⟩

set_option maxRecDepth 20000 in
set_option maxHeartbeats 3200000 in
theorem does_look (h : BagAt w base p T room lost l D) (AG : Option Addr) (cG : Nat) (hcG : l.length ≤ cG) (hcm : cG ≤ maxLen) (hG : LiesX w D AG (flat encG (l.map Th.pl))) (xA : Option Addr) (xc : Nat) (xb : List UInt8) (xi xp xs : Int) :
    Calls Try.prog 11 #[.pointer (some ⟨p, 0, none⟩), .agg #[.int .i64 (room : Int), .slice AG l.length cG, .int .i64 (lost : Int)], .agg #[.int .i64 2, .slice xA xb.length xc, .int .i64 xi, .int .i64 xp, .int .u32 xs]] w (Does w base p room lost D) := by
  have mixed := mixedOrders
  obtain ⟨sb, okb, l7, hsb, hRef, hTake, hLook⟩ := take_both (base := base) (p := p) (T := T) (room := room) (lost := lost) (l := l) (D := D) AG cG hcG hcm (Nat.le_trans h.fit h.room2) h.bm xi false
  have HDL : Hid (∀ b, D b → b < w.heap.size) := fun b hb => (h.din b hb).2
  have HREF := Lib.hid hRef
  have HBAG := Lib.hid (hLook rfl)
  have HH := Lib.hid h
  have HGX := Lib.hid hG
  generalize hN : l.length = n at HREF
  have HN := Lib.hid hN
  clear h hRef hTake hLook hG hN
  go_enter Try.func11, Try.ntmps11
  go_wp2_with fail
  generalize hw3 : World.alloc (World.alloc (World.alloc w (.cells #[.int .i64 (room : Int), .slice AG n cG, .int .i64 (lost : Int)] 28)) (.cells #[.int .i64 2, .slice xA xb.length xc, .int .i64 xi, .int .i64 xp, .int .u32 xs] 33)) (.cells #[.int .i64 0, .slice none 0 0, .int .i64 0] 28) = w3
  have hb3 : RowKit.Below w.heap.size w w3 := (alloc3_blocks w _ _ _ hw3).2.2.2
  have HB3 : Hid (DBox w D #[.int .i64 (room : Int), .slice AG n cG, .int .i64 (lost : Int)] #[.int .i64 2, .slice xA xb.length xc, .int .i64 xi, .int .i64 xp, .int .u32 xs] zeroG w3) := DBox.start hw3
  clear hw3
  have HBG3 := Lib.hid (HH.out.on hb3)
  have h3s := HB3.out.lt
  have hGL3 : LiesX w3 (fun b => D b ∨ b = w.heap.size + 1 + 1) AG (flat encG (l.map Th.pl)) := by
    have h1 : LiesX w (fun b => D b ∨ b = w.heap.size + 1 + 1) AG (flat encG (l.map Th.pl)) := HGX.out.widen fun k hk => hk.elim .inl fun h => .inr (by omega)
    exact h1.kept (OnlyE.of_below hb3)
  refine (HREF.out w3 hGL3.lies).mono ?_
  rintro e w4 ⟨A5, c5, he, hc5, hm5, hK5, hb4⟩
  have he' : e = .returned (.tuple #[.agg #[.int .i64 (room : Int), .slice A5 (l7.map Th.pl).length c5, .int .i64 (lost : Int)], .string (str sb), .bool okb]) := he
  clear he
  subst he'
  have hL4 := hK5 _ (fun b hb => hb.elim (fun h => by have := HDL.out b h; omega) (fun h => by omega)) hGL3
  have HB4 := Lib.hid (HB3.out.on hb4 HDL.out)
  have HBG4 := Lib.hid (HBG3.out.on hb4)
  have h34 := hb4.size
  generalize hM : (l7.map Th.pl).length = m at hc5 ⊢
  have HM := Lib.hid hM
  have HL4 := Lib.hid hL4
  have hb5 : RowKit.Below w4.heap.size w4 (World.alloc (World.alloc w4 (.cells #[.int .i64 (room : Int), .slice A5 m c5, .int .i64 (lost : Int)] 28)) (.cells #[] 5)) := ((RowKit.Below.refl _ _).alloc (Nat.le_refl _) _).alloc (by simp) _
  obtain ⟨a0, a1, a2, a3, a4⟩ := rowA_cells (HB4.out.on hb5 HDL.out).a
  clear hGL3 hK5 hb4 hL4 hM HB3 HBG3 hb3 hb5
  go_wp2_with fail
  generalize hw5 : World.alloc (World.alloc w4 (.cells #[.int .i64 (room : Int), .slice A5 m c5, .int .i64 (lost : Int)] 28)) (.cells #[] 5) = w5
  obtain ⟨q1, -, hb5⟩ := alloc2_blocks w4 _ _ hw5
  have hs5 : w5.heap.size = w4.heap.size + 2 := by rw [← hw5]; simp
  clear hw5
  have hB5 := HB4.out.on hb5 HDL.out
  refine (HBAG.out w5 (HBG4.out.on hb5)).mono ?_
  rintro e w7 ⟨AO, cO, T7, rfl, hcO, hmO, ho7, hB7, hO7⟩
  have HO7 := Lib.hid ho7
  have HB7 := Lib.hid (hB5.step hO7 (fun _ => .inl) HDL.out)
  have HR7 : Hid (w7.heap[w4.heap.size]? = some (.cells #[.int .i64 (room : Int), .slice A5 m c5, .int .i64 (lost : Int)] 28 (0, 0))) := (hO7.same _ (by omega) (fun h => by have := HDL.out _ h; omega)).trans q1
  have HL7 : Hid (LiesX w7 (fun b => D b ∨ ((Value.slice AO sb.length cO).ownBlock = some b ∨ b = w.heap.size + 1 + 1)) A5 (flat encG (l7.map Th.pl))) := by
    have h1 : LiesX w5 (fun b => D b ∨ ((Value.slice AO sb.length cO).ownBlock = some b ∨ b = w.heap.size + 1 + 1)) A5 (flat encG (l7.map Th.pl)) := (HL4.out.kept (OnlyE.of_below hb5)).widen fun k hk => hk.elim (fun h => .inl (.inl h)) fun h => h.elim (fun h => .inr (ho7.lt k h).1) (fun h => .inl (.inr h))
    exact h1.kept (hO7.mono fun b hb => .inl hb)
  have HBG7 := Lib.hid hB7
  have HOO4 : Hid (∀ b, (Value.slice AO sb.length cO).ownBlock = some b → w5.heap.size ≤ b ∧ b < w7.heap.size) := ho7.lt
  have s1 := strs_of (n := sb.length) rfl (Lies.of_own ho7) cO
  have hse : ((str sb).toList == (str sb).toList) = true := by simp
  clear ho7 hB7 hO7 hB5 q1 hb5 HB4 HBG4 HL4 a0 a1 a2 a3 a4
  cases okb

  · skip
    go_wp2_with fail
    go_loopw [19] (fun s wr => ∃ q : Nat, s = .int .i64 (q : Int) ∧ IncS w7 w5.heap.size sb.length q (.slice AO sb.length cO) wr) (fun s _ => sb.length - (intOf s).toNat)
    case atStart => exact ⟨0, rfl, IncS.start HO7.out⟩
    case round =>
      obtain ⟨q, rfl, hR⟩ := hrel
      clear s1
      by_cases hq : q < sb.length
      · obtain ⟨gO, c', k, hv, hk, hcell, hfr⟩ := hR.cell hq
        obtain ⟨rfl, rfl⟩ : AO = some ⟨gO, 0, none⟩ ∧ cO = c' := by injection hv with e1 _ e3; exact ⟨e1, e3⟩
        have hq2 : ¬ sb.length ≤ q := by omega
        have HR := Lib.hid hR
        clear hR hv
        go_wp2
        go_roundw
        case rel =>
          refine ⟨q + 1, by go_num, ?_⟩
          have := HR.out.step hq ((k + 1) % 256) (Nat.mod_lt _ (by decide))
          simpa using this
        case measure => simp [intOf]; omega
      · have hq0 := hR.1
        obtain rfl : q = sb.length := by omega
        obtain ⟨_, _, _, _, hOO⟩ := hR
        have hBr := HB7.out.step hOO (fun b hb => .inr (by have := (HOO4.out b hb).1; omega)) HDL.out
        have hRr : wr.heap[w4.heap.size]? = some (.cells #[.int .i64 (room : Int), .slice A5 m c5, .int .i64 (lost : Int)] 28 (0, 0)) := (hOO.same _ (Array.getElem?_eq_some_iff.1 HR7.out).1 (fun h => by have := (HOO4.out _ h).1; omega)).trans HR7.out
        have hBGr := HBG7.out.kept hOO (fun b hb ho => by have := HDL.out b hb; have := (HOO4.out b ho).1; omega)
        have hLr := HL7.out.kept (hOO.mono fun b hb => .inr (.inl hb))
        have HBr := Lib.hid hBr
        have HBGr := Lib.hid hBGr
        have HLr := Lib.hid hLr
        clear HB7 HR7 HBG7 HL7 hOO hBr hBGr hLr HO7
        go_wp2_with fail
        refine wp_region_Z 3 (fun W => W.heap[w4.heap.size]? = some (.cells #[.int .i64 (room : Int), .slice A5 m c5, .int .i64 (lost : Int)] 28 (0, 0))) (by kernel_rfl) ?_
        have hHeld : wr.drew.heap[w4.heap.size]? = some (.cells #[.int .i64 (room : Int), .slice A5 m c5, .int .i64 (lost : Int)] 28 (0, 0)) := hRr
        have HB8 := Lib.hid (HBr.out.on (drewB wr) HDL.out)
        have HBG8 := Lib.hid (HBGr.out.on (drewB wr))
        have HL8 := Lib.hid (HLr.out.kept (onlyE_drew wr _))
        clear hRr HBr HBGr HLr
        generalize wr.drew = w8 at hHeld HB8 HBG8 HL8 ⊢
        refine wpZ_take (i := 0) (d := 111) (v := ?_) rfl rfl (by kernel_rfl) (by kernel_rfl) (by kernel_rfl) (by kernel_rfl) (fun _ _ _ h => h) (Or.inl ⟨by rfl, ?_⟩) hHeld ?_
        rotate_left
        · (intro _ hSw; go_simp; try with_reducible rfl)
        simp only [List.setIfInBounds_toArray, List.set_cons_zero, List.set_cons_succ]
        refine wpZ_take (i := 1) (d := 112) (v := ?_) rfl rfl (by kernel_rfl) (by kernel_rfl) (by kernel_rfl) (by kernel_rfl) (fun _ _ _ h => h) (Or.inl ⟨by rfl, ?_⟩) hHeld ?_
        rotate_left
        · (intro _ hSw; obtain ⟨x0, x1, x2⟩ := rowG_cells hSw; go_simp; try with_reducible rfl)
        simp only [List.setIfInBounds_toArray, List.set_cons_zero, List.set_cons_succ]
        refine wpZ_take (i := 2) (d := 6) (v := ?_) rfl rfl (by kernel_rfl) (by kernel_rfl) (by kernel_rfl) (by kernel_rfl) (fun _ _ _ h => h) (Or.inl ⟨by rfl, ?_⟩) hHeld ?_
        rotate_left
        · (intro _ hSw; go_simp; try with_reducible rfl)
        simp only [List.setIfInBounds_toArray, List.set_cons_zero, List.set_cons_succ]
        refine wpZ_ready (rs := [3]) (by kernel_rfl) (by simp) ?_
        refine AllReadyZ.cons rfl (fun K hK => ?_) AllReadyZ.nil
        refine wp_store_G (x := .tmp 7) (y := .tmp 112) rfl rfl rfl rfl HB8.out.r rfl rfl (by simp [Value.oneCell']) ?_
        go_simp
        refine hK.out _ _ (fun h => absurd rfl h) ?_
        clear hK K
        refine wpZ_done (by kernel_rfl) ?_ _
        have hw8 := HB8.out.r
        have hg8 : ∀ cs, OnlyE w8 (w8.setRow (w.heap.size + 1 + 1) cs) (fun k => k = w.heap.size + 1 + 1) := fun cs => onlyE_setRow (D := fun k => k = w.heap.size + 1 + 1) rfl cs
        go_wp2
        refine bodyPost_ret (results_tmp_cell rfl _ _ (w.heap.size + 1 + 1) _ rfl (load_rowG (setRow_heap _ _ _ _ _ _ hw8) rfl)) rfl ?_
        have hl7 : l7.length = m := by rw [← HM.out, List.length_map]
        refine ⟨T7, lost, l7, D, A5, c5, by rw [hl7]; rfl, ?_, by rw [hl7]; exact hc5, hm5, ?_, ?_, fun b hb => .inl hb, Nat.le_succ _⟩
        · exact HBG8.out.kept (hg8 _) fun b hb e => by have := HDL.out b hb; omega
        · exact (HL8.out.kept ((hg8 _).mono fun b hb => .inr (.inr hb))).widen fun k hk => .inl (.inl hk)
        · exact ⟨Nat.le_trans HB8.out.only.size (hg8 _).size, fun k hk hd => ((hg8 _).same k (Nat.lt_of_lt_of_le hk HB8.out.only.size) (by omega)).trans (HB8.out.only.same k hk hd), HB8.out.only.base.trans (hg8 _).base⟩
  · skip
    go_wp2_with fail
    go_loopw [19] (fun s wr => ∃ q : Nat, s = .int .i64 (q : Int) ∧ IncS w7 w5.heap.size sb.length q (.slice AO sb.length cO) wr) (fun s _ => sb.length - (intOf s).toNat)
    case atStart => exact ⟨0, rfl, IncS.start HO7.out⟩
    case round =>
      obtain ⟨q, rfl, hR⟩ := hrel
      clear s1
      by_cases hq : q < sb.length
      · obtain ⟨gO, c', k, hv, hk, hcell, hfr⟩ := hR.cell hq
        obtain ⟨rfl, rfl⟩ : AO = some ⟨gO, 0, none⟩ ∧ cO = c' := by injection hv with e1 _ e3; exact ⟨e1, e3⟩
        have hq2 : ¬ sb.length ≤ q := by omega
        have HR := Lib.hid hR
        clear hR hv
        go_wp2
        go_roundw
        case rel =>
          refine ⟨q + 1, by go_num, ?_⟩
          have := HR.out.step hq ((k + 1) % 256) (Nat.mod_lt _ (by decide))
          simpa using this
        case measure => simp [intOf]; omega
      · have hq0 := hR.1
        obtain rfl : q = sb.length := by omega
        obtain ⟨_, _, _, _, hOO⟩ := hR
        have hBr := HB7.out.step hOO (fun b hb => .inr (by have := (HOO4.out b hb).1; omega)) HDL.out
        have hRr : wr.heap[w4.heap.size]? = some (.cells #[.int .i64 (room : Int), .slice A5 m c5, .int .i64 (lost : Int)] 28 (0, 0)) := (hOO.same _ (Array.getElem?_eq_some_iff.1 HR7.out).1 (fun h => by have := (HOO4.out _ h).1; omega)).trans HR7.out
        have hBGr := HBG7.out.kept hOO (fun b hb ho => by have := HDL.out b hb; have := (HOO4.out b ho).1; omega)
        have hLr := HL7.out.kept (hOO.mono fun b hb => .inr (.inl hb))
        have HBr := Lib.hid hBr
        have HBGr := Lib.hid hBGr
        have HLr := Lib.hid hLr
        clear HB7 HR7 HBG7 HL7 hOO hBr hBGr hLr HO7
        go_wp2_with fail
        refine wp_region_Z 3 (fun W => W.heap[w4.heap.size]? = some (.cells #[.int .i64 (room : Int), .slice A5 m c5, .int .i64 (lost : Int)] 28 (0, 0))) (by kernel_rfl) ?_
        have hHeld : wr.drew.heap[w4.heap.size]? = some (.cells #[.int .i64 (room : Int), .slice A5 m c5, .int .i64 (lost : Int)] 28 (0, 0)) := hRr
        have HB8 := Lib.hid (HBr.out.on (drewB wr) HDL.out)
        have HBG8 := Lib.hid (HBGr.out.on (drewB wr))
        have HL8 := Lib.hid (HLr.out.kept (onlyE_drew wr _))
        clear hRr HBr HBGr HLr
        generalize wr.drew = w8 at hHeld HB8 HBG8 HL8 ⊢
        refine wpZ_take (i := 0) (d := 111) (v := ?_) rfl rfl (by kernel_rfl) (by kernel_rfl) (by kernel_rfl) (by kernel_rfl) (fun _ _ _ h => h) (Or.inl ⟨by rfl, ?_⟩) hHeld ?_
        rotate_left
        · (intro _ hSw; go_simp; try with_reducible rfl)
        simp only [List.setIfInBounds_toArray, List.set_cons_zero, List.set_cons_succ]
        refine wpZ_take (i := 1) (d := 112) (v := ?_) rfl rfl (by kernel_rfl) (by kernel_rfl) (by kernel_rfl) (by kernel_rfl) (fun _ _ _ h => h) (Or.inl ⟨by rfl, ?_⟩) hHeld ?_
        rotate_left
        · (intro _ hSw; obtain ⟨x0, x1, x2⟩ := rowG_cells hSw; go_simp; try with_reducible rfl)
        simp only [List.setIfInBounds_toArray, List.set_cons_zero, List.set_cons_succ]
        refine wpZ_take (i := 2) (d := 6) (v := ?_) rfl rfl (by kernel_rfl) (by kernel_rfl) (by kernel_rfl) (by kernel_rfl) (fun _ _ _ h => h) (Or.inl ⟨by rfl, ?_⟩) hHeld ?_
        rotate_left
        · (intro _ hSw; go_simp; try with_reducible rfl)
        simp only [List.setIfInBounds_toArray, List.set_cons_zero, List.set_cons_succ]
        refine wpZ_ready (rs := [3]) (by kernel_rfl) (by simp) ?_
        refine AllReadyZ.cons rfl (fun K hK => ?_) AllReadyZ.nil
        refine wp_store_G (x := .tmp 7) (y := .tmp 112) rfl rfl rfl rfl HB8.out.r rfl rfl (by simp [Value.oneCell']) ?_
        go_simp
        refine hK.out _ _ (fun h => absurd rfl h) ?_
        clear hK K
        refine wpZ_done (by kernel_rfl) ?_ _
        have hw8 := HB8.out.r
        have hg8 : ∀ cs, OnlyE w8 (w8.setRow (w.heap.size + 1 + 1) cs) (fun k => k = w.heap.size + 1 + 1) := fun cs => onlyE_setRow (D := fun k => k = w.heap.size + 1 + 1) rfl cs
        go_wp2
        refine bodyPost_ret (results_tmp_cell rfl _ _ (w.heap.size + 1 + 1) _ rfl (load_rowG (setRow_heap _ _ _ _ _ _ hw8) rfl)) rfl ?_
        have hl7 : l7.length = m := by rw [← HM.out, List.length_map]
        refine ⟨T7, lost, l7, D, A5, c5, by rw [hl7]; rfl, ?_, by rw [hl7]; exact hc5, hm5, ?_, ?_, fun b hb => .inl hb, Nat.le_succ _⟩
        · exact HBG8.out.kept (hg8 _) fun b hb e => by have := HDL.out b hb; omega
        · exact (HL8.out.kept ((hg8 _).mono fun b hb => .inr (.inr hb))).widen fun k hk => .inl (.inl hk)
        · exact ⟨Nat.le_trans HB8.out.only.size (hg8 _).size, fun k hk hd => ((hg8 _).same k (Nat.lt_of_lt_of_le hk HB8.out.only.size) (by omega)).trans (HB8.out.only.same k hk hd), HB8.out.only.base.trans (hg8 _).base⟩
end

end Go.Proofs.Ytjecphjdmjoeiaa
