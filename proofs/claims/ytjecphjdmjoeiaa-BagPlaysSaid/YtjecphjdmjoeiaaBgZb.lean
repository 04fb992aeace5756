/- does: a Twice, and a Turn. -/
import Derived.Test.YtjecphjdmjoeiaaBgZ
namespace Go.Proofs.Ytjecphjdmjoeiaa
open Go.RowKit Go.Sort

/-- The act's box, and the answer of the document's call. -/
structure TwoR (s : Nat) (as_ : Array Value) (q : Nat) (gs : Array Value) (W : World) : Prop where
  a : W.heap[s + 1]? = some (.cells as_ 33 (0, 0))
  g : W.heap[q]? = some (.cells gs 28 (0, 0))
theorem TwoR.only {s q : Nat} {as_ gs : Array Value} {W W' : World} {D : Nat → Prop} (h : TwoR s as_ q gs W) (ho : OnlyE W W' D) (h1 : ¬ D (s + 1)) (h2 : ¬ D q) : TwoR s as_ q gs W' :=
  ⟨(ho.same _ (Array.getElem?_eq_some_iff.1 h.a).1 h1).trans h.a, (ho.same _ (Array.getElem?_eq_some_iff.1 h.g).1 h2).trans h.g⟩

section
variable {w : World} {base p : Nat} {T : Value} {room lost : Nat} {l : List Th} {D : Nat → Prop}

/-- The bag behind an act that answers a bool. -/
def Acted (W : World) (base p room lost : Nat) (D : Nat → Prop) (gl' : List (List UInt8 × Bool)) (okb : Bool) (e : Ending) (w' : World) : Prop :=
  e = .returned (.bool okb) ∧ ∃ T' l' D', BagAt w' base p T' room lost l' D' ∧ l'.map Th.pl = gl' ∧ OnlyE W w' D ∧ (∀ b, D' b → D b ∨ W.heap.size ≤ b) ∧ (∀ b, D b → D' b)

theorem Acted.none {W : World} (h : BagAt W base p T room lost l D) : Acted W base p room lost D (l.map Th.pl) false (.returned (.bool false)) W :=
  ⟨rfl, T, l, D, h, rfl, OnlyE.refl _ _, fun _ => .inl, fun _ => id⟩

theorem twice_both (AG : Option Addr) (cG : Nat) (hcG : l.length ≤ cG) (hcm : cG ≤ maxLen) (hn : l.length ≤ 4096) (xi : Int) : ∃ (okb : Bool) (gl' : List (List UInt8 × Bool)),
    (∀ W, Lies W W.heap.size AG (flat encG (l.map Th.pl)) → Calls Try.prog 23 #[.agg #[.int .i64 (room : Int), .slice AG l.length cG, .int .i64 (lost : Int)], .int .i64 xi] W (GGot W AG (l.map Th.pl) room gl' lost #[.bool okb])) ∧
    (∀ W, BagAt W base p T room lost l D → Calls Try.prog 16 #[.pointer (some ⟨p, 0, none⟩), .int .i64 xi] W (Acted W base p room lost D gl' okb)) := by
  have hml : (l.map Th.pl).length = l.length := List.length_map _
  by_cases hir : 0 ≤ xi ∧ xi < l.length
  · obtain ⟨j, rfl⟩ := Int.eq_ofNat_of_zero_le hir.1
    have hj : j < l.length := by omega
    have hjm : j < (l.map Th.pl).length := by rw [hml]; exact hj
    have hgj : (l.map Th.pl)[j] = l[j].pl := List.getElem_map _
    by_cases hr : room ≤ l.length
    · refine ⟨false, l.map Th.pl, fun W _ => refTwice_no AG l.length cG room lost (l.map Th.pl) (j : Int) W hml hcG hcm (.inr hr), fun W hB => ?_⟩
      refine (twice_full hB j hj hr).mono ?_
      rintro e w' ⟨rfl, hb⟩
      exact ⟨rfl, T, l, D, hB.on hb, rfl, OnlyE.of_below hb, fun _ => .inl, fun _ => id⟩
    · refine ⟨true, l.map Th.pl ++ [l[j].pl], fun W hL => ?_, fun W hB => ?_⟩
      · have := refTwice_any AG l.length cG room lost (l.map Th.pl) j W hml hjm hr (by omega) hL
        rw [hgj] at this
        exact this
      · refine (twice_any hB j hj (by omega)).mono ?_
        rintro e w' ⟨rfl, hP⟩
        exact ⟨rfl, hP⟩
  · refine ⟨false, l.map Th.pl, fun W _ => refTwice_no AG l.length cG room lost (l.map Th.pl) xi W hml hcG hcm (.inl hir), fun W hB => ?_⟩
    refine (twice_none hB xi hir).mono ?_
    rintro e w' ⟨rfl, rfl⟩
    exact Acted.none hB

theorem turn_both (AG : Option Addr) (cG : Nat) (hcG : l.length ≤ cG) (hcm : cG ≤ maxLen) (hn : l.length ≤ 4096) (hbm : ∀ x ∈ l, x.b.length ≤ 1000) (xi xp xs : Int) (hs0 : 0 ≤ xs) (hs4 : xs < 4294967296) : ∃ (okb : Bool) (gl' : List (List UInt8 × Bool)),
    (∀ W, Lies W W.heap.size AG (flat encG (l.map Th.pl)) → Calls Try.prog 24 #[.agg #[.int .i64 (room : Int), .slice AG l.length cG, .int .i64 (lost : Int)], .int .i64 xi, .int .i64 xp, .int .u32 xs] W (GGot W AG (l.map Th.pl) room gl' lost #[.bool okb])) ∧
    (∀ W, BagAt W base p T room lost l D → Calls Try.prog 19 #[.pointer (some ⟨p, 0, none⟩), .int .i64 xi, .int .i64 xp, .int .u32 xs] W (Acted W base p room lost D gl' okb)) := by
  have hml : (l.map Th.pl).length = l.length := List.length_map _
  by_cases hir : 0 ≤ xi ∧ xi < l.length
  · obtain ⟨j, rfl⟩ := Int.eq_ofNat_of_zero_le hir.1
    have hj : j < l.length := by omega
    have hjm : j < (l.map Th.pl).length := by rw [hml]; exact hj
    have hgj : (l.map Th.pl)[j] = l[j].pl := List.getElem_map _
    by_cases hm : mayT l[j].t l[j].b.length xp xs
    · obtain ⟨s, rfl⟩ := Int.eq_ofNat_of_zero_le hs0
      obtain ⟨a, rfl⟩ := Int.eq_ofNat_of_zero_le hm.2.2.1
      refine ⟨true, (l.map Th.pl).set j (turnN l[j].b a s 32, true), fun W hL => ?_, fun W hB => ?_⟩
      · have := refTurn_any AG l.length cG room lost (l.map Th.pl) j a s W hml (by omega) hjm hL (by rw [hgj]; exact hbm _ (List.getElem_mem hj)) (by omega) (by rw [hgj]; exact hm)
        rw [hgj] at this
        exact this
      · refine (turnBag_any hB j a s hj (by omega) hm).mono ?_
        rintro e w' ⟨rfl, hB', hO⟩
        exact ⟨rfl, T, _, D, hB', by rw [List.map_set]; rfl, hO, fun _ => .inl, fun _ => id⟩
    · refine ⟨false, l.map Th.pl, fun W hL => ?_, fun W hB => ?_⟩
      · by_cases h0 : xs = 0 ∨ xp < 0
        · exact refTurn_no AG l.length cG room lost (l.map Th.pl) (j : Int) xp xs W hml hcG hcm (.inr h0)
        · exact refTurn_not AG l.length cG room lost (l.map Th.pl) j xp xs W hml hcG hcm hjm (fun h => h0 (.inl h)) (by omega) hL (by rw [hgj]; exact hbm _ (List.getElem_mem hj)) (by rw [hgj]; exact hm)
      · refine (turn_not hB j xp xs hj hm).mono ?_
        rintro e w' ⟨rfl, rfl⟩
        exact Acted.none hB
  · refine ⟨false, l.map Th.pl, fun W _ => refTurn_no AG l.length cG room lost (l.map Th.pl) xi xp xs W hml hcG hcm (.inl hir), fun W hB => ?_⟩
    refine (turn_none hB xi xp xs hir).mono ?_
    rintro e w' ⟨rfl, rfl⟩
    exact Acted.none hB

set_option maxRecDepth 20000 in
set_option maxHeartbeats 3200000 in
theorem does_twice (h : BagAt w base p T room lost l D) (AG : Option Addr) (cG : Nat) (hcG : l.length ≤ cG) (hcm : cG ≤ maxLen) (hG : LiesX w D AG (flat encG (l.map Th.pl))) (xA : Option Addr) (xc : Nat) (xb : List UInt8) (xi xp xs : Int) :
    Calls Try.prog 11 #[.pointer (some ⟨p, 0, none⟩), .agg #[.int .i64 (room : Int), .slice AG l.length cG, .int .i64 (lost : Int)], .agg #[.int .i64 3, .slice xA xb.length xc, .int .i64 xi, .int .i64 xp, .int .u32 xs]] w (Does w base p room lost D) := by
  have mixed := mixedOrders
  obtain ⟨okb, gl7, hRef, hBag⟩ := twice_both (base := base) (p := p) (T := T) (room := room) (lost := lost) (l := l) (D := D) AG cG hcG hcm (Nat.le_trans h.fit h.room2) xi
  have HDL : Hid (∀ b, D b → b < w.heap.size) := fun b hb => (h.din b hb).2
  have HREF := Lib.hid hRef
  have HBAG := Lib.hid hBag
  have HH := Lib.hid h
  have HGX := Lib.hid hG
  generalize hN : l.length = n at HREF
  have HN := Lib.hid hN
  have hk := hcm
  clear h hRef hBag hG hN
  go_enter Try.func11, Try.ntmps11
  go_wp2_with fail
  generalize hw3 : World.alloc (World.alloc (World.alloc w (.cells #[.int .i64 (room : Int), .slice AG n cG, .int .i64 (lost : Int)] 28)) (.cells #[.int .i64 3, .slice xA xb.length xc, .int .i64 xi, .int .i64 xp, .int .u32 xs] 33)) (.cells #[.int .i64 0, .slice none 0 0, .int .i64 0] 28) = w3
  have hb3 : RowKit.Below w.heap.size w w3 := (alloc3_blocks w _ _ _ hw3).2.2.2
  have HB3 : Hid (DBox w D #[.int .i64 (room : Int), .slice AG n cG, .int .i64 (lost : Int)] #[.int .i64 3, .slice xA xb.length xc, .int .i64 xi, .int .i64 xp, .int .u32 xs] zeroG w3) := DBox.start hw3
  clear hw3
  have HBG3 := Lib.hid (HH.out.on hb3)
  have h3s := HB3.out.lt
  have hGL3 : LiesX w3 (fun b => D b ∨ b = w.heap.size + 1 + 1) AG (flat encG (l.map Th.pl)) := by
    have h1 : LiesX w (fun b => D b ∨ b = w.heap.size + 1 + 1) AG (flat encG (l.map Th.pl)) := HGX.out.widen fun k hk => hk.elim .inl fun h => .inr (by omega)
    exact h1.kept (OnlyE.of_below hb3)
  refine (HREF.out w3 hGL3.lies).mono ?_
  rintro e w4 ⟨A5, c5, he, hc5, hm5, hK5, hb4⟩
  have he' : e = .returned (.tuple #[.agg #[.int .i64 (room : Int), .slice A5 gl7.length c5, .int .i64 (lost : Int)], .bool okb]) := he
  clear he
  subst he'
  have hL4 := hK5 _ (fun b hb => hb.elim (fun h => by have := HDL.out b h; omega) (fun h => by omega)) hGL3
  have HB4 := Lib.hid (HB3.out.on hb4 HDL.out)
  have HBG4 := Lib.hid (HBG3.out.on hb4)
  have h34 := hb4.size
  generalize hM : gl7.length = m at hc5 ⊢
  have HM := Lib.hid hM
  have HL4 := Lib.hid hL4
  clear hGL3 hK5 hb4 hL4 hM HB3 HBG3 hb3
  go_wp2_with fail
  generalize hw5 : World.alloc w4 (.cells #[.int .i64 (room : Int), .slice A5 m c5, .int .i64 (lost : Int)] 28) = w5
  have q1 : w5.heap[w4.heap.size]? = some (.cells #[.int .i64 (room : Int), .slice A5 m c5, .int .i64 (lost : Int)] 28 (0, 0)) := by rw [← hw5]; exact heap_alloc_new _ _
  have hb5 : RowKit.Below w4.heap.size w4 w5 := by rw [← hw5]; exact (RowKit.Below.refl _ _).alloc (Nat.le_refl _) _
  have hs5 : w5.heap.size = w4.heap.size + 1 := by rw [← hw5]; simp
  clear hw5
  have hbd := hb5.trans ((drewB w5).mono hb5.size)
  have HB5 := Lib.hid (HB4.out.on hbd HDL.out)
  have HBG5 := Lib.hid (HBG4.out.on hbd)
  have HL5 := Lib.hid (HL4.out.kept (OnlyE.of_below hbd))
  have hHeld : TwoR w.heap.size #[.int .i64 3, .slice xA xb.length xc, .int .i64 xi, .int .i64 xp, .int .u32 xs] w4.heap.size #[.int .i64 (room : Int), .slice A5 m c5, .int .i64 (lost : Int)] w5.drew := ⟨(HB4.out.on hbd HDL.out).a, q1⟩
  have hs5' : w5.drew.heap.size = w4.heap.size + 1 := hs5
  clear HB4 HBG4 HL4 q1 hb5 hs5 hbd
  refine wp_region_Z 8 (TwoR w.heap.size #[.int .i64 3, .slice xA xb.length xc, .int .i64 xi, .int .i64 xp, .int .u32 xs] w4.heap.size #[.int .i64 (room : Int), .slice A5 m c5, .int .i64 (lost : Int)]) (by kernel_rfl) ?_
  generalize w5.drew = w6 at hHeld HB5 HBG5 HL5 hs5' ⊢
  refine wpZ_take (i := 0) (d := 122) (v := ?_) rfl rfl (by kernel_rfl) (by kernel_rfl) (by kernel_rfl) (by kernel_rfl) (fun _ _ _ h => h) (Or.inl ⟨by rfl, ?_⟩) hHeld ?_
  rotate_left
  · (intro _ hSw; go_simp; try with_reducible rfl)
  simp only [List.setIfInBounds_toArray, List.set_cons_zero, List.set_cons_succ]
  refine wpZ_take (i := 1) (d := 123) (v := ?_) rfl rfl (by kernel_rfl) (by kernel_rfl) (by kernel_rfl) (by kernel_rfl) (fun _ _ _ h => h) (Or.inl ⟨by rfl, ?_⟩) hHeld ?_
  rotate_left
  · (intro _ hSw; go_simp; try with_reducible rfl)
  simp only [List.setIfInBounds_toArray, List.set_cons_zero, List.set_cons_succ]
  refine wpZ_take (i := 2) (d := 124) (v := ?_) rfl rfl (by kernel_rfl) (by kernel_rfl) (by kernel_rfl) (by kernel_rfl) (fun _ _ _ h => h) (Or.inl ⟨by rfl, ?_⟩) hHeld ?_
  rotate_left
  · (intro _ hSw; obtain ⟨y0, y1, y2, y3, y4⟩ := rowA_cells hSw.a; obtain ⟨x0, x1, x2⟩ := rowG_cells hSw.g; go_simp; try with_reducible rfl)
  simp only [List.setIfInBounds_toArray, List.set_cons_zero, List.set_cons_succ]
  refine wpZ_take (i := 4) (d := 126) (v := ?_) rfl rfl (by kernel_rfl) (by kernel_rfl) (by kernel_rfl) (by kernel_rfl) (fun _ _ _ h => h) (Or.inl ⟨by rfl, ?_⟩) hHeld ?_
  rotate_left
  · (intro _ hSw; go_simp; try with_reducible rfl)
  simp only [List.setIfInBounds_toArray, List.set_cons_zero, List.set_cons_succ]
  refine wpZ_take (i := 6) (d := 128) (v := ?_) rfl rfl (by kernel_rfl) (by kernel_rfl) (by kernel_rfl) (by kernel_rfl) (fun _ _ _ h => h) (Or.inl ⟨by rfl, ?_⟩) hHeld ?_
  rotate_left
  · (intro _ hSw; obtain ⟨y0, y1, y2, y3, y4⟩ := rowA_cells hSw.a; obtain ⟨x0, x1, x2⟩ := rowG_cells hSw.g; go_simp; try with_reducible rfl)
  simp only [List.setIfInBounds_toArray, List.set_cons_zero, List.set_cons_succ]
  refine wpZ_ready (rs := [3]) (by kernel_rfl) (by simp) ?_
  refine AllReadyZ.cons rfl (fun K hK => ?_) AllReadyZ.nil
  go_simp
  refine (HBAG.out w6 HBG5.out).mono ?_
  rintro e w7 ⟨rfl, T7, l7, D7, hB7, hpl7, hO7, hd7, hd7'⟩
  have hTw : TwoR w.heap.size #[.int .i64 3, .slice xA xb.length xc, .int .i64 xi, .int .i64 xp, .int .u32 xs] w4.heap.size #[.int .i64 (room : Int), .slice A5 m c5, .int .i64 (lost : Int)] w7 := hHeld.only hO7 (fun h => by have := HDL.out _ h; omega) (fun h => by have := HDL.out _ h; omega)
  have HB7 := Lib.hid (HB5.out.step hO7 (fun _ => .inl) HDL.out)
  have HL7 : Hid (LiesX w7 (fun b => D7 b ∨ b = w.heap.size + 1 + 1) A5 (flat encG gl7)) := by
    have h1 : LiesX w6 (fun b => D7 b ∨ b = w.heap.size + 1 + 1) A5 (flat encG gl7) := HL5.out.widen fun k hk => hk.elim (fun h => (hd7 k h).elim (fun h => .inl (.inl h)) .inr) fun h => .inl (.inr h)
    exact h1.kept (hO7.mono fun b hb => .inl (hd7' b hb))
  have HPL7 := Lib.hid hpl7
  have HBG7 := Lib.hid hB7
  have HD7 : Hid (∀ b, D7 b → D b ∨ w6.heap.size ≤ b) := hd7
  clear hB7 hpl7 hO7 hd7 hd7' HB5 HBG5 HL5
  have hHeld2 := hTw
  refine hK.out _ _ (fun _ => hHeld2) ?_
  clear hK K hHeld
  have hHeld := hHeld2
  clear hHeld2
  clear hTw
  refine wpZ_take (i := 5) (d := 127) (v := ?_) rfl rfl (by kernel_rfl) (by kernel_rfl) (by kernel_rfl) (by kernel_rfl) (fun _ _ _ h => h) (Or.inl ⟨by rfl, ?_⟩) hHeld ?_
  rotate_left
  · (intro _ hSw; go_simp; try with_reducible rfl)
  simp only [List.setIfInBounds_toArray, List.set_cons_zero, List.set_cons_succ]
  refine wpZ_take (i := 7) (d := 6) (v := ?_) rfl rfl (by kernel_rfl) (by kernel_rfl) (by kernel_rfl) (by kernel_rfl) (fun _ _ _ h => h) (Or.inl ⟨by rfl, ?_⟩) hHeld ?_
  rotate_left
  · (intro _ hSw; go_simp; try with_reducible rfl)
  simp only [List.setIfInBounds_toArray, List.set_cons_zero, List.set_cons_succ]
  refine wpZ_ready (rs := [8]) (by kernel_rfl) (by simp) ?_
  refine AllReadyZ.cons rfl (fun K hK => ?_) AllReadyZ.nil
  refine wp_store_G (x := .tmp 7) (y := .tmp 128) rfl rfl rfl rfl HB7.out.r rfl rfl (by simp [Value.oneCell']) ?_
  go_simp
  refine hK.out _ _ (fun h => absurd rfl h) ?_
  clear hK K
  refine wpZ_done (by kernel_rfl) ?_ _
  have hw8 := HB7.out.r
  have hg8 : ∀ cs, OnlyE w7 (w7.setRow (w.heap.size + 1 + 1) cs) (fun k => k = w.heap.size + 1 + 1) := fun cs => onlyE_setRow (D := fun k => k = w.heap.size + 1 + 1) rfl cs
  go_wp2
  refine bodyPost_ret (results_tmp_cell rfl _ _ (w.heap.size + 1 + 1) _ rfl (load_rowG (setRow_heap _ _ _ _ _ _ hw8) rfl)) rfl ?_
  have hl7 : l7.length = m := by
    have h1 := congrArg List.length HPL7.out
    rw [HM.out, List.length_map] at h1
    exact h1
  refine ⟨T7, lost, l7, D7, A5, c5, by rw [hl7]; cases okb <;> rfl, ?_, by rw [hl7]; exact hc5, hm5, ?_, ?_, ?_, Nat.le_succ _⟩
  · exact HBG7.out.kept (hg8 _) fun b hb e => (HD7.out b hb).elim (fun h => by have := HDL.out b h; omega) (fun h => by omega)
  · rw [HPL7.out]
    exact (HL7.out.kept ((hg8 _).mono fun b hb => .inr hb)).widen fun k hk => .inl (.inl hk)
  · exact ⟨Nat.le_trans HB7.out.only.size (hg8 _).size, fun k hk hd => ((hg8 _).same k (Nat.lt_of_lt_of_le hk HB7.out.only.size) (by omega)).trans (HB7.out.only.same k hk hd), HB7.out.only.base.trans (hg8 _).base⟩
  · exact fun b hb => (HD7.out b hb).imp id fun h => by omega

set_option maxRecDepth 20000 in
set_option maxHeartbeats 3200000 in
theorem does_turn (h : BagAt w base p T room lost l D) (AG : Option Addr) (cG : Nat) (hcG : l.length ≤ cG) (hcm : cG ≤ maxLen) (hG : LiesX w D AG (flat encG (l.map Th.pl))) (xA : Option Addr) (xc : Nat) (xb : List UInt8) (xk xi xp xs : Int) (n0 : (xk == 0) = false) (n1 : (xk == 1) = false) (n2 : (xk == 2) = false) (n3 : (xk == 3) = false) (hs0 : 0 ≤ xs) (hs4 : xs < 4294967296) :
    Calls Try.prog 11 #[.pointer (some ⟨p, 0, none⟩), .agg #[.int .i64 (room : Int), .slice AG l.length cG, .int .i64 (lost : Int)], .agg #[.int .i64 xk, .slice xA xb.length xc, .int .i64 xi, .int .i64 xp, .int .u32 xs]] w (Does w base p room lost D) := by
  have mixed := mixedOrders
  obtain ⟨okb, gl7, hRef, hBag⟩ := turn_both (base := base) (p := p) (T := T) (room := room) (lost := lost) (l := l) (D := D) AG cG hcG hcm (Nat.le_trans h.fit h.room2) h.bm xi xp xs hs0 hs4
  have HDL : Hid (∀ b, D b → b < w.heap.size) := fun b hb => (h.din b hb).2
  have HREF := Lib.hid hRef
  have HBAG := Lib.hid hBag
  have HH := Lib.hid h
  have HGX := Lib.hid hG
  generalize hN : l.length = n at HREF
  have HN := Lib.hid hN
  clear hs0 hs4
  clear h hRef hBag hG hN
  go_enter Try.func11, Try.ntmps11
  go_wp2_with fail
  generalize hw3 : World.alloc (World.alloc (World.alloc w (.cells #[.int .i64 (room : Int), .slice AG n cG, .int .i64 (lost : Int)] 28)) (.cells #[.int .i64 xk, .slice xA xb.length xc, .int .i64 xi, .int .i64 xp, .int .u32 xs] 33)) (.cells #[.int .i64 0, .slice none 0 0, .int .i64 0] 28) = w3
  have hb3 : RowKit.Below w.heap.size w w3 := (alloc3_blocks w _ _ _ hw3).2.2.2
  have HB3 : Hid (DBox w D #[.int .i64 (room : Int), .slice AG n cG, .int .i64 (lost : Int)] #[.int .i64 xk, .slice xA xb.length xc, .int .i64 xi, .int .i64 xp, .int .u32 xs] zeroG w3) := DBox.start hw3
  clear hw3
  have HBG3 := Lib.hid (HH.out.on hb3)
  have h3s := HB3.out.lt
  have hGL3 : LiesX w3 (fun b => D b ∨ b = w.heap.size + 1 + 1) AG (flat encG (l.map Th.pl)) := by
    have h1 : LiesX w (fun b => D b ∨ b = w.heap.size + 1 + 1) AG (flat encG (l.map Th.pl)) := HGX.out.widen fun k hk => hk.elim .inl fun h => .inr (by omega)
    exact h1.kept (OnlyE.of_below hb3)
  refine (HREF.out w3 hGL3.lies).mono ?_
  rintro e w4 ⟨A5, c5, he, hc5, hm5, hK5, hb4⟩
  have he' : e = .returned (.tuple #[.agg #[.int .i64 (room : Int), .slice A5 gl7.length c5, .int .i64 (lost : Int)], .bool okb]) := he
  clear he
  subst he'
  have hL4 := hK5 _ (fun b hb => hb.elim (fun h => by have := HDL.out b h; omega) (fun h => by omega)) hGL3
  have HB4 := Lib.hid (HB3.out.on hb4 HDL.out)
  have HBG4 := Lib.hid (HBG3.out.on hb4)
  have h34 := hb4.size
  generalize hM : gl7.length = m at hc5 ⊢
  have HM := Lib.hid hM
  have HL4 := Lib.hid hL4
  clear hGL3 hK5 hb4 hL4 hM HB3 HBG3 hb3
  go_wp2_with fail
  generalize hw5 : World.alloc w4 (.cells #[.int .i64 (room : Int), .slice A5 m c5, .int .i64 (lost : Int)] 28) = w5
  have q1 : w5.heap[w4.heap.size]? = some (.cells #[.int .i64 (room : Int), .slice A5 m c5, .int .i64 (lost : Int)] 28 (0, 0)) := by rw [← hw5]; exact heap_alloc_new _ _
  have hb5 : RowKit.Below w4.heap.size w4 w5 := by rw [← hw5]; exact (RowKit.Below.refl _ _).alloc (Nat.le_refl _) _
  have hs5 : w5.heap.size = w4.heap.size + 1 := by rw [← hw5]; simp
  clear hw5
  have hbd := hb5.trans ((drewB w5).mono hb5.size)
  have HB5 := Lib.hid (HB4.out.on hbd HDL.out)
  have HBG5 := Lib.hid (HBG4.out.on hbd)
  have HL5 := Lib.hid (HL4.out.kept (OnlyE.of_below hbd))
  have hHeld : TwoR w.heap.size #[.int .i64 xk, .slice xA xb.length xc, .int .i64 xi, .int .i64 xp, .int .u32 xs] w4.heap.size #[.int .i64 (room : Int), .slice A5 m c5, .int .i64 (lost : Int)] w5.drew := ⟨(HB4.out.on hbd HDL.out).a, q1⟩
  have hs5' : w5.drew.heap.size = w4.heap.size + 1 := hs5
  clear HB4 HBG4 HL4 q1 hb5 hs5 hbd
  refine wp_region_Z 12 (TwoR w.heap.size #[.int .i64 xk, .slice xA xb.length xc, .int .i64 xi, .int .i64 xp, .int .u32 xs] w4.heap.size #[.int .i64 (room : Int), .slice A5 m c5, .int .i64 (lost : Int)]) (by kernel_rfl) ?_
  generalize w5.drew = w6 at hHeld HB5 HBG5 HL5 hs5' ⊢
  refine wpZ_take (i := 0) (d := 140) (v := ?_) rfl rfl (by kernel_rfl) (by kernel_rfl) (by kernel_rfl) (by kernel_rfl) (fun _ _ _ h => h) (Or.inl ⟨by rfl, ?_⟩) hHeld ?_
  rotate_left
  · (intro _ hSw; go_simp; try with_reducible rfl)
  simp only [List.setIfInBounds_toArray, List.set_cons_zero, List.set_cons_succ]
  refine wpZ_take (i := 1) (d := 141) (v := ?_) rfl rfl (by kernel_rfl) (by kernel_rfl) (by kernel_rfl) (by kernel_rfl) (fun _ _ _ h => h) (Or.inl ⟨by rfl, ?_⟩) hHeld ?_
  rotate_left
  · (intro _ hSw; go_simp; try with_reducible rfl)
  simp only [List.setIfInBounds_toArray, List.set_cons_zero, List.set_cons_succ]
  refine wpZ_take (i := 2) (d := 142) (v := ?_) rfl rfl (by kernel_rfl) (by kernel_rfl) (by kernel_rfl) (by kernel_rfl) (fun _ _ _ h => h) (Or.inl ⟨by rfl, ?_⟩) hHeld ?_
  rotate_left
  · (intro _ hSw; obtain ⟨y0, y1, y2, y3, y4⟩ := rowA_cells hSw.a; obtain ⟨x0, x1, x2⟩ := rowG_cells hSw.g; go_simp; try with_reducible rfl)
  simp only [List.setIfInBounds_toArray, List.set_cons_zero, List.set_cons_succ]
  refine wpZ_take (i := 3) (d := 143) (v := ?_) rfl rfl (by kernel_rfl) (by kernel_rfl) (by kernel_rfl) (by kernel_rfl) (fun _ _ _ h => h) (Or.inl ⟨by rfl, ?_⟩) hHeld ?_
  rotate_left
  · (intro _ hSw; go_simp; try with_reducible rfl)
  simp only [List.setIfInBounds_toArray, List.set_cons_zero, List.set_cons_succ]
  refine wpZ_take (i := 4) (d := 144) (v := ?_) rfl rfl (by kernel_rfl) (by kernel_rfl) (by kernel_rfl) (by kernel_rfl) (fun _ _ _ h => h) (Or.inl ⟨by rfl, ?_⟩) hHeld ?_
  rotate_left
  · (intro _ hSw; obtain ⟨y0, y1, y2, y3, y4⟩ := rowA_cells hSw.a; obtain ⟨x0, x1, x2⟩ := rowG_cells hSw.g; go_simp; try with_reducible rfl)
  simp only [List.setIfInBounds_toArray, List.set_cons_zero, List.set_cons_succ]
  refine wpZ_take (i := 5) (d := 145) (v := ?_) rfl rfl (by kernel_rfl) (by kernel_rfl) (by kernel_rfl) (by kernel_rfl) (fun _ _ _ h => h) (Or.inl ⟨by rfl, ?_⟩) hHeld ?_
  rotate_left
  · (intro _ hSw; go_simp; try with_reducible rfl)
  simp only [List.setIfInBounds_toArray, List.set_cons_zero, List.set_cons_succ]
  refine wpZ_take (i := 6) (d := 146) (v := ?_) rfl rfl (by kernel_rfl) (by kernel_rfl) (by kernel_rfl) (by kernel_rfl) (fun _ _ _ h => h) (Or.inl ⟨by rfl, ?_⟩) hHeld ?_
  rotate_left
  · (intro _ hSw; obtain ⟨y0, y1, y2, y3, y4⟩ := rowA_cells hSw.a; obtain ⟨x0, x1, x2⟩ := rowG_cells hSw.g; go_simp; try with_reducible rfl)
  simp only [List.setIfInBounds_toArray, List.set_cons_zero, List.set_cons_succ]
  refine wpZ_take (i := 8) (d := 148) (v := ?_) rfl rfl (by kernel_rfl) (by kernel_rfl) (by kernel_rfl) (by kernel_rfl) (fun _ _ _ h => h) (Or.inl ⟨by rfl, ?_⟩) hHeld ?_
  rotate_left
  · (intro _ hSw; go_simp; try with_reducible rfl)
  simp only [List.setIfInBounds_toArray, List.set_cons_zero, List.set_cons_succ]
  refine wpZ_take (i := 10) (d := 150) (v := ?_) rfl rfl (by kernel_rfl) (by kernel_rfl) (by kernel_rfl) (by kernel_rfl) (fun _ _ _ h => h) (Or.inl ⟨by rfl, ?_⟩) hHeld ?_
  rotate_left
  · (intro _ hSw; obtain ⟨y0, y1, y2, y3, y4⟩ := rowA_cells hSw.a; obtain ⟨x0, x1, x2⟩ := rowG_cells hSw.g; go_simp; try with_reducible rfl)
  simp only [List.setIfInBounds_toArray, List.set_cons_zero, List.set_cons_succ]
  refine wpZ_ready (rs := [7]) (by kernel_rfl) (by simp) ?_
  refine AllReadyZ.cons rfl (fun K hK => ?_) AllReadyZ.nil
  go_simp
  refine (HBAG.out w6 HBG5.out).mono ?_
  rintro e w7 ⟨rfl, T7, l7, D7, hB7, hpl7, hO7, hd7, hd7'⟩
  have hTw : TwoR w.heap.size #[.int .i64 xk, .slice xA xb.length xc, .int .i64 xi, .int .i64 xp, .int .u32 xs] w4.heap.size #[.int .i64 (room : Int), .slice A5 m c5, .int .i64 (lost : Int)] w7 := hHeld.only hO7 (fun h => by have := HDL.out _ h; omega) (fun h => by have := HDL.out _ h; omega)
  have HB7 := Lib.hid (HB5.out.step hO7 (fun _ => .inl) HDL.out)
  have HL7 : Hid (LiesX w7 (fun b => D7 b ∨ b = w.heap.size + 1 + 1) A5 (flat encG gl7)) := by
    have h1 : LiesX w6 (fun b => D7 b ∨ b = w.heap.size + 1 + 1) A5 (flat encG gl7) := HL5.out.widen fun k hk => hk.elim (fun h => (hd7 k h).elim (fun h => .inl (.inl h)) .inr) fun h => .inl (.inr h)
    exact h1.kept (hO7.mono fun b hb => .inl (hd7' b hb))
  have HPL7 := Lib.hid hpl7
  have HBG7 := Lib.hid hB7
  have HD7 : Hid (∀ b, D7 b → D b ∨ w6.heap.size ≤ b) := hd7
  clear hB7 hpl7 hO7 hd7 hd7' HB5 HBG5 HL5
  have hHeld2 := hTw
  refine hK.out _ _ (fun _ => hHeld2) ?_
  clear hK K hHeld
  have hHeld := hHeld2
  clear hHeld2
  clear hTw
  refine wpZ_take (i := 9) (d := 149) (v := ?_) rfl rfl (by kernel_rfl) (by kernel_rfl) (by kernel_rfl) (by kernel_rfl) (fun _ _ _ h => h) (Or.inl ⟨by rfl, ?_⟩) hHeld ?_
  rotate_left
  · (intro _ hSw; go_simp; try with_reducible rfl)
  simp only [List.setIfInBounds_toArray, List.set_cons_zero, List.set_cons_succ]
  refine wpZ_take (i := 11) (d := 6) (v := ?_) rfl rfl (by kernel_rfl) (by kernel_rfl) (by kernel_rfl) (by kernel_rfl) (fun _ _ _ h => h) (Or.inl ⟨by rfl, ?_⟩) hHeld ?_
  rotate_left
  · (intro _ hSw; go_simp; try with_reducible rfl)
  simp only [List.setIfInBounds_toArray, List.set_cons_zero, List.set_cons_succ]
  refine wpZ_ready (rs := [12]) (by kernel_rfl) (by simp) ?_
  refine AllReadyZ.cons rfl (fun K hK => ?_) AllReadyZ.nil
  refine wp_store_G (x := .tmp 7) (y := .tmp 150) rfl rfl rfl rfl HB7.out.r rfl rfl (by simp [Value.oneCell']) ?_
  go_simp
  refine hK.out _ _ (fun h => absurd rfl h) ?_
  clear hK K
  refine wpZ_done (by kernel_rfl) ?_ _
  have hw8 := HB7.out.r
  have hg8 : ∀ cs, OnlyE w7 (w7.setRow (w.heap.size + 1 + 1) cs) (fun k => k = w.heap.size + 1 + 1) := fun cs => onlyE_setRow (D := fun k => k = w.heap.size + 1 + 1) rfl cs
  go_wp2
  refine bodyPost_ret (results_tmp_cell rfl _ _ (w.heap.size + 1 + 1) _ rfl (load_rowG (setRow_heap _ _ _ _ _ _ hw8) rfl)) rfl ?_
  have hl7 : l7.length = m := by
    have h1 := congrArg List.length HPL7.out
    rw [HM.out, List.length_map] at h1
    exact h1
  refine ⟨T7, lost, l7, D7, A5, c5, by rw [hl7]; cases okb <;> rfl, ?_, by rw [hl7]; exact hc5, hm5, ?_, ?_, ?_, Nat.le_succ _⟩
  · exact HBG7.out.kept (hg8 _) fun b hb e => (HD7.out b hb).elim (fun h => by have := HDL.out b h; omega) (fun h => by omega)
  · rw [HPL7.out]
    exact (HL7.out.kept ((hg8 _).mono fun b hb => .inr hb)).widen fun k hk => .inl (.inl hk)
  · exact ⟨Nat.le_trans HB7.out.only.size (hg8 _).size, fun k hk hd => ((hg8 _).same k (Nat.lt_of_lt_of_le hk HB7.out.only.size) (by omega)).trans (HB7.out.only.same k hk hd), HB7.out.only.base.trans (hg8 _).base⟩
  · exact fun b hb => (HD7.out b hb).imp id fun h => by omega
end

end Go.Proofs.Ytjecphjdmjoeiaa
