/- does: a Put. -/
import Derived.Test.YtjecphjdmjoeiaaBgX
namespace Go.Proofs.Ytjecphjdmjoeiaa
open Go.RowKit Go.Sort

section
variable {w : World} {base p : Nat} {T : Value} {room lost : Nat} {l : List Th} {D : Nat → Prop}

/-- The document's Put and the bag's own go together. -/
theorem put_both (hlen : l.length ≤ room) (hroom : room ≤ 4096) (hlost : lost ≤ 900000) (xb : List UInt8) (hxb : xb.length ≤ 300) (AG : Option Addr) (cG : Nat) (hcG : l.length ≤ cG) (hcm : cG ≤ maxLen) : ∃ (kk : Nat) (xs : List (List UInt8 × Bool)) (lost' : Nat), lost' ≤ lost + 1 ∧ xs.length ≤ 1 ∧
    (∀ W Ab cb, Lies W W.heap.size AG (flat encG (l.map Th.pl)) → Lies W W.heap.size Ab (bvs xb) →
      Calls Try.prog 21 #[.agg #[.int .i64 (room : Int), .slice AG l.length cG, .int .i64 (lost : Int)], .slice Ab xb.length cb] W (GGot W AG (l.map Th.pl) room (l.map Th.pl ++ xs) lost' #[.int .i64 (kk : Int)])) ∧
    (∀ W g A c, BagAt W base p T room lost l D → W.heap[g]? = some (.cells #[.slice A xb.length c] 30 (0, 0)) → ¬ D g → BytX W D (.slice A xb.length c) xb →
      Calls Try.prog 15 #[.pointer (some ⟨p, 0, none⟩), .slice (some ⟨g, 0, none⟩) 1 1] W fun e w' => e = .returned (.int .i64 (kk : Int)) ∧ PutIn W base p room lost' l D xs w') := by
  have hml : (l.map Th.pl).length = l.length := List.length_map _
  by_cases hr : l.length < room
  · refine ⟨1, [(xb, false)], lost, Nat.le_succ _, Nat.le_refl _, fun W Ab cb h1 h2 => ?_, fun W g A c hB hg hD hx => ?_⟩
    · exact refPut_any AG l.length cG room lost (l.map Th.pl) Ab xb.length cb xb W hml (by omega) (by omega) h1 rfl h2
    · exact put_one hB hg hD hx (by omega) hlost hr
  · refine ⟨0, [], lost + 1, Nat.le_refl _, Nat.zero_le _, fun W Ab cb _ _ => ?_, fun W g A c hB hg hD hx => ?_⟩
    · rw [List.append_nil]
      exact refPut_full AG l.length cG room lost (l.map Th.pl) Ab xb.length cb W hml hcG hcm (by omega) (by omega)
    · exact put_full hB hg hD hx (by omega) hlost hr

set_option maxRecDepth 20000 in
set_option maxHeartbeats 3200000 in
theorem does_put (h : BagAt w base p T room lost l D) (AG : Option Addr) (cG : Nat) (hcG : l.length ≤ cG) (hcm : cG ≤ maxLen) (hG : LiesX w D AG (flat encG (l.map Th.pl))) (xA : Option Addr) (xc : Nat) (xb : List UInt8) (xi xp xs : Int) (hxb : xb.length ≤ 300)
    (hxL : Lies w base xA (bvs xb)) (hlost : lost ≤ 900000) :
    Calls Try.prog 11 #[.pointer (some ⟨p, 0, none⟩), .agg #[.int .i64 (room : Int), .slice AG l.length cG, .int .i64 (lost : Int)], .agg #[.int .i64 0, .slice xA xb.length xc, .int .i64 xi, .int .i64 xp, .int .u32 xs]] w (Does w base p room lost D) := by
  have mixed := mixedOrders
  obtain ⟨i0, hi, hz0, hz1, hz2⟩ := info_parts Try.info5
  obtain ⟨kk, ys, lost', hlo', hys, hRef, hBag⟩ := put_both (base := base) (p := p) (T := T) (D := D) h.fit h.room2 hlost xb hxb AG cG hcG hcm
  have hlow := h.lo
  have HDL : Hid (∀ b, D b → b < w.heap.size) := fun b hb => (h.din b hb).2
  have HREF := Lib.hid hRef
  have HBAG := Lib.hid hBag
  have HH := Lib.hid h
  have HGX := Lib.hid hG
  have HXL := Lib.hid hxL
  have HFIT := Lib.hid h.fit
  generalize hN : l.length = n at HREF
  have HN := Lib.hid hN
  have H0 : Hid (DBox w D #[.int .i64 (room : Int), .slice AG n cG, .int .i64 (lost : Int)] #[.int .i64 0, .slice xA xb.length xc, .int .i64 xi, .int .i64 xp, .int .u32 xs] zeroG (World.alloc (World.alloc (World.alloc w (.cells #[.int .i64 (room : Int), .slice AG n cG, .int .i64 (lost : Int)] 28)) (.cells #[.int .i64 0, .slice xA xb.length xc, .int .i64 xi, .int .i64 xp, .int .u32 xs] 33)) (.cells #[.int .i64 0, .slice none 0 0, .int .i64 0] 28))) := DBox.start rfl
  have hO : (World.alloc (World.alloc (World.alloc (World.alloc w (.cells #[.int .i64 (room : Int), .slice AG n cG, .int .i64 (lost : Int)] 28)) (.cells #[.int .i64 0, .slice xA xb.length xc, .int .i64 xi, .int .i64 xp, .int .u32 xs] 33)) (.cells #[.int .i64 0, .slice none 0 0, .int .i64 0] 28)) (.cells #[] 5)).ownsRow (w.heap.size + 3) 5 1 (.slice (some ⟨w.heap.size + 1 + 1 + 1, 0, none⟩) 0 0) 0 [] := by
    have e : (World.alloc (World.alloc (World.alloc w (.cells #[.int .i64 (room : Int), .slice AG n cG, .int .i64 (lost : Int)] 28)) (.cells #[.int .i64 0, .slice xA xb.length xc, .int .i64 xi, .int .i64 xp, .int .u32 xs] 33)) (.cells #[.int .i64 0, .slice none 0 0, .int .i64 0] 28)).heap.size = w.heap.size + 1 + 1 + 1 := by simp
    have := World.ownsRow_lit (base := w.heap.size + 3) (size := 1) (e := 5) (World.alloc (World.alloc (World.alloc w (.cells #[.int .i64 (room : Int), .slice AG n cG, .int .i64 (lost : Int)] 28)) (.cells #[.int .i64 0, .slice xA xb.length xc, .int .i64 xi, .int .i64 xp, .int .u32 xs] 33)) (.cells #[.int .i64 0, .slice none 0 0, .int .i64 0] 28)) #[] 0 (by rw [e]; exact Nat.le_refl _) (Nat.zero_le _) rfl
    rw [e] at this
    exact this
  have hb3 := (H0.out.only.below (B := base) (fun b hb => (HH.out.din b hb).1) hlow)
  have hXL4 : Lies (World.alloc (World.alloc (World.alloc (World.alloc w (.cells #[.int .i64 (room : Int), .slice AG n cG, .int .i64 (lost : Int)] 28)) (.cells #[.int .i64 0, .slice xA xb.length xc, .int .i64 xi, .int .i64 xp, .int .u32 xs] 33)) (.cells #[.int .i64 0, .slice none 0 0, .int .i64 0] 28)) (.cells #[] 5)) base xA (bvs xb) := hxL.below (hb3.alloc (by have := hb3.size; omega) _)
  have hs4 : w.heap.size + 3 ≤ (World.alloc (World.alloc (World.alloc (World.alloc w (.cells #[.int .i64 (room : Int), .slice AG n cG, .int .i64 (lost : Int)] 28)) (.cells #[.int .i64 0, .slice xA xb.length xc, .int .i64 xi, .int .i64 xp, .int .u32 xs] 33)) (.cells #[.int .i64 0, .slice none 0 0, .int .i64 0] 28)) (.cells #[] 5)).heap.size := by simp
  clear h hRef hBag hG hxL hN hb3
  go_enter Try.func11, Try.ntmps11
  go_wp2_with (at_builtin; refine wpList_append_lst rfl _ _ 30 rfl (w.heap.size + 3) 5 i0 (.int .u8 0) 1 Try.underlying30 hi hz0 hz1 hz2 rfl _ 0 [] rfl hO _ _ _ _ (bvs xb) rfl ?d0 hXL4 (bvs_one _) ?d2 ?d3 hs4 ?_)
  case d0 => rw [bvs_length]
  case d2 => unfold maxLen; omega
  case d3 => omega
  intro v1 w4 hown4 _ hb4 _
  try rw [Nat.zero_add] at hown4
  try rw [List.nil_append] at hown4
  obtain ⟨AO, cO, rfl, hcO, hmO⟩ := own_sliceK hown4
  have hB4 := H0.out.up (((RowKit.Below.refl _ _).alloc H0.out.lt (.cells #[] 5)).trans hb4) HDL.out
  have HO4 := Lib.hid hown4
  have HB4 := Lib.hid hB4
  have HBG4 : Hid (BagAt w4 base p T room lost l D) := (HH.out.on (((RowKit.Below.refl w.heap.size w).alloc (Nat.le_refl _) _ |>.alloc (by simp) _ |>.alloc (by simp; omega) _ |>.alloc (by simp; omega) _).trans (hb4.mono (by omega)) : RowKit.Below w.heap.size w w4))
  obtain ⟨z0, z1, z2⟩ := rowG_cells hB4.g
  clear hown4 hB4 hO hXL4 hs4 H0 hb4
  go_wp2_with fail
  have hGL4 : LiesX w4 D AG (flat encG (l.map Th.pl)) := HGX.out.kept HB4.out.only
  have hDOlt : ∀ b, (D b ∨ ((Value.slice AO xb.length cO).ownBlock = some b ∨ b = w.heap.size + 1 + 1)) → b < w4.heap.size := fun b hb => hb.elim (fun h => by have := HDL.out b h; have := HB4.out.lt; omega) (fun h => h.elim (fun h => (HO4.out.lt b h).2) (fun h => by have := HB4.out.lt; omega))
  have hGL4O : LiesX w4 (fun b => D b ∨ ((Value.slice AO xb.length cO).ownBlock = some b ∨ b = w.heap.size + 1 + 1)) AG (flat encG (l.map Th.pl)) := by
    have h1 : LiesX w (fun b => D b ∨ ((Value.slice AO xb.length cO).ownBlock = some b ∨ b = w.heap.size + 1 + 1)) AG (flat encG (l.map Th.pl)) := HGX.out.widen fun k hk => hk.elim .inl fun h => .inr (h.elim (fun h => by have := (HO4.out.lt k h).1; omega) (fun h => by omega))
    exact h1.kept (HB4.out.only.mono fun _ => .inl)
  refine (HREF.out w4 AO cO hGL4.lies (Lies.of_own HO4.out)).mono ?_
  rintro e w5 ⟨A5, c5, he, hc5, hm5, hK5, hb5⟩
  have he' : e = .returned (.tuple #[.agg #[.int .i64 (room : Int), .slice A5 (l.map Th.pl ++ ys).length c5, .int .i64 (lost' : Int)], .int .i64 (kk : Int)]) := he
  clear he
  subst he'
  have hL5 := hK5 _ hDOlt hGL4O
  have HO5 := Lib.hid (own_below HO4.out hb5)
  have HB5 : Hid (DBox w D #[.int .i64 (room : Int), .slice AG n cG, .int .i64 (lost : Int)] #[.int .i64 0, .slice xA xb.length xc, .int .i64 xi, .int .i64 xp, .int .u32 xs] zeroG w5) := HB4.out.on hb5 HDL.out
  have HBG5 := Lib.hid (HBG4.out.on hb5)
  have h45 := hb5.size
  generalize hM : (l.map Th.pl ++ ys).length = m at hc5 ⊢
  have HM := Lib.hid hM
  have HL5 := Lib.hid hL5
  have HDO := Lib.hid hDOlt
  clear hGL4 hGL4O hK5 hb5 hL5 hM z0 z1 z2 HBG4 HB4 hDOlt
  go_wp2_with fail
  generalize hw6 : World.alloc (World.alloc w5 (.cells #[.int .i64 (room : Int), .slice A5 m c5, .int .i64 (lost' : Int)] 28)) (.cells #[.slice AO xb.length cO] 30) = w6
  obtain ⟨q1, q2, hb6⟩ := alloc2_blocks w5 _ _ hw6
  have hs6 : w6.heap.size = w5.heap.size + 2 := by rw [← hw6]; simp
  clear hw6
  have hBG6 := HBG5.out.on hb6
  have hO6 := own_below HO5.out hb6
  have hB6 := HB5.out.on hb6 HDL.out
  have hlt3 := HB5.out.lt
  have hX6 : BytX w6 D (.slice AO xb.length cO) xb := ⟨AO, _, cO, rfl, rfl, hcO, hmO, LiesX.of_own hO6 fun b hb hd => by have := (hO6.lt b hb).1; have := HDL.out b hd; omega⟩
  refine (HBAG.out w6 (w5.heap.size + 1) AO cO hBG6 q2 (fun h => by have := HDL.out _ h; omega) hX6).mono ?_
  rintro e w7 ⟨rfl, T7, l7, D7, hB7, hpl7, hO7, hd7, hd7'⟩
  have HO7 := Lib.hid (own_only hO6 hO7 fun b hb hd => by have := (hO6.lt b hb).1; have := HDL.out b hd; omega)
  have HB7 : Hid (DBox w D #[.int .i64 (room : Int), .slice AG n cG, .int .i64 (lost : Int)] #[.int .i64 0, .slice xA xb.length xc, .int .i64 xi, .int .i64 xp, .int .u32 xs] zeroG w7) := hB6.step hO7 (fun _ => .inl) HDL.out
  have HR7 : Hid (w7.heap[w5.heap.size]? = some (.cells #[.int .i64 (room : Int), .slice A5 m c5, .int .i64 (lost' : Int)] 28 (0, 0))) := (hO7.same _ (by omega) (fun h => by have := HDL.out _ h; omega)).trans q1
  have HL7 : Hid (LiesX w7 (fun b => D7 b ∨ ((Value.slice AO xb.length cO).ownBlock = some b ∨ b = w.heap.size + 1 + 1)) A5 (flat encG (l.map Th.pl ++ ys))) := by
    have h1 : LiesX w6 (fun b => D7 b ∨ ((Value.slice AO xb.length cO).ownBlock = some b ∨ b = w.heap.size + 1 + 1)) A5 (flat encG (l.map Th.pl ++ ys)) := (HL5.out.kept (OnlyE.of_below hb6)).widen fun k hk => hk.elim (fun h => (hd7 k h).elim (fun h => .inl (.inl h)) .inr) fun h => .inl (.inr h)
    exact h1.kept (hO7.mono fun b hb => .inl (hd7' b hb))
  have HPL7 := Lib.hid hpl7
  have HBG7 := Lib.hid hB7
  have HOO4 : Hid (∀ b, (Value.slice AO xb.length cO).ownBlock = some b → w.heap.size + 3 ≤ b ∧ b < w4.heap.size) := HO4.out.lt
  have HD7 : Hid (∀ b, D7 b → D b ∨ w6.heap.size ≤ b) := hd7
  clear hB7 hpl7 hO7 hd7 hd7' hX6 hBG6 hO6 hB6 q1 q2 hb6 HO5 HB5 HBG5 HL5 HO4
  go_wp2_with fail
  go_loopw [12] (fun s wr => ∃ q : Nat, s = .int .i64 (q : Int) ∧ IncS w7 (w.heap.size + 3) xb.length q (.slice AO xb.length cO) wr) (fun s _ => xb.length - (intOf s).toNat)
  case atStart => exact ⟨0, rfl, IncS.start HO7.out⟩
  case round =>
    obtain ⟨q, rfl, hR⟩ := hrel
    by_cases hq : q < xb.length
    · obtain ⟨gO, c', k, hv, hk, hcell, hfr⟩ := hR.cell hq
      obtain ⟨rfl, rfl⟩ : AO = some ⟨gO, 0, none⟩ ∧ cO = c' := by injection hv with e1 _ e3; exact ⟨e1, e3⟩
      have hq2 : ¬ xb.length ≤ q := by omega
      have HR := Lib.hid hR
      clear hR hv
      go_wp2
      go_roundw
      case rel =>
        refine ⟨q + 1, by go_num, ?_⟩
        have := HR.out.step hq ((k + 1) % 256) (Nat.mod_lt _ (by decide))
        simpa using this
      case measure => simp [intOf]; omega
    · have hq0 := hR.1
      obtain rfl : q = xb.length := by omega
      obtain ⟨_, _, _, _, hOO⟩ := hR
      have hBr := HB7.out.step hOO (fun b hb => .inr (HOO4.out b hb).1) HDL.out
      have hRr : wr.heap[w5.heap.size]? = some (.cells #[.int .i64 (room : Int), .slice A5 m c5, .int .i64 (lost' : Int)] 28 (0, 0)) := (hOO.same _ (Array.getElem?_eq_some_iff.1 HR7.out).1 (fun h => by have := (HOO4.out _ h).2; omega)).trans HR7.out
      have hBGr := HBG7.out.kept hOO (fun b hb ho => (HD7.out b hb).elim (fun h => by have := HDL.out b h; have := (HOO4.out b ho).1; omega) (fun h => by have := (HOO4.out b ho).2; omega))
      have hLr := HL7.out.kept (hOO.mono fun b hb => .inr (.inl hb))
      have HBr := Lib.hid hBr
      have HBGr := Lib.hid hBGr
      have HLr := Lib.hid hLr
      clear HB7 HR7 HBG7 HL7 hOO hBr hBGr hLr HO7
      go_wp2_with fail
      refine wp_region_Z 3 (fun W => W.heap[w5.heap.size]? = some (.cells #[.int .i64 (room : Int), .slice A5 m c5, .int .i64 (lost' : Int)] 28 (0, 0))) (by kernel_rfl) ?_
      have hHeld : wr.drew.heap[w5.heap.size]? = some (.cells #[.int .i64 (room : Int), .slice A5 m c5, .int .i64 (lost' : Int)] 28 (0, 0)) := hRr
      have HB8 := Lib.hid (HBr.out.on (drewB wr) HDL.out)
      have HBG8 := Lib.hid (HBGr.out.on (drewB wr))
      have HL8 := Lib.hid (HLr.out.kept (onlyE_drew wr _))
      have h8s : w4.heap.size ≤ wr.drew.heap.size := Nat.le_trans h45 (Nat.le_of_lt (Array.getElem?_eq_some_iff.1 hRr).1)
      clear hRr HBr HBGr HLr
      generalize wr.drew = w8 at hHeld HB8 HBG8 HL8 h8s ⊢
      refine wpZ_take (i := 0) (d := 56) (v := ?_) rfl rfl (by kernel_rfl) (by kernel_rfl) (by kernel_rfl) (by kernel_rfl) (fun _ _ _ h => h) (Or.inl ⟨by rfl, ?_⟩) hHeld ?_
      rotate_left
      · (intro _ hSw; go_simp; try with_reducible rfl)
      simp only [List.setIfInBounds_toArray, List.set_cons_zero, List.set_cons_succ]
      refine wpZ_take (i := 1) (d := 57) (v := ?_) rfl rfl (by kernel_rfl) (by kernel_rfl) (by kernel_rfl) (by kernel_rfl) (fun _ _ _ h => h) (Or.inl ⟨by rfl, ?_⟩) hHeld ?_
      rotate_left
      · (intro _ hSw; obtain ⟨x0, x1, x2⟩ := rowG_cells hSw; go_simp; try with_reducible rfl)
      simp only [List.setIfInBounds_toArray, List.set_cons_zero, List.set_cons_succ]
      refine wpZ_take (i := 2) (d := 6) (v := ?_) rfl rfl (by kernel_rfl) (by kernel_rfl) (by kernel_rfl) (by kernel_rfl) (fun _ _ _ h => h) (Or.inl ⟨by rfl, ?_⟩) hHeld ?_
      rotate_left
      · (intro _ hSw; go_simp; try with_reducible rfl)
      simp only [List.setIfInBounds_toArray, List.set_cons_zero, List.set_cons_succ]
      refine wpZ_ready (rs := [3]) (by kernel_rfl) (by simp) ?_
      refine AllReadyZ.cons rfl (fun K hK => ?_) AllReadyZ.nil
      refine wp_store_G (x := .tmp 7) (y := .tmp 57) rfl rfl rfl rfl HB8.out.r rfl rfl (by simp [Value.oneCell']) ?_
      go_simp
      refine hK.out _ _ (fun h => absurd rfl h) ?_
      clear hK K
      refine wpZ_done (by kernel_rfl) ?_ _
      have hw8 := HB8.out.r
      have hg8 : ∀ cs, OnlyE w8 (w8.setRow (w.heap.size + 1 + 1) cs) (fun k => k = w.heap.size + 1 + 1) := fun cs => onlyE_setRow (D := fun k => k = w.heap.size + 1 + 1) rfl cs
      go_wp2
      refine bodyPost_ret (results_tmp_cell rfl _ _ (w.heap.size + 1 + 1) _ rfl (load_rowG (setRow_heap _ _ _ _ _ _ hw8) rfl)) rfl ?_
      have hl7 : l7.length = m := by
        have h1 := congrArg List.length HPL7.out
        rw [HM.out, List.length_map] at h1
        exact h1
      refine ⟨T7, lost', l7, D7, A5, c5, by rw [hl7]; rfl, ?_, by rw [hl7]; exact hc5, hm5, ?_, ?_, ?_, hlo'⟩
      · exact HBG8.out.kept (hg8 _) fun b hb e => (HD7.out b hb).elim (fun h => by have := HDL.out b h; omega) (fun h => by omega)
      · rw [HPL7.out]
        exact (HL8.out.kept ((hg8 _).mono fun b hb => .inr (.inr hb))).widen fun k hk => .inl (.inl hk)
      · exact ⟨Nat.le_trans HB8.out.only.size (hg8 _).size, fun k hk hd => ((hg8 _).same k (Nat.lt_of_lt_of_le hk HB8.out.only.size) (by omega)).trans (HB8.out.only.same k hk hd), HB8.out.only.base.trans (hg8 _).base⟩
      · exact fun b hb => (HD7.out b hb).imp id fun h => by omega
end

end Go.Proofs.Ytjecphjdmjoeiaa
