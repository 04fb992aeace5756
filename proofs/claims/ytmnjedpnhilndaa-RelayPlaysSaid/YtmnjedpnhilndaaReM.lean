/- Stage 16: the walks of release and Drop. -/
import Derived.Test.YtmnjedpnhilndaaReL
set_option maxRecDepth 20000
namespace Go.Proofs.Ytmnjedpnhilndaa
open Go.RowKit Go.Sort Go.Maps

/-- Those that stay. -/
def staysP (P : Pl → Bool) (l : List Pf) : List Pf := l.filter fun x => !P x.pl
theorem stays_step {P : Pl → Bool} {l : List Pf} {k : Nat} (h : k < l.length) : staysP P (l.take k) ++ l.drop k = staysP P (l.take k) ++ l[k] :: l.drop (k + 1) := by rw [← List.drop_eq_getElem_cons h]
theorem stays_gone {P : Pl → Bool} {l : List Pf} {k : Nat} (h : k < l.length) (hp : P l[k].pl = true) : staysP P (l.take (k + 1)) ++ l.drop (k + 1) = staysP P (l.take k) ++ l.drop (k + 1) := by
  unfold staysP
  rw [List.take_succ_eq_append_getElem h, List.filter_append]
  simp [hp]
theorem stays_kept {P : Pl → Bool} {l : List Pf} {k : Nat} (h : k < l.length) (hp : P l[k].pl = false) : staysP P (l.take (k + 1)) ++ l.drop (k + 1) = staysP P (l.take k) ++ l.drop k := by
  unfold staysP
  rw [List.take_succ_eq_append_getElem h, List.filter_append, List.drop_eq_getElem_cons h]
  simp [hp]
theorem stays_there {P : Pl → Bool} {l : List Pf} {x : Pf} (h : x ∈ l) : hasP (staysP P l) x.pl = !P x.pl := by
  cases hp : P x.pl with
  | false => exact hasP_iff.2 ⟨x, List.mem_filter.2 ⟨h, by rw [hp]; rfl⟩, rfl⟩
  | true =>
    refine hasP_no.2 fun y hy e => ?_
    have := (List.mem_filter.1 hy).2
    rw [e, hp] at this
    cases this
theorem stays_row (P : Pl → Bool) (l : List Pf) : (l.map Pf.pl).filter (fun p => !(!hasP (staysP P l) p)) = (staysP P l).map Pf.pl := by
  show _ = (l.filter fun x => !P x.pl).map Pf.pl
  rw [List.filter_map]
  congr 1
  refine List.filter_congr fun x hx => ?_
  show (!(!hasP (staysP P l) x.pl)) = _
  rw [stays_there hx, Bool.not_not]
theorem stays_F (P : Pl → Bool) (l : List Pf) : (staysP P l).map Pf.F = (l.map Pf.F).filter fun F => !P (plOf F) := by
  unfold staysP
  rw [List.filter_map]
  rfl

section
variable {w : World} {g mb : Nat} {lm : List Pf}
/-- What release hands on to DeleteFunc. -/
theorem goneF_any (h : MapS w g mb lm) (p : Pl) (b : Nat) (hb : b < w.heap.size) (h0 : w.cell? ⟨b, 0, none⟩ = some (qptr g)) :
    Calls Try.prog 38 (#[valPl p] ++ #[.pointer (some ⟨b, 0, none⟩)]) w fun e w' => e = .returned (.bool (!hasP lm p)) ∧ RowKit.Below w.heap.size w w' := by
  have HT : Hid (∀ W, RowKit.Below w.heap.size w W → Calls Try.prog 32 #[.pointer (some ⟨g, 0, none⟩), .agg #[.int .u8 (p.x.f : Int), .int .u64 (p.x.s : Int), .int .u32 (p.a : Int)]] W fun e w' => e = .returned (.bool (hasP lm p)) ∧ RowKit.Below W.heap.size W w') := fun W hW => there_any (h.on hW) p
  generalize hasP lm p = q at HT ⊢
  clear h
  show Calls Try.prog _ #[valPl p, .pointer (some ⟨b, 0, none⟩)] w _
  unfold valPl plc
  unfold qptr at h0
  go_enter Try.func38, Try.ntmps38
  go_wp2_with fail
  refine (HT.out _ (alloc_below _ _)).mono ?_
  rintro e w1 ⟨rfl, hb1⟩
  have HB := Lib.hid ((alloc_below w (.cells (plc p) 69)).trans (hb1.mono (by simp)))
  clear HT hb1
  go_wp2
  go_ret
  exact ⟨rfl, HB.out⟩
end

/-- What stands while places go. -/
structure ReS (w : World) (base g mb : Nat) (T : Value) (room lost : Nat) (l lm : List Pf) (D : Nat → Prop) (wr : World) : Prop where
  q : QueS wr base g mb T room lost (l.map Pf.pl) lm D
  only : OnlyE w wr (fun b => b = mb)
  box : wr.heap[w.heap.size]? = some (.cells #[.pointer (some ⟨g, 0, none⟩)] 24 (0, 0))
section
variable {w wr W : World} {base g mb : Nat} {T : Value} {room lost : Nat} {l lm : List Pf} {D : Nat → Prop}
theorem ReS.on (h : ReS w base g mb T room lost l lm D wr) (hb : RowKit.Below wr.heap.size wr W) : ReS w base g mb T room lost l lm D W :=
  ⟨h.q.on hb, h.only.trans (OnlyE.of_below hb), (hb.block _ (Array.getElem?_eq_some_iff.1 h.box).1).trans h.box⟩
theorem ReS.cell (h : ReS w base g mb T room lost l lm D wr) : wr.cell? ⟨w.heap.size, 0, none⟩ = some (.pointer (some ⟨g, 0, none⟩)) := cell_of_row wr _ 0 _ _ _ h.box
theorem ReS.lt (h : ReS w base g mb T room lost l lm D wr) : w.heap.size < wr.heap.size := (Array.getElem?_eq_some_iff.1 h.box).1
theorem ReS.del {a b : List Pf} {x : Pf} (h : ReS w base g mb T room lost l (a ++ x :: b) D wr) (hw : mb < w.heap.size) (ty : TypeId) :
    ∃ w4, (Builtin.delete_ #[60, 69] ty #[.map (some mb), valPl x.pl]).run Try.prog wr = .ok (.tuple #[]) w4 ∧ ReS w base g mb T room lost l (a ++ b) D w4 ∧ OnlyE wr w4 (fun b => b = mb) := by
  obtain ⟨w4, a1, a2, a3⟩ := h.q.delMap ty
  exact ⟨w4, a1, ⟨a2, h.only.trans a3, (a3.same _ h.lt (by omega)).trans h.box⟩, a3⟩
end
/-- What the delete of a round loads. -/
def S8 (g mb b q : Nat) (p : Pl) (V : World) : Prop := V.cell? ⟨q, 0, none⟩ = some (.pointer (some ⟨g, 0, none⟩)) ∧ S12 g mb b p V
/-- What the store of the row loads. -/
def S10 (g q : Nat) (T : Value) (V : World) : Prop := V.cell? ⟨q, 0, none⟩ = some (.pointer (some ⟨g, 0, none⟩)) ∧ V.cell? ⟨g, 1, none⟩ = some T ∧ V.frozen? ⟨g, 1, none⟩ = false

set_option maxHeartbeats 3200000 in
theorem release_any {w : World} {base g mb : Nat} {T : Value} {room lost : Nat} {l : List Pf} {D : Nat → Prop} (h : QueS w base g mb T room lost (l.map Pf.pl) l D) (hlen : l.length ≤ 4096) (P : Pl → Bool) (gf : Nat) (lb : Array Value) (eg : ∀ args w, (callFunc gf args).run Try.prog w = .ok (.enter gf args) w)
    (hp : ∀ W, OnlyE w W (fun b => b = mb) → ∀ p, Calls Try.prog gf (#[valPl p] ++ lb) W fun e w' => e = .returned (.bool (P p)) ∧ RowKit.Below W.heap.size W w') :
    Calls Try.prog 27 #[qptr g, .func (.func gf) #[] lb] w fun e w' => e = .returned (.int .i64 ((l.length : Int) - ((staysP P l).length : Int))) ∧ Went w base g mb T room D ⟨(staysP P l).map Pf.F, lost⟩ w' := by
  have hd0 : ((some ⟨g, 0, none⟩ : Option Addr) == none) = false := rfl
  have eg2 : ∀ args w, (callFunc 38 args).run Try.prog w = .ok (.enter 38 args) w := enters_of Try.func38 (by kernel_rfl) rfl
  have H := Lib.hid h
  have HP := Lib.hid hp
  have HLEN := Lib.hid hlen
  have hmw := h.mlt
  have hgw := h.lt
  obtain ⟨A0, c0, hT, -, -⟩ := h.slice
  rw [List.length_map] at hT
  have HT := Lib.hid hT
  have hb0 := alloc_below w (.cells #[.pointer (some ⟨g, 0, none⟩)] 24)
  have HS0 : Hid (ReS w base g mb T room lost l (staysP P (l.take 0) ++ l.drop 0) D (w.alloc (.cells #[.pointer (some ⟨g, 0, none⟩)] 24))) := by
    refine ⟨?_, OnlyE.of_below hb0, heap_alloc_new _ _⟩
    simp only [List.take_zero, List.drop_zero]
    exact h.on hb0
  have c1 := (h.on hb0).c1
  rw [hT] at c1
  generalize hN : l.length = n at c1
  have HN := Lib.hid hN
  have hn4 : n ≤ 4096 := by omega
  generalize hQ : (staysP P l).length = m
  have HM := Lib.hid hQ
  have hm4 : m ≤ n := by rw [← hQ, ← hN]; exact List.length_filter_le _ _
  clear h hlen hp hT hN hQ hb0
  unfold qptr
  go_enter Try.func27, Try.ntmps27
  go_wp2_with fail
  clear c1
  go_loopw [7, 20] (fun _ s20 V => ∃ k : Nat, k ≤ n ∧ s20 = .int .i64 k ∧ Hid (ReS w base g mb T room lost l (staysP P (l.take k) ++ l.drop k) D V)) (fun _ s20 _ => n - (intOf s20).toNat)
  case atStart => exact ⟨0, Nat.zero_le _, rfl, HS0⟩
  case round =>
    clear HS0
    obtain ⟨k, hk, rfl, HS⟩ := hrel
    by_cases hlt : k < n
    · have hkl : k < l.length := by rw [HN.out]; exact hlt
      have hTT : T = .slice A0 n c0 := by rw [HT.out, HN.out]
      obtain ⟨bb, off, rfl, hbl, z0, z1, z2⟩ := (HS.out.q.lies hTT).pl (i := k) (by rw [List.length_map]; exact hkl)
      rw [List.getElem_map] at z0 z1 z2
      obtain ⟨p, hp⟩ : ∃ p, l[k].pl = p := ⟨_, rfl⟩
      rw [hp] at z0 z1 z2
      have HPE := Lib.hid hp
      have HST := Lib.hid (stays_step (P := P) hkl)
      have HG1 : Hid (P p = true → staysP P (l.take (k + 1)) ++ l.drop (k + 1) = staysP P (l.take k) ++ l.drop (k + 1)) := fun h => stays_gone hkl (by rw [HPE.out]; exact h)
      have HG0 : Hid (P p = false → staysP P (l.take (k + 1)) ++ l.drop (k + 1) = staysP P (l.take k) ++ l.drop k) := fun h => stays_kept hkl (by rw [HPE.out]; exact h)
      clear hTT hp
      have hVM : wr.heap.size ≠ mb := by have := HS.out.only.size; omega
      have HVM := Lib.hid hVM
      clear hVM
      go_wp2_with fail
      generalize hw0 : World.alloc wr _ = V0
      obtain ⟨hs0, hG, -⟩ := box1 wr V0 _ _ hw0
      have HBX : Hid (BxP wr.heap.size p V0) := by show _ = _; rw [← hw0]; exact heap_alloc_new _ _
      have HS := Lib.hid (HS.out.on hG.below)
      have HC := Lib.hid (HP.out V0 HS.out.only p)
      generalize wr.heap.size = vb at HVM HBX
      clear hw0 hG hs0 z0 z1 z2 hbl
      go_at_fn gf
      refine HC.out.mono ?_
      rintro e V1 ⟨rfl, hb1⟩
      have HS1 := Lib.hid (HS.out.on hb1)
      have HBX1 := Lib.hid (HBX.out.on hb1)
      clear HC HS HBX hb1
      generalize P p = q at HG1 HG0
      cases q with
      | false =>
        rw [← HG0.out rfl] at HS1
        clear HG0 HG1 HST
        go_wp2
        go_roundw
        case rel => exact ⟨k + 1, by omega, by go_num, HS1⟩
        case measure => simp [intOf]; omega
      | true =>
        rw [HST.out] at HS1
        have HG := Lib.hid (HG1.out rfl)
        clear HG0 HG1 HST
        go_wp2_with fail
        refine wp_region_held_drew (S := S8 g mb vb w.heap.size p) (by kernel_rfl) ⟨HS1.out.cell, HS1.out.q.c0, HBX1.out.c0, HBX1.out.c1, HBX1.out.c2⟩ (fun hHeld => ?_)
        have HS5 := Lib.hid (HS1.out.on (drewB V1))
        have HB5 := Lib.hid (HBX1.out.on (drewB V1))
        clear HS1 HBX1
        generalize V1.drew = V5 at HS5 HB5 hHeld ⊢
        clear V1
        obtain ⟨V6, hrun, hS6, hO6⟩ := HS5.out.del hmw 0
        rw [HPE.out] at hrun
        unfold valPl plc at hrun
        rw [← HG.out] at hS6
        refine wpAnyH_takeAt (i := 0) (d := 27) (v := ?_) rfl rfl (by kernel_rfl) (by kernel_rfl) (by kernel_rfl) (fun _ _ _ h => h) (Or.inl ⟨by rfl, ?_⟩) hHeld ?_
        rotate_left
        · (intro _ hSw; obtain ⟨zq, z0, z1, z2, z3⟩ := hSw; go_simp; try with_reducible rfl)
        simp only [List.setIfInBounds_toArray, List.set_cons_zero, List.set_cons_succ]
        refine wpAnyH_takeAt (i := 1) (d := 28) (v := ?_) rfl rfl (by kernel_rfl) (by kernel_rfl) (by kernel_rfl) (fun _ _ _ h => h) (Or.inl ⟨by rfl, ?_⟩) hHeld ?_
        rotate_left
        · (intro _ hSw; go_simp; try with_reducible rfl)
        simp only [List.setIfInBounds_toArray, List.set_cons_zero, List.set_cons_succ]
        refine wpAnyH_takeAt (i := 2) (d := 29) (v := ?_) rfl rfl (by kernel_rfl) (by kernel_rfl) (by kernel_rfl) (fun _ _ _ h => h) (Or.inl ⟨by rfl, ?_⟩) hHeld ?_
        rotate_left
        · (intro _ hSw; go_simp; try with_reducible rfl)
        simp only [List.setIfInBounds_toArray, List.set_cons_zero, List.set_cons_succ]
        refine wpAnyH_takeAt (i := 3) (d := 30) (v := ?_) rfl rfl (by kernel_rfl) (by kernel_rfl) (by kernel_rfl) (fun _ _ _ h => h) (Or.inl ⟨by rfl, ?_⟩) hHeld ?_
        rotate_left
        · (intro _ hSw; obtain ⟨zq, z0, z1, z2, z3⟩ := hSw; go_simp; try with_reducible rfl)
        simp only [List.setIfInBounds_toArray, List.set_cons_zero, List.set_cons_succ]
        refine wpAnyH_takeAt (i := 4) (d := 31) (v := ?_) rfl rfl (by kernel_rfl) (by kernel_rfl) (by kernel_rfl) (fun _ _ _ h => h) (Or.inl ⟨by rfl, ?_⟩) hHeld ?_
        rotate_left
        · (intro _ hSw; obtain ⟨zq, z0, z1, z2, z3⟩ := hSw; go_simp; try with_reducible rfl)
        simp only [List.setIfInBounds_toArray, List.set_cons_zero, List.set_cons_succ]
        refine wpAnyH_ready (rs := [5]) (by kernel_rfl) (by simp) ?_
        refine AllReadyH.cons rfl (fun K hK => ?_) AllReadyH.nil
        refine wp_delete_step (x := .tmp 30) (y := .tmp 31) rfl rfl rfl rfl hrun ?_
        have hB6 := HB5.out.only hO6 fun e => HVM.out e
        have hs6 : S8 g mb vb w.heap.size p V6 := ⟨hS6.cell, hS6.q.c0, hB6.c0, hB6.c1, hB6.c2⟩
        have HS6 := Lib.hid hS6
        clear hHeld hrun hS6 hO6 hB6
        refine hK.out _ _ hs6 (fun hHeld => ?_)
        clear hK K
        refine wpAnyH_done (by kernel_rfl) ?_ _
        clear hs6 hHeld HB5
        simp only [Act.put]
        go_wp2
        go_roundw
        case rel => exact ⟨k + 1, by omega, by go_num, HS6⟩
        case measure => simp [intOf]; omega
    · obtain rfl : k = n := by omega
      have hE : staysP P (l.take k) ++ l.drop k = staysP P l := by rw [List.take_of_length_le (by rw [HN.out]; exact Nat.le_refl _), List.drop_eq_nil_of_le (by rw [HN.out]; exact Nat.le_refl _), List.append_nil]
      rw [hE] at HS
      have hTT : T = .slice A0 k c0 := by rw [HT.out, HN.out]
      clear hE hlt HP
      go_wp2_with fail
      have hHeld : S10 g w.heap.size (.slice A0 k c0) wr.drew := ⟨HS.out.cell, hTT ▸ HS.out.q.c1, HS.out.q.fr 1⟩
      refine wp_region_Z 9 (S10 g w.heap.size (.slice A0 k c0)) (by kernel_rfl) ?_
      have HS5 := Lib.hid (HS.out.on (drewB wr))
      clear HS
      generalize wr.drew = V5 at HS5 hHeld ⊢
      have HDEL : Hid (Calls Try.prog 37 #[.slice A0 k c0, .func (.func 38) #[] #[.pointer (some ⟨w.heap.size, 0, none⟩)]] V5 fun e w' => e = .returned (.slice A0 m c0) ∧ S10 g w.heap.size (.slice A0 k c0) w' ∧ Hid (Went w base g mb T room D ⟨(staysP P l).map Pf.F, lost⟩ (w'.setCell ⟨g, 1, none⟩ (.slice A0 m c0)) ∧ (w'.setCell ⟨g, 1, none⟩ (.slice A0 m c0)).cell? ⟨w.heap.size, 0, none⟩ = some (.pointer (some ⟨g, 0, none⟩)) ∧ (w'.setCell ⟨g, 1, none⟩ (.slice A0 m c0)).cell? ⟨g, 1, none⟩ = some (.slice A0 m c0))) := by
        have hrow := HS5.out.q.row
        rw [hTT, List.length_map, HN.out] at hrow
        have h1 := deletePl_any (fun p => !hasP (staysP P l) p) 38 #[.pointer (some ⟨w.heap.size, 0, none⟩)] eg2 A0 k c0 base (l.map Pf.pl) V5 (fun W hW z _ => by
          have hbx : W.cell? ⟨w.heap.size, 0, none⟩ = some (qptr g) := (hW.cell HS5.out.lt (fun e => by
            have := own_ty hrow HS5.out.box (by decide)
            exact this e)).trans HS5.out.cell
          have hq : MapS W g mb (staysP P l) := HS5.out.q.toM.kept hW (fun e => HS5.out.q.tg (hTT ▸ e)) (fun e => HS5.out.q.tm (hTT ▸ e))
          exact goneF_any hq z w.heap.size (Nat.lt_of_lt_of_le HS5.out.lt hW.size) hbx) (by rw [List.length_map, HN.out]) (by omega) HS5.out.q.lo hrow
        refine h1.mono ?_
        rintro e w' ⟨n', rfl, hn', hr, ho⟩
        rw [stays_row] at hn' hr
        rw [List.length_map, HM.out] at hn'
        subst hn'
        have ho' : OnlyE V5 w' (fun b => T.ownBlock = some b) := by rw [hTT]; exact ho
        have hr' : w'.ownsRow base 69 3 (.slice A0 n' c0) ((staysP P l).map Pf.pl).length (flat encPl ((staysP P l).map Pf.pl)) := by rw [List.length_map, HM.out]; exact hr
        have hTo : ∀ b, (Value.slice A0 n' c0).ownBlock = some b → T.ownBlock = some b := fun b hb => by rw [hTT]; cases A0 <;> exact hb
        obtain ⟨q1, q2, q3, q4⟩ := HS5.out.q.setRow ho' hr' fun b hb => .inl (hTo b hb)
        have hnb : ¬ Own g mb T w.heap.size := fun e => by
          rcases e with e | e | e
          · omega
          · omega
          · exact own_ty HS5.out.q.row HS5.out.box (by decide) e
        have hbx : w'.cell? ⟨w.heap.size, 0, none⟩ = some (.pointer (some ⟨g, 0, none⟩)) := (ho'.cell HS5.out.lt fun e => hnb (.inr (.inr e))).trans HS5.out.cell
        refine ⟨rfl, ⟨hbx, hTT ▸ q3, q4⟩, ⟨_, staysP P l, fun b => D b ∨ (Value.slice A0 n' c0).ownBlock = some b, q1, rfl, fun b hb => .inl hb, fun b hb => .inl (hb.elim id fun hb => H.out.own b (.inr (.inr (hTo b hb)))), fun b hb => .inl (hTo b hb), (HS5.out.only.mono fun b hb => .inr (.inl hb)).trans q2⟩, (q2.cell HS5.out.lt hnb).trans HS5.out.cell, q1.c1⟩
      clear HS5 hTT
      refine wpZ_take (i := 0) (d := 33) (v := ?_) rfl rfl (by kernel_rfl) (by kernel_rfl) (by kernel_rfl) (by kernel_rfl) (fun _ _ _ h => h) (Or.inl ⟨by rfl, ?_⟩) hHeld ?_
      rotate_left
      · (intro _ hSw; obtain ⟨zq, z1, zf⟩ := hSw; go_simp; try with_reducible rfl)
      simp only [List.setIfInBounds_toArray, List.set_cons_zero, List.set_cons_succ]
      refine wpZ_take (i := 1) (d := 34) (v := ?_) rfl rfl (by kernel_rfl) (by kernel_rfl) (by kernel_rfl) (by kernel_rfl) (fun _ _ _ h => h) (Or.inl ⟨by rfl, ?_⟩) hHeld ?_
      rotate_left
      · (intro _ hSw; obtain ⟨zq, z1, zf⟩ := hSw; go_simp; try with_reducible rfl)
      simp only [List.setIfInBounds_toArray, List.set_cons_zero, List.set_cons_succ]
      refine wpZ_take (i := 2) (d := 35) (v := ?_) rfl rfl (by kernel_rfl) (by kernel_rfl) (by kernel_rfl) (by kernel_rfl) (fun _ _ _ h => h) (Or.inl ⟨by rfl, ?_⟩) hHeld ?_
      rotate_left
      · (intro _ hSw; go_simp; try with_reducible rfl)
      simp only [List.setIfInBounds_toArray, List.set_cons_zero, List.set_cons_succ]
      refine wpZ_take (i := 3) (d := 36) (v := ?_) rfl rfl (by kernel_rfl) (by kernel_rfl) (by kernel_rfl) (by kernel_rfl) (fun _ _ _ h => h) (Or.inl ⟨by rfl, ?_⟩) hHeld ?_
      rotate_left
      · (intro _ hSw; go_simp; try with_reducible rfl)
      simp only [List.setIfInBounds_toArray, List.set_cons_zero, List.set_cons_succ]
      refine wpZ_take (i := 4) (d := 37) (v := ?_) rfl rfl (by kernel_rfl) (by kernel_rfl) (by kernel_rfl) (by kernel_rfl) (fun _ _ _ h => h) (Or.inl ⟨by rfl, ?_⟩) hHeld ?_
      rotate_left
      · (intro _ hSw; obtain ⟨zq, z1, zf⟩ := hSw; go_simp; try with_reducible rfl)
      simp only [List.setIfInBounds_toArray, List.set_cons_zero, List.set_cons_succ]
      refine wpZ_take (i := 5) (d := 38) (v := ?_) rfl rfl (by kernel_rfl) (by kernel_rfl) (by kernel_rfl) (by kernel_rfl) (fun _ _ _ h => h) (Or.inl ⟨by rfl, ?_⟩) hHeld ?_
      rotate_left
      · (intro _ hSw; go_simp; try with_reducible rfl)
      simp only [List.setIfInBounds_toArray, List.set_cons_zero, List.set_cons_succ]
      refine wpZ_ready (rs := [6]) (by kernel_rfl) (by simp) ?_
      refine AllReadyZ.cons rfl (fun K hK => ?_) AllReadyZ.nil
      go_simp
      refine HDEL.out.mono ?_
      rintro e V6 ⟨rfl, hs6, HW6⟩
      have HS6 := Lib.hid hs6
      clear HDEL hHeld hs6
      have hHeld2 := HS6.out
      refine hK.out _ _ (fun _ => hHeld2) ?_
      clear hK K
      have hHeld := hHeld2
      clear hHeld2
      refine wpZ_ready (rs := [7]) (by kernel_rfl) (by simp) ?_
      refine AllReadyZ.cons rfl (fun K hK => ?_) AllReadyZ.nil
      go_simp
      have hHeld2 := HS6.out
      refine hK.out _ _ (fun _ => hHeld2) ?_
      clear hK K hHeld
      have hHeld := hHeld2
      clear hHeld2
      refine wpZ_take (i := 8) (d := 41) (v := ?_) rfl rfl (by kernel_rfl) (by kernel_rfl) (by kernel_rfl) (by kernel_rfl) (fun _ _ _ h => h) (Or.inl ⟨by rfl, ?_⟩) hHeld ?_
      rotate_left
      · (intro _ hSw; go_simp; try with_reducible rfl)
      simp only [List.setIfInBounds_toArray, List.set_cons_zero, List.set_cons_succ]
      obtain ⟨zq, z1, zf⟩ := hHeld
      refine wpZ_ready (rs := [9]) (by kernel_rfl) (by simp) ?_
      refine AllReadyZ.cons rfl (fun K hK => ?_) AllReadyZ.nil
      go_simp
      refine hK.out _ _ (fun h => absurd rfl h) ?_
      clear hK K
      refine wpZ_done (by kernel_rfl) ?_ _
      clear zq z1 zf HS6
      have y1 := HW6.out.2.1
      have y2 := HW6.out.2.2
      go_wp2
      go_ret
      exact ⟨rfl, HW6.out.1⟩

      end Go.Proofs.Ytmnjedpnhilndaa
