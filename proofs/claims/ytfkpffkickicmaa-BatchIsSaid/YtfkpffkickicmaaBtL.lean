/- The walk of the document's After (layer 5). -/
import Derived.Test.YtfkpffkickicmaaBtK
namespace Go.Proofs.Ytfkpffkickicmaa
open Go.RowKit Go.Sort

set_option maxHeartbeats 1600000 in
theorem refAfter_any (A : Option Addr) (n c : Nat) (base : List Nat) (A2 : Option Addr) (n2 c2 : Nat) (l : List Rn) (w : World) (hn : n ≤ 1000) (hl : base.length = n) (h : Lies w w.heap.size A (uvs base)) (hu : ∀ x ∈ base, x < 18446744073709551616)
    (hn2 : n2 ≤ 1000) (hl2 : l.length = n2) (h2 : Lies w w.heap.size A2 (flat encRn l)) :
    Calls Try.prog 10 #[.slice A n c, .slice A2 n2 c2] w (OwnedV w w.heap.size (afterL base l)) := by
  have HMY : Hid (∀ W, RowKit.Below w.heap.size w W → Calls Try.prog 12 #[.slice A n c, .int .i64 4096, .slice A2 n2 c2] W fun e w' => e = .returned (.bool (batB base 4096 l)) ∧ RowKit.Below W.heap.size W w') :=
    fun W hW => refMayB_any A n c base 4096 A2 n2 c2 l W hn hl (h.on hW) hu (by decide) hn2 hl2 (h2.on hW)
  generalize hO : afterL base l = O
  have HO : Hid (O = if batB base 4096 l = true then addTo base l l.length else base) := by rw [← hO]; rfl
  have HST : Hid (batB base 4096 l = true → ∀ k (hk : k < l.length), l[k].f < base.length ∧ lastN l[k] = num (addTo base l k) l[k].f + l[k].c) := fun hb k hk => ⟨(batch_step hb hk).1, (batch_step hb hk).2.2⟩
  generalize batB base 4096 l = B at HMY HO HST
  have HL := Lib.hid hl
  have HL2 := Lib.hid hl2
  clear hO hl hl2 hu
  go_enter Try.func10, Try.ntmps10
  go_wp2_with (at_builtin; refine wpList_anew rfl (.tmp 7) (.tmp 8) rfl rfl A n c _ base rfl HL.out h (Nat.le_refl _) hn ?_)
  intro v1 w1 hown hb1
  obtain ⟨A1, c1, rfl, hc1, hc2⟩ := own_slice hown
  clear h
  go_wp2_with fail
  refine (HMY.out w1 hb1).mono ?_
  rintro e w2 ⟨rfl, hb2⟩
  have hown2 := own_below hown hb2
  have hb12 : RowKit.Below w.heap.size w w2 := hb1.trans (hb2.mono hb1.size)
  clear HMY hown hb1 hb2
  cases B with
  | false =>
    have HR : Hid (O = base) := by show O = _; rw [HO.out]; rfl
    have H2 := Lib.hid hown2
    clear hown2
    go_wp2
    go_ret
    rw [HR.out]
    exact OwnedV.of H2.out hb12
  | true =>
    have HR : Hid (O = addTo base l l.length) := by show O = _; rw [HO.out]; rfl
    have HS2 := Lib.hid (HST.out rfl)
    have H2 := Lib.hid hown2
    clear hown2 HST HO
    go_wp2
    go_loopw [6, 15] (fun _ s15 wr => ∃ k : Nat, k ≤ n2 ∧ s15 = .int .i64 k ∧ RowKit.Below w.heap.size w wr ∧ wr.ownsRow w.heap.size 40 1 (.slice A1 n c1) n (uvs (addTo base l k))) (fun _ s15 _ => n2 - (intOf s15).toNat)
    case atStart => exact ⟨0, Nat.zero_le _, rfl, hb12, H2.out⟩
    case round =>
      clear H2 hb12
      obtain ⟨k, hk, rfl, hb, hown⟩ := hrel
      by_cases hlt : k < n2
      · have hkl : k < l.length := by rw [HL2.out]; exact hlt
        have hcell : Hid (∀ W : World, RowKit.Below w.heap.size w W → ∃ bb off, A2 = some ⟨bb, off, none⟩ ∧ bb < w.heap.size ∧ W.cell? ⟨bb, off + k * 3, none⟩ = some (.int .u8 (l[k].f : Int)) ∧ W.cell? ⟨bb, off + k * 3 + 1, none⟩ = some (.int .u64 (l[k].a : Int)) ∧ W.cell? ⟨bb, off + k * 3 + 1 + 1, none⟩ = some (.int .u64 (l[k].c : Int))) := fun W hW => (h2.below hW).rn hkl
        obtain ⟨bb, off, rfl, hbl, -⟩ := hcell.out _ hb
        have d0 : ∀ W : World, RowKit.Below w.heap.size w W → W.cell? ⟨bb, off + k * 3, none⟩ = some (.int .u8 (l[k].f : Int)) := fun W hW => by
          obtain ⟨b', o', he, _, q0, _, _⟩ := hcell.out W hW
          injection he with he; injection he with e1 e2; subst e1 e2; exact q0
        have d1 : ∀ W : World, RowKit.Below w.heap.size w W → W.cell? ⟨bb, off + k * 3 + 1, none⟩ = some (.int .u64 (l[k].a : Int)) := fun W hW => by
          obtain ⟨b', o', he, _, _, q1, _⟩ := hcell.out W hW
          injection he with he; injection he with e1 e2; subst e1 e2; exact q1
        have d2 : ∀ W : World, RowKit.Below w.heap.size w W → W.cell? ⟨bb, off + k * 3 + 1 + 1, none⟩ = some (.int .u64 (l[k].c : Int)) := fun W hW => by
          obtain ⟨b', o', he, _, _, _, q2⟩ := hcell.out W hW
          injection he with he; injection he with e1 e2; subst e1 e2; exact q2
        clear hcell
        obtain ⟨hfn, hsum⟩ := HS2.out k hkl
        have HNX := Lib.hid (addTo_next base hkl)
        have hlen : (addTo base l k).length = n := by rw [addTo_length]; exact HL.out
        have hla := fun W' => refLast_lit l[k] W'
        generalize l[k] = x at d0 d1 d2 hfn hsum HNX hla
        generalize addTo base l k = b at hown hsum HNX hlen
        have hfn' : x.f < b.length := by rw [hlen, ← HL.out]; exact hfn
        have hfn1 : x.f < n := by rw [← hlen]; exact hfn'
        obtain ⟨gg, cap, hv, hbg, hgl⟩ := hown.form (by omega)
        obtain ⟨rfl, rfl⟩ : A1 = some ⟨gg, 0, none⟩ ∧ c1 = cap := by injection hv with e1 _ e3; exact ⟨e1, e3⟩
        have HNX2 : Hid (addTo base l (k + 1) = b.set x.f (lastN x)) := by show _ = _; rw [HNX.out, addC, hsum]
        have HX := Lib.hid (uvs_at hfn')
        generalize b[x.f] = y at HX
        generalize lastN x = z at hla HNX2
        have HO := Lib.hid hown
        have HLA := Lib.hid hla
        have hfz : (x.f : Int) < (n : Int) := by omega
        have hbd : RowKit.Below w.heap.size w wr.drew := hb.drew
        clear hv HNX hown hfn hlen hsum hla
        go_wp2_with fail
        refine wp_region_held_drew (S := fun W => RowKit.Below w.heap.size w W) (by kernel_rfl) hbd (fun hHeld => ?_)
        refine wpAnyH_takeAt (i := 0) (d := 18) (v := ?_) rfl rfl (by kernel_rfl) (by kernel_rfl) (by kernel_rfl) (fun _ _ _ h => h) (Or.inl ⟨by rfl, ?_⟩) hHeld ?_
        rotate_left
        · (intro _ hSw; go_simp; try with_reducible rfl)
        simp only [List.setIfInBounds_toArray, List.set_cons_zero, List.set_cons_succ]
        refine wpAnyH_takeAt (i := 1) (d := 19) (v := ?_) rfl rfl (by kernel_rfl) (by kernel_rfl) (by kernel_rfl) (fun _ _ _ h => h) (Or.inl ⟨by rfl, ?_⟩) hHeld ?_
        rotate_left
        · (intro _ hSw; go_simp; try with_reducible rfl)
        simp only [List.setIfInBounds_toArray, List.set_cons_zero, List.set_cons_succ]
        refine wpAnyH_takeAt (i := 2) (d := 20) (v := ?_) rfl rfl (by kernel_rfl) (by kernel_rfl) (by kernel_rfl) (fun _ _ _ h => h) (Or.inl ⟨by rfl, ?_⟩) hHeld ?_
        rotate_left
        · (intro _ hSw; go_simp; try with_reducible rfl)
        simp only [List.setIfInBounds_toArray, List.set_cons_zero, List.set_cons_succ]
        refine wpAnyH_takeAt (i := 3) (d := 21) (v := ?_) rfl rfl (by kernel_rfl) (by kernel_rfl) (by kernel_rfl) (fun _ _ _ h => h) (Or.inl ⟨by rfl, ?_⟩) hHeld ?_
        rotate_left
        · (intro _ hSw; go_simp; try with_reducible rfl)
        simp only [List.setIfInBounds_toArray, List.set_cons_zero, List.set_cons_succ]
        refine wpAnyH_takeAt (i := 4) (d := 22) (v := ?_) rfl rfl (by kernel_rfl) (by kernel_rfl) (by kernel_rfl) (fun _ _ _ h => h) (Or.inl ⟨by rfl, ?_⟩) hHeld ?_
        rotate_left
        · (intro _ hSw; go_simp; try with_reducible rfl)
        simp only [List.setIfInBounds_toArray, List.set_cons_zero, List.set_cons_succ]
        refine wpAnyH_takeAt (i := 5) (d := 23) (v := ?_) rfl rfl (by kernel_rfl) (by kernel_rfl) (by kernel_rfl) (fun _ _ _ h => h) (Or.inl ⟨by rfl, ?_⟩) hHeld ?_
        rotate_left
        · (intro _ hSw; go_simp; try with_reducible rfl)
        simp only [List.setIfInBounds_toArray, List.set_cons_zero, List.set_cons_succ]
        refine wpAnyH_takeAt (i := 6) (d := 24) (v := ?_) rfl rfl (by kernel_rfl) (by kernel_rfl) (by kernel_rfl) (fun _ _ _ h => h) (Or.inl ⟨by rfl, ?_⟩) hHeld ?_
        rotate_left
        · (intro _ hSw; go_simp; try with_reducible rfl)
        simp only [List.setIfInBounds_toArray, List.set_cons_zero, List.set_cons_succ]
        refine wpAnyH_takeAt (i := 7) (d := 25) (v := ?_) rfl rfl (by kernel_rfl) (by kernel_rfl) (by kernel_rfl) (fun _ _ _ h => h) (Or.inl ⟨by rfl, ?_⟩) hHeld ?_
        rotate_left
        · (intro _ hSw; go_simp; try with_reducible rfl)
        simp only [List.setIfInBounds_toArray, List.set_cons_zero, List.set_cons_succ]
        refine wpAnyH_takeAt (i := 8) (d := 26) (v := ?_) rfl rfl (by kernel_rfl) (by kernel_rfl) (by kernel_rfl) (fun _ _ _ h => h) (Or.inl ⟨by rfl, ?_⟩) hHeld ?_
        rotate_left
        · (intro _ hSw; go_simp; try with_reducible rfl)
        simp only [List.setIfInBounds_toArray, List.set_cons_zero, List.set_cons_succ]
        refine wpAnyH_takeAt (i := 9) (d := 27) (v := ?_) rfl rfl (by kernel_rfl) (by kernel_rfl) (by kernel_rfl) (fun _ _ _ h => h) (Or.inl ⟨by rfl, ?_⟩) hHeld ?_
        rotate_left
        · (intro _ hSw; go_simp; try with_reducible rfl)
        simp only [List.setIfInBounds_toArray, List.set_cons_zero, List.set_cons_succ]
        refine wpAnyH_ready (rs := [10]) (by kernel_rfl) (by simp) ?_
        refine AllReadyH.cons rfl (fun K hK => ?_) AllReadyH.nil
        go_simp
        refine (HLA.out _).mono ?_
        rintro e w3 ⟨rfl, hg3⟩
        dsimp only
        have hbx : RowKit.Below wr.heap.size wr w3 := ((RowKit.Below.refl _ _).drew).trans hg3.below
        have hown3 := own_below HO.out hbx
        have hb3 : RowKit.Below w.heap.size w w3 := hb.trans (hbx.mono hb.size)
        refine hK.out _ _ hb3 (fun hHeld => ?_)
        clear hK K
        refine wpAnyH_takeAt (i := 11) (d := 29) (v := ?_) rfl rfl (by kernel_rfl) (by kernel_rfl) (by kernel_rfl) (fun _ _ _ h => h) (Or.inl ⟨by rfl, ?_⟩) hHeld ?_
        rotate_left
        · (intro _ hSw; go_simp; try with_reducible rfl)
        simp only [List.setIfInBounds_toArray, List.set_cons_zero, List.set_cons_succ]
        refine wpAnyH_ready (rs := [12]) (by kernel_rfl) (by simp) ?_
        refine AllReadyH.cons rfl (fun K hK => ?_) AllReadyH.nil
        go_simp
        have hcl := hown3.cellAt x.f (by omega)
        rw [HX.out] at hcl
        have hfr := hown3.frozenAt x.f
        have H3 := Lib.hid hown3
        clear hown3
        go_simp
        refine hK.out _ _ (hb3.setCell (p := ⟨gg, _, none⟩) hbg _) (fun hHeld => ?_)
        clear hK K
        refine wpAnyH_done (by kernel_rfl) ?_ _
        go_wp2
        go_roundw
        case rel =>
          refine ⟨k + 1, by omega, by go_num, ?_, ?_⟩
          · exact hb3.setCell (p := ⟨gg, _, none⟩) hbg _
          · rw [HNX2.out, uvs_set]
            exact (H3.out.stored x.f (.int .u64 (z : Int))).1
        case measure => simp [intOf]; omega
      · have hkk : k = l.length := by rw [HL2.out]; omega
        rw [hkk, ← HR.out] at hown
        have HM := Lib.hid hown
        clear hown hkk
        go_wp2
        go_ret
        exact OwnedV.of HM.out hb

end Go.Proofs.Ytfkpffkickicmaa
