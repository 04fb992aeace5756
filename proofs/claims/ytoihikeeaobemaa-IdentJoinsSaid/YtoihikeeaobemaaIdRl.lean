/- The walk of the document's own List. -/
import Derived.Test.YtoihikeeaobemaaIdN
import Derived.Test.YtoihikeeaobemaaHeld
namespace Go.Proofs.Ytoihikeeaobemaa
open Go.RowKit Go.Sort

theorem listM_neg {most : Int} {l : List Rn} (h : most < 0) : listM most l = [] := by
  unfold listM
  by_cases hc : badB l = true ∨ max most 0 < (cntN l : Int)
  · rw [if_pos hc]
  · rw [if_neg hc]
    have hb : badB l = false := by
      cases hb : badB l
      · rfl
      · exact absurd (.inl hb) hc
    have h0 : cntN l ≤ 0 := by
      have : ¬ max most 0 < (cntN l : Int) := fun h => hc (.inr h)
      omega
    have := cnt_len hb h0 (by omega)
    exact List.eq_nil_of_length_eq_zero (by omega)

theorem wp_append_step {P : Program} {o : Oper} {a : Act} {w w' : World} {v vx v' : Value} {ys : Nat → Option Bool} {K : Act → World → Prop} {Q : Exit → Act → World → Prop} {s x : Operand} {t : TypeId} (hgd : o.guard = none) (ho : o.op = .call { callee := .builtin .append, args := #[s, x], argTypes := #[t, t] })
    (hs : a.eval s = v) (hx : a.eval x = vx) (hrun : (Builtin.append_ #[t, t] o.type #[v, vx]).run P w = .ok v' w') (hk : K (a.put o.dst v') w') :
    if Region.wanted o ys = true then Oper.wp P o a w K Q else K (a.put o.dst undef) w := by
  rw [if_pos (by simp [Region.wanted, hgd])]
  unfold Oper.wp execOp
  simp only [ho, resolve, invoke, builtin, Sem.run_bind, Sem.run_pure, Result.andThen_ok, List.map_toArray, List.map_cons, List.map_nil, hs, hx, hrun]
  exact hk

theorem Ids.start {wr : World} {base : Nat} {v : Value} {pre : List Id} {x : Rn} (h : Ids wr base v pre) : Ids wr base v (pre ++ runIds x 0) := by
  obtain ⟨m, hm, hown⟩ := h
  exact ⟨m, by simpa [runIds] using hm, by simpa [runIds] using hown⟩

set_option maxHeartbeats 1600000 in
theorem refList_any (most : Int) (A : Option Addr) (n c : Nat) (l : List Rn) (w : World) (hm1 : -9223372036854775808 ≤ most) (hm2 : most ≤ 300) (hl : l.length = n) (hn : n ≤ 1000) (h : Lies w w.heap.size A (flat encRn l)) :
    Calls Try.prog 23 #[.int .i64 most, .slice A n c] w (OwnIds w w.heap.size (listM most l)) := by
  obtain ⟨i0, hi, hz0, hz1, hz2⟩ := info_parts Try.infoID
  have HL := Lib.hid hl
  clear hl
  by_cases hneg : most < 0
  · rw [listM_neg hneg]
    have hO := World.ownsRow_made (size := 2) (e := 24) w #[] 0 (Nat.le_refl _) (Nat.zero_le _) rfl
    have HO := Lib.hid hO
    clear hO
    go_enter Try.func23, Try.ntmps23
    go_wp2
    go_ret
    exact OwnIds.of (n := 0) rfl HO.out ((RowKit.Below.refl _ _).alloc (Nat.le_refl _) _)
  · obtain ⟨K, hK⟩ : ∃ K : Nat, most = (K : Int) := ⟨most.toNat, by omega⟩
    subst hK
    have hK3 : K ≤ 300 := by omega
    have hlm : listM (K : Int) l = if badB l = true ∨ K < cntN l then [] else listOf l := by
      unfold listM
      rw [show max (K : Int) 0 = (K : Int) by omega]
      simp only [Int.ofNat_lt]
    rw [hlm]
    clear hlm hneg hm1 hm2
    generalize hR : (if badB l = true ∨ K < cntN l then [] else listOf l) = R
    have HR := Lib.hid hR
    clear hR
    have eK : IntKind.u64.wrap (K : Int) = (K : Int) := by rw [IntKind.wrap_u64]; omega
    go_enter Try.func23, Try.ntmps23
    go_wp2_with fail
    have hO := World.ownsRow_made (base := w.heap.size) (size := 2) (e := 24) w #[] 0 (Nat.le_refl _) (Nat.zero_le _) rfl
    generalize hw0 : World.alloc w _ = w0 at hO ⊢
    have hb0 : RowKit.Below w.heap.size w w0 := by rw [← hw0]; exact (RowKit.Below.refl _ _).alloc (Nat.le_refl _) _
    clear hw0
    refine (refCount_any A n c l w0 HL.out hn (h.on hb0)).mono ?_
    rintro e w1 ⟨rfl, hb1⟩
    have hO1 := own_below hO hb1
    have hb01 : RowKit.Below w.heap.size w w1 := hb0.trans (hb1.mono hb0.size)
    clear hO hb1
    by_cases hcK : K < cntN l
    · have HE : Hid (R = []) := by
        have := HR.out
        rw [if_pos (.inr hcK)] at this
        exact this.symm
      have HO := Lib.hid hO1
      have hcz : (K : Int) < (cntN l : Int) := by omega
      clear hO1
      go_wp2
      go_ret
      rw [HE.out]
      exact OwnIds.of (n := 0) rfl HO.out hb01
    · have hcz : decide ((K : Int) < (cntN l : Int)) = false := decide_eq_false (by omega)
      have hcn : decide (K < cntN l) = false := decide_eq_false hcK
      have HCK := Lib.hid hcK
      clear hcK
      generalize hcl : cntN l = C at hcz hcn ⊢
      have HCL := Lib.hid hcl
      clear hcl
      go_wp2
      clear hcz hcn
      go_loopw [6, 22] (fun _ i wr => ∃ k : Nat, k ≤ n ∧ i = .int .i64 k ∧ RowKit.Below w1.heap.size w1 wr ∧ Hid (∀ r ∈ l.take k, runB r = true)) (fun _ i _ => n - (intOf i).toNat)
      case atStart => exact ⟨0, Nat.zero_le _, rfl, RowKit.Below.refl _ _, fun r hr => by simp at hr⟩
      case round =>
        obtain ⟨k, hk, rfl, hb, hG⟩ := hrel
        have hbw : RowKit.Below w.heap.size w wr := hb01.trans (hb.mono hb01.size)
        by_cases hlt : k < n
        · have hkl : k < l.length := by rw [HL.out]; exact hlt
          obtain ⟨bb, off, rfl, hbl, c0, c1, c2⟩ := (h.below hbw).rn hkl
          have K1 : Hid (runB l[k] = false → badB l = true) := fun h1 => by
            unfold badB
            rw [List.any_eq_true]
            exact ⟨l[k], List.getElem_mem hkl, by rw [h1]; rfl⟩
          have K2 : Hid (runB l[k] = true → ∀ r ∈ l.take (k + 1), runB r = true) := fun h1 r hr => by
            rw [List.take_succ_eq_append_getElem hkl, List.mem_append] at hr
            rcases hr with h2 | h2
            · exact hG.out r h2
            · simp at h2; subst h2; exact h1
          generalize l[k] = x at c0 c1 c2 K1 K2
          clear hO1
          go_wp2_with fail
          refine (refRun_lit x _).mono ?_
          rintro e w2 ⟨rfl, hg2⟩
          have hb2 : RowKit.Below w1.heap.size w1 w2 := hb.trans (hg2.below.mono hb.size)
          have hbw2 : RowKit.Below w.heap.size w w2 := hb01.trans (hb2.mono hb01.size)
          cases hrun : runB x with
          | false =>
            have HE : Hid (R = []) := by
              have := HR.out
              rw [if_pos (.inl (K1.out hrun))] at this
              exact this.symm
            have hO := World.ownsRow_made (base := w.heap.size) (size := 2) (e := 24) w2 #[] 0 hbw2.size (Nat.zero_le _) rfl
            have HO := Lib.hid hO
            clear hO
            go_wp2
            go_ret
            rw [HE.out]
            exact OwnIds.of (n := 0) rfl HO.out (hbw2.alloc hbw2.size _)
          | true =>
            have HN : Hid (∀ r ∈ l.take (k + 1), runB r = true) := K2.out hrun
            go_wp2
            go_roundw
            case rel => exact ⟨k + 1, by omega, by go_num, hb2, HN⟩
            case measure => simp [intOf]; omega
        · have hall : ∀ r ∈ l, runB r = true := fun r hr => hG.out r (by rw [List.take_of_length_le (by rw [HL.out]; omega)]; exact hr)
          have hbad := bad_of hall
          have HE : Hid (R = listOf l) := by
            have := HR.out
            rw [if_neg (by rw [hbad]; have := HCK.out; simp; omega)] at this
            exact this.symm
          have hlen := cnt_len hbad (M := 300) (by have := HCK.out; omega) (by omega)
          have HLn : Hid ((listOf l).length ≤ 300) := by have := HCK.out; show _ ≤ _; omega
          have hI0 : Ids wr w.heap.size (.slice (some ⟨w.heap.size, 0, none⟩) 0 0) (listOf (l.take 0)) := ⟨0, rfl, own_below hO1 hb⟩
          clear hO1 hlen
          go_wp2
          go_loopw [5, 7, 8, 35] (fun s5 _ _ i ws => ∃ k : Nat, k ≤ n ∧ i = .int .i64 k ∧ Ids ws w.heap.size s5 (listOf (l.take k)) ∧ RowKit.Below w.heap.size w ws) (fun _ _ _ i _ => n - (intOf i).toNat)
          case atStart => exact ⟨0, Nat.zero_le _, rfl, hI0, hbw⟩
          case round =>
            clear hI0 hbw hb hG
            obtain ⟨k2, hk2, rfl, hI, hb⟩ := hrel
            by_cases hlt2 : k2 < n
            · have hkl : k2 < l.length := by rw [HL.out]; exact hlt2
              have hpart : Hid (∀ i, i ≤ l[k2].c → (listOf (l.take k2)).length + i ≤ 300) := fun i hi => Nat.le_trans (listOf_part l k2 i hkl hi) HLn.out
              have hsnoc := Lib.hid (listOf_snoc l k2 hkl)
              have hxc := l[k2].hc
              have hcell : Hid (∀ W : World, RowKit.Below w.heap.size w W → ∃ bb off, A = some ⟨bb, off, none⟩ ∧ bb < w.heap.size ∧ W.cell? ⟨bb, off + k2 * 3, none⟩ = some (.int .u8 (l[k2].f : Int)) ∧ W.cell? ⟨bb, off + k2 * 3 + 1, none⟩ = some (.int .u64 (l[k2].a : Int)) ∧ W.cell? ⟨bb, off + k2 * 3 + 1 + 1, none⟩ = some (.int .u64 (l[k2].c : Int))) := fun W hW => (h.below hW).rn hkl
              obtain ⟨bb, off, rfl, hbl, _, _, _⟩ := hcell.out _ hb
              have d0 : ∀ W : World, RowKit.Below w.heap.size w W → W.cell? ⟨bb, off + k2 * 3, none⟩ = some (.int .u8 (l[k2].f : Int)) := fun W hW => by
                obtain ⟨b', o', he, _, q0, _, _⟩ := hcell.out W hW
                injection he with he; injection he with e1 e2; subst e1 e2; exact q0
              have d1 : ∀ W : World, RowKit.Below w.heap.size w W → W.cell? ⟨bb, off + k2 * 3 + 1, none⟩ = some (.int .u64 (l[k2].a : Int)) := fun W hW => by
                obtain ⟨b', o', he, _, _, q1, _⟩ := hcell.out W hW
                injection he with he; injection he with e1 e2; subst e1 e2; exact q1
              have d2 : ∀ W : World, RowKit.Below w.heap.size w W → W.cell? ⟨bb, off + k2 * 3 + 2, none⟩ = some (.int .u64 (l[k2].c : Int)) := fun W hW => by
                obtain ⟨b', o', he, _, _, _, q2⟩ := hcell.out W hW
                injection he with he; injection he with e1 e2; subst e1 e2; exact q2
              clear hcell
              generalize l[k2] = x at d0 d1 d2 hpart hsnoc hxc
              generalize listOf (l.take k2) = pre at hI hpart hsnoc
              have hI0 := hI.start (x := x)
              clear hI
              have HD := Lib.hid (And.intro d0 (And.intro d1 d2))
              clear d0 d1 d2
              go_wp2
              go_loopw [5, 8] (fun s5 s8 ws => ∃ i : Nat, s8 = .int .u64 i ∧ i ≤ x.c ∧ Ids ws w.heap.size s5 (pre ++ runIds x i) ∧ RowKit.Below w.heap.size w ws) (fun _ s8 _ => x.c - (intOf s8).toNat)
              case atStart => exact ⟨0, rfl, Nat.zero_le _, hI0, hb⟩
              case round =>
                clear hI0 hb
                obtain ⟨i, rfl, hi2, hI, hb⟩ := hrel
                have e2 := HD.out.2.2 _ hb
                by_cases hlti : i < x.c
                · obtain ⟨mi, hmi, hown⟩ := hI
                  obtain ⟨A7, c7, rfl, _, _⟩ := own_sliceK hown
                  have hmb : mi ≤ 300 := by
                    have h1 := hpart.out i (by omega)
                    rw [List.length_append, runIds_len] at hmi
                    omega
                  have es : IntKind.u64.wrap ((x.a : Int) + (i : Int)) = ((addI x i).s : Int) := by
                    show _ = (((x.a + i) % 18446744073709551616 : Nat) : Int)
                    rw [IntKind.wrap_u64]; omega
                  have hap : Hid (flat encId (pre ++ runIds x (i + 1)) = flat encId (pre ++ runIds x i) ++ [.int .u8 (x.f : Int), .int .u64 ((addI x i).s : Int)]) := by
                    show _ = _
                    rw [runIds_succ, ← List.append_assoc, flat_append]
                    rfl
                  have hlen1 : Hid ((pre ++ runIds x (i + 1)).length = mi + 1) := by
                    show _ = _
                    rw [List.length_append, runIds_len] at hmi ⊢
                    omega
                  have HX := Lib.hid hmi
                  clear hmi
                  generalize ((addI x i).s : Int) = sv at es hap
                  have hbd : RowKit.Below w.heap.size w wr.drew := hb.drew
                  have hownD : wr.drew.ownsRow w.heap.size 24 2 (.slice A7 mi c7) mi (flat encId (pre ++ runIds x i)) := hown
                  have hbA : RowKit.Below wr.drew.heap.size wr.drew (wr.drew.alloc (.cells #[.int .u8 (x.f : Int), .int .u64 sv] 24)) := (RowKit.Below.refl _ _).alloc (Nat.le_refl _) _
                  have hownA := own_below hownD hbA
                  have hlit := lies_new wr.drew #[.int .u8 (x.f : Int), .int .u64 sv] 24
                  have hbSA : RowKit.Below w.heap.size w (wr.drew.alloc (.cells #[.int .u8 (x.f : Int), .int .u64 sv] 24)) := hbd.trans (hbA.mono hbd.size)
                  obtain ⟨v8, w8, hrun, hown8, hg8, _⟩ := run_append_lstK (P := Try.prog) w.heap.size 2 (by decide) 39 39 24 i0 (.agg #[.int .u8 0, .int .u64 0]) 16 Try.underlying39 hi hz0 hz1 hz2 rfl _ mi _ hownA _ _ 1 1 [.int .u8 (x.f : Int), .int .u64 sv] rfl hlit (by simp [Value.oneCell']) (by unfold maxLen; omega) (by omega) hbSA.size
                  rw [← hap.out] at hown8
                  have hbS8 : RowKit.Below w.heap.size w w8 := hbSA.grown hg8 hbSA.size (fun q hq => (hownA.lt q hq).1)
                  have HI8 := Lib.hid (show Ids w8 w.heap.size v8 (pre ++ runIds x (i + 1)) from ⟨mi + 1, hlen1.out, hown8⟩)
                  have ei : IntKind.u64.wrap ((i : Int) + 1) = ((i + 1 : Nat) : Int) := by rw [IntKind.wrap_u64]; omega
                  have hz : (i : Int) < (x.c : Int) := by omega
                  obtain ⟨d0, d1, _⟩ := HD.out
                  clear hown hownD hownA hlit hbA hown8 hg8
                  go_wp2_with fail
                  refine wp_region_held_drew (S := fun W => RowKit.Below w.heap.size w W) (by kernel_rfl) hbd (fun hHeld => ?_)
                  refine wpAnyH_takeAt (i := 0) (d := 47) (v := ?_) rfl rfl (by kernel_rfl) (by kernel_rfl) (by kernel_rfl) (fun _ _ _ h => h) (Or.inl ⟨by rfl, ?_⟩) hHeld ?_
                  rotate_left
                  · (intro _ hSw; go_simp; try with_reducible rfl)
                  simp only [List.setIfInBounds_toArray, List.set_cons_zero, List.set_cons_succ]
                  refine wpAnyH_takeAt (i := 1) (d := 48) (v := ?_) rfl rfl (by kernel_rfl) (by kernel_rfl) (by kernel_rfl) (fun _ _ _ h => h) (Or.inl ⟨by rfl, ?_⟩) hHeld ?_
                  rotate_left
                  · (intro _ hSw; go_simp; try with_reducible rfl)
                  simp only [List.setIfInBounds_toArray, List.set_cons_zero, List.set_cons_succ]
                  refine wpAnyH_takeAt (i := 2) (d := 49) (v := ?_) rfl rfl (by kernel_rfl) (by kernel_rfl) (by kernel_rfl) (fun _ _ _ h => h) (Or.inl ⟨by rfl, ?_⟩) hHeld ?_
                  rotate_left
                  · (intro _ hSw; go_simp; try with_reducible rfl)
                  simp only [List.setIfInBounds_toArray, List.set_cons_zero, List.set_cons_succ]
                  refine wpAnyH_takeAt (i := 3) (d := 50) (v := ?_) rfl rfl (by kernel_rfl) (by kernel_rfl) (by kernel_rfl) (fun _ _ _ h => h) (Or.inl ⟨by rfl, ?_⟩) hHeld ?_
                  rotate_left
                  · (intro _ hSw; go_simp; try with_reducible rfl)
                  simp only [List.setIfInBounds_toArray, List.set_cons_zero, List.set_cons_succ]
                  refine wpAnyH_takeAt (i := 4) (d := 51) (v := ?_) rfl rfl (by kernel_rfl) (by kernel_rfl) (by kernel_rfl) (fun _ _ _ h => h) (Or.inl ⟨by rfl, ?_⟩) hHeld ?_
                  rotate_left
                  · (intro _ hSw; go_simp; try with_reducible rfl)
                  simp only [List.setIfInBounds_toArray, List.set_cons_zero, List.set_cons_succ]
                  refine wpAnyH_takeAt (i := 5) (d := 52) (v := ?_) rfl rfl (by kernel_rfl) (by kernel_rfl) (by kernel_rfl) (fun _ _ _ h => h) (Or.inl ⟨by rfl, ?_⟩) hHeld ?_
                  rotate_left
                  · (intro _ hSw; go_simp; try with_reducible rfl)
                  simp only [List.setIfInBounds_toArray, List.set_cons_zero, List.set_cons_succ]
                  refine wpAnyH_takeAt (i := 6) (d := 53) (v := ?_) rfl rfl (by kernel_rfl) (by kernel_rfl) (by kernel_rfl) (fun _ _ _ h => h) (Or.inl ⟨by rfl, ?_⟩) hHeld ?_
                  rotate_left
                  · (intro _ hSw; go_simp; try with_reducible rfl)
                  simp only [List.setIfInBounds_toArray, List.set_cons_zero, List.set_cons_succ]
                  refine wpAnyH_takeAt (i := 7) (d := 54) (v := ?_) rfl rfl (by kernel_rfl) (by kernel_rfl) (by kernel_rfl) (fun _ _ _ h => h) (Or.inl ⟨by rfl, ?_⟩) hHeld ?_
                  rotate_left
                  · (intro _ hSw; go_simp; try with_reducible rfl)
                  simp only [List.setIfInBounds_toArray, List.set_cons_zero, List.set_cons_succ]
                  refine wpAnyH_takeAt (i := 8) (d := 55) (v := ?_) rfl rfl (by kernel_rfl) (by kernel_rfl) (by kernel_rfl) (fun _ _ _ h => h) (Or.inl ⟨by rfl, ?_⟩) hHeld ?_
                  rotate_left
                  · (intro _ hSw; go_simp; try with_reducible rfl)
                  simp only [List.setIfInBounds_toArray, List.set_cons_zero, List.set_cons_succ]
                  refine wpAnyH_takeAt (i := 9) (d := 56) (v := ?_) rfl rfl (by kernel_rfl) (by kernel_rfl) (by kernel_rfl) (fun _ _ _ h => h) (Or.inl ⟨by rfl, ?_⟩) hHeld ?_
                  rotate_left
                  · (intro _ hSw; go_simp; try with_reducible rfl)
                  simp only [List.setIfInBounds_toArray, List.set_cons_zero, List.set_cons_succ]
                  refine wpAnyH_takeAt (i := 10) (d := 57) (v := ?_) rfl rfl (by kernel_rfl) (by kernel_rfl) (by kernel_rfl) (fun _ _ _ h => h) (Or.inl ⟨by rfl, ?_⟩) hHeld ?_
                  rotate_left
                  · (intro _ hSw; go_simp; try with_reducible rfl)
                  simp only [List.setIfInBounds_toArray, List.set_cons_zero, List.set_cons_succ]
                  refine wpAnyH_takeAt (i := 11) (d := 58) (v := ?_) rfl rfl (by kernel_rfl) (by kernel_rfl) (by kernel_rfl) (fun _ _ _ h => h) (Or.inl ⟨by rfl, ?_⟩) hHeld ?_
                  rotate_left
                  · (intro _ hSw; go_simp; try with_reducible rfl)
                  simp only [List.setIfInBounds_toArray, List.set_cons_zero, List.set_cons_succ]
                  refine wpAnyH_takeAt (i := 12) (d := 59) (v := ?_) rfl rfl (by kernel_rfl) (by kernel_rfl) (by kernel_rfl) (fun _ _ _ h => h) (Or.inl ⟨by rfl, ?_⟩) hHeld ?_
                  rotate_left
                  · (intro _ hSw; go_simp; try with_reducible rfl)
                  simp only [List.setIfInBounds_toArray, List.set_cons_zero, List.set_cons_succ]
                  refine wpAnyH_takeAt (i := 13) (d := 60) (v := ?_) rfl rfl (by kernel_rfl) (by kernel_rfl) (by kernel_rfl) (fun _ _ _ h => h) (Or.inl ⟨by rfl, ?_⟩) hHeld ?_
                  rotate_left
                  · (intro _ hSw; go_simp; try with_reducible rfl)
                  simp only [List.setIfInBounds_toArray, List.set_cons_zero, List.set_cons_succ]
                  refine wpAnyH_ready (rs := [14]) (by kernel_rfl) (by simp) ?_
                  refine AllReadyH.cons rfl (fun K hK => ?_) AllReadyH.nil
                  go_simp
                  refine hK.out _ _ hbSA (fun hHeld => ?_)
                  clear hK K
                  refine wpAnyH_ready (rs := [15]) (by kernel_rfl) (by simp) ?_
                  refine AllReadyH.cons rfl (fun K hK => ?_) AllReadyH.nil
                  refine wp_append_step (s := .tmp 47) (x := .tmp 61) (t := 39) rfl rfl rfl rfl hrun ?_
                  go_simp
                  refine hK.out _ _ hbS8 (fun hHeld => ?_)
                  clear hK K
                  refine wpAnyH_takeAt (i := 16) (d := 5) (v := ?_) rfl rfl (by kernel_rfl) (by kernel_rfl) (by kernel_rfl) (fun _ _ _ h => h) (Or.inl ⟨by rfl, ?_⟩) hHeld ?_
                  rotate_left
                  · (intro _ hSw; go_simp; try with_reducible rfl)
                  simp only [List.setIfInBounds_toArray, List.set_cons_zero, List.set_cons_succ]
                  refine wpAnyH_done (by kernel_rfl) ?_ _
                  clear d0 d1
                  go_wp2
                  go_roundw
                  case rel => exact ⟨i + 1, by go_num, by omega, HI8.out, hbS8⟩
                  case measure => simp [intOf]; omega
                · have hix : i = x.c := by omega
                  subst hix
                  rw [← hsnoc.out] at hI
                  have HI := Lib.hid hI
                  clear hI
                  go_wp2
                  go_roundw
                  case rel => exact ⟨k2 + 1, by omega, by go_num, HI.out, hb⟩
                  case measure => simp [intOf]; omega
            · have hkn : k2 = n := by omega
              subst hkn
              obtain ⟨m, hm, hown⟩ := hI
              rw [List.take_of_length_le (by rw [HL.out]; exact Nat.le_refl _)] at hm hown
              have HO := Lib.hid hown
              have HM := Lib.hid hm
              clear hown hm
              go_wp2
              go_ret
              rw [HE.out]
              exact OwnIds.of HM.out HO.out hb

end Go.Proofs.Ytoihikeeaobemaa
