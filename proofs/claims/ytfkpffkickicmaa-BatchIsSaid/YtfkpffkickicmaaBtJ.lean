/- The walk of the document's Order (layer 5). -/
import Derived.Test.YtfkpffkickicmaaBtI
namespace Go.Proofs.Ytfkpffkickicmaa
open Go.RowKit Go.Sort

theorem wp_append_step {P : Program} {o : Oper} {a : Act} {w w' : World} {v vx v' : Value} {ys : Nat → Option Bool} {K : Act → World → Prop} {Q : Exit → Act → World → Prop} {s x : Operand} {t : TypeId} (hgd : o.guard = none) (ho : o.op = .call { callee := .builtin .append, args := #[s, x], argTypes := #[t, t] })
    (hs : a.eval s = v) (hx : a.eval x = vx) (hrun : (Builtin.append_ #[t, t] o.type #[v, vx]).run P w = .ok v' w') (hk : K (a.put o.dst v') w') :
    if Region.wanted o ys = true then Oper.wp P o a w K Q else K (a.put o.dst undef) w := by
  rw [if_pos (by simp [Region.wanted, hgd])]
  unfold Oper.wp execOp
  simp only [ho, resolve, invoke, builtin, Sem.run_bind, Sem.run_pure, Result.andThen_ok, List.map_toArray, List.map_cons, List.map_nil, hs, hx, hrun]
  exact hk

theorem MkI.on {w wr w' : World} {l : List Id} {v : Value} (h : MkI w l v wr) (hb : RowKit.Below wr.heap.size wr w') : MkI w l v w' := by
  obtain ⟨n, ho, hb0, hn⟩ := h
  exact ⟨n, own_below ho hb, hb0.trans (hb.mono hb0.size), hn⟩

/-- append(owned, y), as a fact on the memory alone. -/
theorem MkI.push {w wb : World} {l : List Id} {v : Value} (hmk : MkI w l v wb) (y : Id) (yf ys : Int) (hyf : (y.f : Int) = yf) (hys : (y.s : Int) = ys) (hn : l.length ≤ 1000000) :
    ∃ v' w', (Builtin.append_ #[33, 33] 33 #[v, .slice (some ⟨wb.heap.size, 0, none⟩) 1 1]).run Try.prog (wb.alloc (.cells #[.int .u8 yf, .int .u64 ys] 46)) = .ok v' w' ∧ MkI w (l ++ [y]) v' w' := by
  subst hyf hys
  obtain ⟨i0, hi, hz0, hz1, hz2⟩ := info_parts Try.infoID
  obtain ⟨n, hown, hb, hln⟩ := hmk
  have hn' : n ≤ 1000000 := by rw [← hln.out]; exact hn
  have hbA : RowKit.Below w.heap.size w (wb.alloc (.cells #[.int .u8 (y.f : Int), .int .u64 (y.s : Int)] 46)) := hb.alloc hb.size _
  have hownA := hown.alloc (.cells #[.int .u8 (y.f : Int), .int .u64 (y.s : Int)] 46)
  obtain ⟨v8, w8, hrun, hown8, hg8, _⟩ := run_append_lstK (P := Try.prog) w.heap.size 2 (by decide) 33 33 46 i0 (.agg #[.int .u8 0, .int .u64 0]) 16 Try.underlying33 hi hz0 hz1 hz2 rfl _ n _ hownA _ _ 1 1 [.int .u8 (y.f : Int), .int .u64 (y.s : Int)] rfl (lies_new wb #[.int .u8 (y.f : Int), .int .u64 (y.s : Int)] 46) (by simp [Value.oneCell']) (by unfold maxLen; omega) (by omega) hbA.size
  refine ⟨v8, w8, hrun, n + 1, ?_, hbA.grown hg8 hbA.size (fun q hq => (hownA.lt q hq).1), by show _ = _; rw [List.length_append, hln.out]; rfl⟩
  rw [flat_append]
  exact hown8

set_option maxHeartbeats 3200000 in
theorem refOrder_any (A : Option Addr) (n c : Nat) (l : List Rn) (w : World) (hl : l.length = n) (hn : n ≤ 100) (h : Lies w w.heap.size A (flat encRn l)) :
    Calls Try.prog 17 #[.slice A n c] w (OwnIds w w.heap.size (orderL l)) := by
  have HCN : Hid (∀ W, RowKit.Below w.heap.size w W → Calls Try.prog 21 #[.slice A n c] W fun e w' => e = .returned (.int .u64 (cntN l)) ∧ RowKit.Below W.heap.size W w') := fun W hW => refCount_any A n c l W hl (by omega) (h.on hW)
  have HLB : Hid (l.all runB = true → cntN l ≤ 4096 → longR l ≤ 4096) := fun h1 h2 => longR_le h1 h2
  generalize hO : orderL l = O
  have HO : Hid (O = if l.all runB = true ∧ cntN l ≤ 4096 then ordTo l (longR l) 0 else []) := by rw [← hO]; rfl
  generalize cntN l = C at HCN HO HLB
  have HL := Lib.hid hl
  clear hl hO
  have hO := World.ownsRow_made (base := w.heap.size) (size := 2) (e := 46) w #[] 0 (Nat.le_refl _) (Nat.zero_le _) rfl
  by_cases hC : 4096 < C
  · have HR : Hid (O = []) := by show O = []; rw [HO.out, if_neg (by omega)]
    clear HO HLB
    go_enter Try.func17, Try.ntmps17
    go_wp2_with fail
    generalize hw0 : World.alloc w _ = w0 at hO ⊢
    have hb0 : RowKit.Below w.heap.size w w0 := by rw [← hw0]; exact (RowKit.Below.refl _ _).alloc (Nat.le_refl _) _
    have hm0 : MkI w [] (.slice (some ⟨w.heap.size, 0, none⟩) 0 0) w0 := ⟨0, hO, hb0, rfl⟩
    clear hw0 hO
    refine (HCN.out w0 hb0).mono ?_
    rintro e w1 ⟨rfl, hb1⟩
    have HM := Lib.hid (hm0.on hb1)
    clear hm0
    go_wp2
    go_ret
    rw [HR.out]
    exact HM.out.owned
  · have hC' : ¬ (4096 : Int) < (C : Int) := by omega
    go_enter Try.func17, Try.ntmps17
    go_wp2_with fail
    generalize hw0 : World.alloc w _ = w0 at hO ⊢
    have hb0 : RowKit.Below w.heap.size w w0 := by rw [← hw0]; exact (RowKit.Below.refl _ _).alloc (Nat.le_refl _) _
    have hm0 : MkI w [] (.slice (some ⟨w.heap.size, 0, none⟩) 0 0) w0 := ⟨0, hO, hb0, rfl⟩
    clear hw0 hO
    refine (HCN.out w0 hb0).mono ?_
    rintro e w1 ⟨rfl, hb1⟩
    have HM1 := Lib.hid (hm0.on hb1)
    clear hm0 hb0 hb1 HCN
    go_wp2
    go_loopw [4, 5, 15] (fun s4 _ s15 wr => ∃ k : Nat, k ≤ n ∧ s15 = .int .i64 k ∧ s4 = .int .u64 (longR (l.take k) : Int) ∧ MkI w [] (.slice (some ⟨w.heap.size, 0, none⟩) 0 0) wr ∧ Hid (∀ x ∈ l.take k, runB x = true)) (fun _ _ s15 _ => n - (intOf s15).toNat)
    case atStart => exact ⟨0, Nat.zero_le _, rfl, rfl, HM1.out, by show ∀ x ∈ l.take 0, _; simp⟩
    case round =>
      clear HM1
      obtain ⟨k, hk, rfl, rfl, hmk, hK⟩ := hrel
      have hb := hmk.below
      by_cases hlt : k < n
      · have hkl : k < l.length := by rw [HL.out]; exact hlt
        obtain ⟨bb, off, rfl, hbl, c0, c1, c2⟩ := (h.below hb).rn hkl
        have hbw : bb < wr.heap.size := Nat.lt_of_lt_of_le hbl hb.size
        have HS := Lib.hid (longR_snoc l k hkl)
        have K1 : Hid (runB l[k] = false → O = []) := fun hq => by
          rw [HO.out, if_neg]
          rintro ⟨h1, _⟩
          have := List.all_eq_true.1 h1 _ (List.getElem_mem hkl)
          rw [hq] at this
          cases this
        have K2 : Hid (runB l[k] = true → ∀ x ∈ l.take (k + 1), runB x = true) := fun hq x hx => by
          rw [List.take_succ_eq_append_getElem hkl, List.mem_append] at hx
          rcases hx with h1 | h1
          · exact hK.out x h1
          · simp at h1; subst h1; exact hq
        have hcc := l[k].hc
        have hr := fun W' => refRun_lit l[k] W'
        generalize l[k] = x at c0 c1 c2 HS hcc K1 K2 hr
        generalize runB x = rb at hr K1 K2
        generalize longR (l.take k) = q at HS
        clear hK
        go_wp2_with fail
        refine (hr _).mono ?_
        rintro e w2 ⟨rfl, hg2⟩
        have HM := Lib.hid (hmk.on hg2.below)
        have d0 := (hg2.below.cell (p := ⟨bb, _, none⟩) hbw).trans c0
        have d1 := (hg2.below.cell (p := ⟨bb, _, none⟩) hbw).trans c1
        have d2' := (hg2.below.cell (p := ⟨bb, _, none⟩) hbw).trans c2
        have d2 : w2.cell? ⟨bb, off + k * 3 + 2, none⟩ = some (.int .u64 (x.c : Int)) := d2'
        clear hmk hg2 c0 c1 c2 hr d2'
        cases rb with
        | false =>
          have HR : Hid (O = []) := K1.out rfl
          go_wp2
          go_ret
          rw [HR.out]
          exact HM.out.owned
        | true =>
          have HN := Lib.hid (K2.out rfl)
          by_cases hqx : q < x.c
          · have HE : Hid (longR (l.take (k + 1)) = x.c) := by show _ = _; rw [HS.out]; omega
            have hd : (q : Int) < (x.c : Int) := by omega
            clear K1 K2 HS
            go_wp2
            go_roundw
            case rel => exact ⟨k + 1, by omega, by go_num, by rw [HE.out], HM.out, HN⟩
            case measure => simp [intOf]; omega
          · have HE : Hid (longR (l.take (k + 1)) = q) := by show _ = _; rw [HS.out]; omega
            have hd : ¬ (q : Int) < (x.c : Int) := by omega
            clear K1 K2 HS
            go_wp2
            go_roundw
            case rel => exact ⟨k + 1, by omega, by go_num, by rw [HE.out], HM.out, HN⟩
            case measure => simp [intOf]; omega
      · have hA : l.take k = l := List.take_of_length_le (by rw [HL.out]; omega)
        rw [hA] at hK ⊢
        have HALL : Hid (l.all runB = true) := List.all_eq_true.2 hK.out
        have HR : Hid (O = ordTo l (longR l) 0) := by show O = _; rw [HO.out, if_pos ⟨HALL.out, by omega⟩]
        have hKb : longR l ≤ 4096 := HLB.out HALL.out (by omega)
        generalize longR l = K at HR hKb
        have HM := Lib.hid hmk
        generalize wr = w5 at HM
        clear hA hmk HALL HLB HO hK
        go_wp2
        go_loopw [3, 6, 7, 43, 44, 45] (fun s3 s6 _ _ _ _ wr => ∃ k : Nat, k ≤ K ∧ s6 = .int .u64 k ∧ MkI w (ordTo l k 0) s3 wr) (fun _ s6 _ _ _ _ _ => K - (intOf s6).toNat)
        case atStart => exact ⟨0, Nat.zero_le _, rfl, HM.out⟩
        case round =>
          clear HM
          obtain ⟨k, hk, rfl, hmk⟩ := hrel
          by_cases hlt : k < K
          · go_wp2
            go_loopw [3, 7, 45] (fun s3 _ s45 ws => ∃ i : Nat, i ≤ n ∧ s45 = .int .i64 i ∧ MkI w (ordTo l k i) s3 ws) (fun _ _ s45 _ => n - (intOf s45).toNat)
            case atStart => exact ⟨0, Nat.zero_le _, rfl, hmk⟩
            case round =>
              clear hmk
              obtain ⟨i, hi, rfl, hmk⟩ := hrel
              by_cases hlt2 : i < n
              · have hil : i < l.length := by rw [HL.out]; exact hlt2
                have hb := hmk.below
                have hcell : Hid (∀ W : World, RowKit.Below w.heap.size w W → ∃ bb off, A = some ⟨bb, off, none⟩ ∧ bb < w.heap.size ∧ W.cell? ⟨bb, off + i * 3, none⟩ = some (.int .u8 (l[i].f : Int)) ∧ W.cell? ⟨bb, off + i * 3 + 1, none⟩ = some (.int .u64 (l[i].a : Int)) ∧ W.cell? ⟨bb, off + i * 3 + 1 + 1, none⟩ = some (.int .u64 (l[i].c : Int))) := fun W hW => (h.below hW).rn hil
                obtain ⟨bb, off, rfl, hbl, -⟩ := hcell.out _ hb
                have d0 : ∀ W : World, RowKit.Below w.heap.size w W → W.cell? ⟨bb, off + i * 3, none⟩ = some (.int .u8 (l[i].f : Int)) := fun W hW => by
                  obtain ⟨b', o', he, _, q0, _, _⟩ := hcell.out W hW
                  injection he with he; injection he with e1 e2; subst e1 e2; exact q0
                have d1 : ∀ W : World, RowKit.Below w.heap.size w W → W.cell? ⟨bb, off + i * 3 + 1, none⟩ = some (.int .u64 (l[i].a : Int)) := fun W hW => by
                  obtain ⟨b', o', he, _, _, q1, _⟩ := hcell.out W hW
                  injection he with he; injection he with e1 e2; subst e1 e2; exact q1
                have d2 : ∀ W : World, RowKit.Below w.heap.size w W → W.cell? ⟨bb, off + i * 3 + 2, none⟩ = some (.int .u64 (l[i].c : Int)) := fun W hW => by
                  obtain ⟨b', o', he, _, _, _, q2⟩ := hcell.out W hW
                  injection he with he; injection he with e1 e2; subst e1 e2; exact q2
                have K1 : Hid (k < l[i].c → ordTo l k (i + 1) = ordTo l k i ++ [idAt l[i] k]) := fun hq => ordTo_in hil hq
                have K2 : Hid (¬ k < l[i].c → ordTo l k (i + 1) = ordTo l k i) := fun hq => ordTo_out hil hq
                have hlen : Hid ((ordTo l k i).length ≤ 1000000) := Nat.le_trans (ordTo_len HL.out hn (by omega)) (by omega)
                clear hcell
                generalize l[i] = x at d0 d1 d2 K1 K2
                have es : IntKind.u64.wrap ((x.a : Int) + (k : Int)) = ((idAt x k).s : Int) := by
                  show _ = (((x.a + k) % 18446744073709551616 : Nat) : Int)
                  rw [IntKind.wrap_u64]; omega
                have e2 := d2 _ hb
                by_cases hkc : k < x.c
                · have HE := Lib.hid (K1.out hkc)
                  generalize ordTo l k i = cur at hmk HE hlen
                  generalize hys : ((idAt x k).s : Int) = sv at es
                  have hbd : RowKit.Below w.heap.size w wr.drew := hb.drew
                  have hmd : MkI w cur u3 wr.drew := hmk.on ((RowKit.Below.refl _ _).drew)
                  obtain ⟨v8, w8, hrun, hm8⟩ := hmd.push (idAt x k) (x.f : Int) sv rfl hys hlen.out
                  have hbSA : RowKit.Below w.heap.size w (wr.drew.alloc (.cells #[.int .u8 (x.f : Int), .int .u64 sv] 46)) := hbd.alloc hbd.size _
                  have hbS8 : RowKit.Below w.heap.size w w8 := hm8.below
                  rw [← HE.out] at hm8
                  have HI8 := Lib.hid hm8
                  have hz : (k : Int) < (x.c : Int) := by omega
                  clear hys K1 K2 hmk hmd HE hm8 d2
                  go_wp2_with fail
                  refine wp_region_held_drew (S := fun W => RowKit.Below w.heap.size w W) (by kernel_rfl) hbd (fun hHeld => ?_)
                  refine wpAnyH_takeAt (i := 0) (d := 55) (v := ?_) rfl rfl (by kernel_rfl) (by kernel_rfl) (by kernel_rfl) (fun _ _ _ h => h) (Or.inl ⟨by rfl, ?_⟩) hHeld ?_
                  rotate_left
                  · (intro _ hSw; go_simp; try with_reducible rfl)
                  simp only [List.setIfInBounds_toArray, List.set_cons_zero, List.set_cons_succ]
                  refine wpAnyH_takeAt (i := 1) (d := 56) (v := ?_) rfl rfl (by kernel_rfl) (by kernel_rfl) (by kernel_rfl) (fun _ _ _ h => h) (Or.inl ⟨by rfl, ?_⟩) hHeld ?_
                  rotate_left
                  · (intro _ hSw; go_simp; try with_reducible rfl)
                  simp only [List.setIfInBounds_toArray, List.set_cons_zero, List.set_cons_succ]
                  refine wpAnyH_takeAt (i := 2) (d := 57) (v := ?_) rfl rfl (by kernel_rfl) (by kernel_rfl) (by kernel_rfl) (fun _ _ _ h => h) (Or.inl ⟨by rfl, ?_⟩) hHeld ?_
                  rotate_left
                  · (intro _ hSw; go_simp; try with_reducible rfl)
                  simp only [List.setIfInBounds_toArray, List.set_cons_zero, List.set_cons_succ]
                  refine wpAnyH_takeAt (i := 3) (d := 58) (v := ?_) rfl rfl (by kernel_rfl) (by kernel_rfl) (by kernel_rfl) (fun _ _ _ h => h) (Or.inl ⟨by rfl, ?_⟩) hHeld ?_
                  rotate_left
                  · (intro _ hSw; go_simp; try with_reducible rfl)
                  simp only [List.setIfInBounds_toArray, List.set_cons_zero, List.set_cons_succ]
                  refine wpAnyH_takeAt (i := 4) (d := 59) (v := ?_) rfl rfl (by kernel_rfl) (by kernel_rfl) (by kernel_rfl) (fun _ _ _ h => h) (Or.inl ⟨by rfl, ?_⟩) hHeld ?_
                  rotate_left
                  · (intro _ hSw; go_simp; try with_reducible rfl)
                  simp only [List.setIfInBounds_toArray, List.set_cons_zero, List.set_cons_succ]
                  refine wpAnyH_takeAt (i := 5) (d := 60) (v := ?_) rfl rfl (by kernel_rfl) (by kernel_rfl) (by kernel_rfl) (fun _ _ _ h => h) (Or.inl ⟨by rfl, ?_⟩) hHeld ?_
                  rotate_left
                  · (intro _ hSw; go_simp; try with_reducible rfl)
                  simp only [List.setIfInBounds_toArray, List.set_cons_zero, List.set_cons_succ]
                  refine wpAnyH_takeAt (i := 6) (d := 61) (v := ?_) rfl rfl (by kernel_rfl) (by kernel_rfl) (by kernel_rfl) (fun _ _ _ h => h) (Or.inl ⟨by rfl, ?_⟩) hHeld ?_
                  rotate_left
                  · (intro _ hSw; go_simp; try with_reducible rfl)
                  simp only [List.setIfInBounds_toArray, List.set_cons_zero, List.set_cons_succ]
                  refine wpAnyH_takeAt (i := 7) (d := 62) (v := ?_) rfl rfl (by kernel_rfl) (by kernel_rfl) (by kernel_rfl) (fun _ _ _ h => h) (Or.inl ⟨by rfl, ?_⟩) hHeld ?_
                  rotate_left
                  · (intro _ hSw; go_simp; try with_reducible rfl)
                  simp only [List.setIfInBounds_toArray, List.set_cons_zero, List.set_cons_succ]
                  refine wpAnyH_takeAt (i := 8) (d := 63) (v := ?_) rfl rfl (by kernel_rfl) (by kernel_rfl) (by kernel_rfl) (fun _ _ _ h => h) (Or.inl ⟨by rfl, ?_⟩) hHeld ?_
                  rotate_left
                  · (intro _ hSw; go_simp; try with_reducible rfl)
                  simp only [List.setIfInBounds_toArray, List.set_cons_zero, List.set_cons_succ]
                  refine wpAnyH_takeAt (i := 9) (d := 64) (v := ?_) rfl rfl (by kernel_rfl) (by kernel_rfl) (by kernel_rfl) (fun _ _ _ h => h) (Or.inl ⟨by rfl, ?_⟩) hHeld ?_
                  rotate_left
                  · (intro _ hSw; go_simp; try with_reducible rfl)
                  simp only [List.setIfInBounds_toArray, List.set_cons_zero, List.set_cons_succ]
                  refine wpAnyH_takeAt (i := 10) (d := 65) (v := ?_) rfl rfl (by kernel_rfl) (by kernel_rfl) (by kernel_rfl) (fun _ _ _ h => h) (Or.inl ⟨by rfl, ?_⟩) hHeld ?_
                  rotate_left
                  · (intro _ hSw; go_simp; try with_reducible rfl)
                  simp only [List.setIfInBounds_toArray, List.set_cons_zero, List.set_cons_succ]
                  refine wpAnyH_takeAt (i := 11) (d := 66) (v := ?_) rfl rfl (by kernel_rfl) (by kernel_rfl) (by kernel_rfl) (fun _ _ _ h => h) (Or.inl ⟨by rfl, ?_⟩) hHeld ?_
                  rotate_left
                  · (intro _ hSw; go_simp; try with_reducible rfl)
                  simp only [List.setIfInBounds_toArray, List.set_cons_zero, List.set_cons_succ]
                  refine wpAnyH_takeAt (i := 12) (d := 67) (v := ?_) rfl rfl (by kernel_rfl) (by kernel_rfl) (by kernel_rfl) (fun _ _ _ h => h) (Or.inl ⟨by rfl, ?_⟩) hHeld ?_
                  rotate_left
                  · (intro _ hSw; go_simp; try with_reducible rfl)
                  simp only [List.setIfInBounds_toArray, List.set_cons_zero, List.set_cons_succ]
                  refine wpAnyH_takeAt (i := 13) (d := 68) (v := ?_) rfl rfl (by kernel_rfl) (by kernel_rfl) (by kernel_rfl) (fun _ _ _ h => h) (Or.inl ⟨by rfl, ?_⟩) hHeld ?_
                  rotate_left
                  · (intro _ hSw; go_simp; try with_reducible rfl)
                  simp only [List.setIfInBounds_toArray, List.set_cons_zero, List.set_cons_succ]
                  refine wpAnyH_ready (rs := [14]) (by kernel_rfl) (by simp) ?_
                  refine AllReadyH.cons rfl (fun K hK => ?_) AllReadyH.nil
                  go_simp
                  refine hK.out _ _ hbSA (fun hHeld => ?_)
                  clear hK K
                  refine wpAnyH_ready (rs := [15]) (by kernel_rfl) (by simp) ?_
                  refine AllReadyH.cons rfl (fun K hK => ?_) AllReadyH.nil
                  refine wp_append_step (s := .tmp 55) (x := .tmp 69) (t := 33) rfl rfl rfl rfl hrun ?_
                  go_simp
                  refine hK.out _ _ hbS8 (fun hHeld => ?_)
                  clear hK K
                  refine wpAnyH_takeAt (i := 16) (d := 3) (v := ?_) rfl rfl (by kernel_rfl) (by kernel_rfl) (by kernel_rfl) (fun _ _ _ h => h) (Or.inl ⟨by rfl, ?_⟩) hHeld ?_
                  rotate_left
                  · (intro _ hSw; go_simp; try with_reducible rfl)
                  simp only [List.setIfInBounds_toArray, List.set_cons_zero, List.set_cons_succ]
                  refine wpAnyH_done (by kernel_rfl) ?_ _
                  clear d0 d1
                  go_wp2
                  go_roundw
                  case rel => exact ⟨i + 1, by omega, by go_num, HI8.out⟩
                  case measure => simp [intOf]; omega
                · have HE := Lib.hid (K2.out hkc)
                  rw [← HE.out] at hmk
                  have HM := Lib.hid hmk
                  clear hmk K1 K2 HE d0 d1 d2
                  go_wp2
                  go_roundw
                  case rel => exact ⟨i + 1, by omega, by go_num, HM.out⟩
                  case measure => simp [intOf]; omega
              · have hW := ordTo_wrap (l := l) (k := k) (i := i) (by rw [HL.out]; omega)
                rw [hW] at hmk
                have HM := Lib.hid hmk
                clear hmk hW
                go_wp2
                go_roundw
                case rel => exact ⟨k + 1, by omega, by go_num, HM.out⟩
                case measure => simp [intOf]; omega
          · have hkK : k = K := by omega
            subst hkK
            have HM := Lib.hid hmk
            clear hmk
            go_wp2
            go_ret
            rw [HR.out]
            exact HM.out.owned

end Go.Proofs.Ytfkpffkickicmaa
