/- The document's Get. -/
import Derived.Test.YtbfjfidodpgohaaWgi
import Derived.Deep.DeepCutAuto

namespace Go.Proofs.Ytbfjfidodpgohaa
open Go.RowKit Go.Sort

theorem fldS_ne {k : Nat} (h : isKind k = true) : ¬ (fldS k).toList = [] := by
  rw [ByteArray.toList_eq]
  have hk' : 1 ≤ k ∧ k ≤ 10 := by simpa [isKind] using h
  have hc : k = 1 ∨ k = 2 ∨ k = 3 ∨ k = 4 ∨ k = 5 ∨ k = 6 ∨ k = 7 ∨ k = 8 ∨ k = 9 ∨ k = 10 := by omega
  clear hk' h
  rcases hc with rfl | rfl | rfl | rfl | rfl | rfl | rfl | rfl | rfl | rfl <;> decide

set_option maxRecDepth 100000 in
set_option maxHeartbeats 16000000 in
theorem refGet_any (A : Option Addr) (n c : Nat) (l : List UInt8) (w : World) (hl : l.length = n) (hn : n ≤ 4000) (hc : n ≤ c) (hcm : c ≤ maxLen) (hL : Lies w w.heap.size A (bvs l)) :
    Calls Try.prog 9 #[.slice A n c] w (RefGot w (getOf l)) := by
  have hST : Hid (∀ W0, World.alloc (World.alloc w (.cells zeroCells 33)) (.cells zeroCells 33) = W0 → GtZ w W0) := fun W0 h => GtZ.start h
  have HFit : Hid (∀ W, GtZ w W → Calls Try.prog 22 #[.slice A n c] W (RefFitted W w.heap.size l)) := fun W h => refFits_any w.heap.size A n c l W hl (by omega) hc hcm h.below.size (hL.below h.below)
  have hfl : (fitsOf l).1.length ≤ 4000 := by
    unfold fitsOf
    split
    · simp
    split
    · simp only [List.length_take]; omega
    · simp
  have ZO := Lib.hid zero_one
  unfold RefFitted at HFit
  unfold getOf
  generalize fitsOf l = ft at hfl HFit ⊢
  clear hl hn hc hcm hL
  obtain ⟨fa, fe⟩ := ft
  dsimp only at hfl HFit ⊢
  by_cases h1 : fe = 0
  · subst h1
    rw [if_neg (by simp)]
    generalize hres : (if (headRd fa).2.2 ≠ 0 then (Fr.zero, (headRd fa).2.2) else bodyOf (headRd fa).1 (headRd fa).2.1) = res
    have HRes := Lib.hid hres
    clear hres
    go_enter Try.func9, Try.ntmps9
    go_wp2_with (first | (refine store_frame_new (.tmp 4) (.tmp 15) rfl rfl rfl rfl rfl ZO.out ?_) | fail)
    generalize hw0 : World.alloc (World.alloc w _) _ = W0
    have hZ0 := hST.out W0 hw0
    have HZ0 := Lib.hid hZ0
    clear hw0 hST
    refine (HFit.out W0 hZ0).mono ?_
    rintro e w1 ⟨A1, n1, c1, rfl, hn1, hc1, hL1, hb1⟩
    have HZ1 := Lib.hid (hZ0.on hb1)
    have HRA : Hid (RAt w1 w.heap.size (fa, 0) (.agg #[.slice A1 n1 c1, .int .i64 0])) := ⟨A1, n1, c1, rfl, hn1.out, hc1, hL1⟩
    clear hZ0 HZ0 HFit hn1 hc1 hL1 hb1
    have hrl := rnum_left fa 0 top
    have HC : Hid (∀ W, RowKit.Below w1.heap.size w1 W → Calls Try.prog 23 #[.agg #[.slice A1 n1 c1, .int .i64 0], .int .u64 18446744073709551615] W (NumDone w.heap.size (rnum fa 0 top).1 ((rnum fa 0 top).2.1, (rnum fa 0 top).2.2) W)) := fun W h => numDone top (HRA.out.below (h.mono HZ1.out.below.size)) (Nat.le_trans HZ1.out.below.size h.size) hfl
    unfold headRd at HRes
    generalize rnum fa 0 top = rr at HC HRes hrl
    obtain ⟨told, p, er⟩ := rr
    dsimp only at HC HRes hrl
    have hpl : p.length ≤ 4000 := Nat.le_trans hrl hfl
    have HB1 : Hid (RowKit.Below w1.heap.size w1 (w1.alloc (.cells #[.slice A1 n1 c1, .int .i64 0] 59))) := (RowKit.Below.refl _ _).alloc (Nat.le_refl _) _
    clear hrl HRA
    go_wp2_with fail
    refine (HC.out _ HB1.out).mono ?_
    rintro e w2 ⟨cs2, rfl, hr2, -, -, hb2⟩
    obtain ⟨A2, n2, c2, ecs, hl2, hc2, hL2⟩ := hr2
    injection ecs with ecs
    subst ecs
    have hZ2 := HZ1.out.on (HB1.out.trans (hb2.mono HB1.out.size))
    have hbV : RowKit.Below w2.heap.size w2 (w2.alloc (.cells #[.slice A2 n2 c2, .int .i64 (er : Int)] 59)) := (RowKit.Below.refl _ _).alloc (Nat.le_refl _) _
    have HZ := Lib.hid (hZ2.on hbV)
    have hgR := hZ2.lt
    have HRd : Hid ((w2.alloc (.cells #[.slice A2 n2 c2, .int .i64 (er : Int)] 59)).heap[w2.heap.size]? = some (.cells #[.slice A2 n2 c2, .int .i64 (er : Int)] 59 (0, 0))) := heap_alloc_new _ _
    have HL2 : Hid (Lies (w2.alloc (.cells #[.slice A2 n2 c2, .int .i64 (er : Int)] 59)) w.heap.size A2 (bvs p)) := hL2.below (hbV.mono hZ2.below.size)
    dsimp only at hl2
    have hn2 : n2 ≤ 4000 := by omega
    have HLN := Lib.hid hl2
    clear HC HB1 hb2 HZ1 hZ2 hbV hl2 hL2
    go_upto_region 7 with fail
    generalize w2.alloc (.cells #[.slice A2 n2 c2, .int .i64 (er : Int)] 59) = V at HZ HRd HL2 ⊢
    generalize w2.heap.size = gR at HZ HRd hgR ⊢
    have y0 := cell_of_row V gR 0 _ _ _ HRd.out
    have y1 := cell_of_row V gR 1 _ _ _ HRd.out
    have fy := row_frozen HRd.out
    simp only [List.getElem?_toArray, List.getElem?_cons_zero, List.getElem?_cons_succ] at y0 y1
    have hgV : gR < V.heap.size := (Array.getElem?_eq_some_iff.1 HRd.out).1
    by_cases he : er = 0
    · subst he
      have hres : (if (headRd2 told p).2.2 ≠ 0 then (Fr.zero, (headRd2 told p).2.2) else bodyOf (headRd2 told p).1 (headRd2 told p).2.1) = res := by
        have := HRes.out
        rw [if_neg (show ¬ (0 : Nat) ≠ 0 by simp)] at this
        exact this
      clear HRes
      have hpn := HLN.out
      by_cases h2 : p.length + 4 < told
      · have e2 : (Fr.zero, 2) = res := by rw [← hres]; unfold headRd2; rw [if_pos h2]; rfl
        subst e2
        have q1 : (n2 : Int) + 4 < (told : Int) := by omega
        clear h2 hpn hpl hres
        go_upto_region 11 with fail
        go_step
        refine load_frame (.tmp 4) rfl HZ.out.z1 rfl ?_
        refine store_frame (.tmp 2) (.tmp 57) rfl rfl HZ.out.z0 rfl rfl ZO.out ?_
        simp only [Act.put, List.setIfInBounds_toArray, List.set_cons_zero, List.set_cons_succ]
        go_step
        go_step
        go_step
        go_step
        go_step
        go_step
        go_step
        have HE := Lib.hid (HZ.out.err 2)
        refine bodyPost_ret (results_cell2 rfl _ _ w.heap.size zeroCells rfl (load_row33 HE.out.1 rfl)) rfl ?_
        exact HE.out.2
      by_cases h3 : told < p.length + 4
      · have e2 : (Fr.zero, 4) = res := by rw [← hres]; unfold headRd2; rw [if_neg h2, if_pos h3]; rfl
        subst e2
        have q1 : ¬ (n2 : Int) + 4 < (told : Int) := by omega
        have q2 : (told : Int) < (n2 : Int) + 4 := by omega
        have q3 : ((n2 : Int) + 4 == (told : Int)) = false := by rw [beq_eq_false_iff_ne]; omega
        clear h2 h3 hpn hpl hres
        go_upto_region 13 with fail
        go_step
        refine load_frame (.tmp 4) rfl HZ.out.z1 rfl ?_
        refine store_frame (.tmp 2) (.tmp 61) rfl rfl HZ.out.z0 rfl rfl ZO.out ?_
        simp only [Act.put, List.setIfInBounds_toArray, List.set_cons_zero, List.set_cons_succ]
        go_step
        go_step
        go_step
        go_step
        go_step
        go_step
        go_step
        have HE := Lib.hid (HZ.out.err 4)
        refine bodyPost_ret (results_cell2 rfl _ _ w.heap.size zeroCells rfl (load_row33 HE.out.1 rfl)) rfl ?_
        exact HE.out.2
      have q1 : ¬ (n2 : Int) + 4 < (told : Int) := by omega
      have q2 : ¬ (told : Int) < (n2 : Int) + 4 := by omega
      have q3 : ((n2 : Int) + 4 == (told : Int)) = true := by rw [beq_iff_eq]; omega
      by_cases h4 : p.length < 4
      · have e2 : (Fr.zero, 2) = res := by rw [← hres]; unfold headRd2; rw [if_neg h2, if_neg h3, if_pos h4]; rfl
        subst e2
        have q4 : (n2 : Int) < 4 := by omega
        clear h2 h3 h4 hpn hpl hres
        go_upto_region 11 with fail
        go_step
        refine load_frame (.tmp 4) rfl HZ.out.z1 rfl ?_
        refine store_frame (.tmp 2) (.tmp 57) rfl rfl HZ.out.z0 rfl rfl ZO.out ?_
        simp only [Act.put, List.setIfInBounds_toArray, List.set_cons_zero, List.set_cons_succ]
        go_step
        go_step
        go_step
        go_step
        go_step
        go_step
        go_step
        have HE := Lib.hid (HZ.out.err 2)
        refine bodyPost_ret (results_cell2 rfl _ _ w.heap.size zeroCells rfl (load_row33 HE.out.1 rfl)) rfl ?_
        exact HE.out.2
      have q4 : ¬ (n2 : Int) < 4 := by omega
      obtain ⟨x0, x1, x2, x3, t, hpx⟩ : ∃ x0 x1 x2 x3 t, p = x0 :: x1 :: x2 :: x3 :: t := by
        match p, h4 with
        | a :: b :: c :: d :: t, _ => exact ⟨a, b, c, d, t, rfl⟩
        | [_, _, _], h => simp at h
        | [_, _], h => simp at h
        | [_], h => simp at h
        | [], h => simp at h
      subst hpx
      obtain ⟨b, off, rfl, hb, hcell⟩ := HL2.out (by simp [bvs])
      have k0 : V.cell? ⟨b, off, none⟩ = some (.int .u8 (x0.toNat : Int)) := hcell 0 _ rfl
      have k1 : V.cell? ⟨b, off + 1, none⟩ = some (.int .u8 (x1.toNat : Int)) := hcell 1 _ rfl
      have k2 : V.cell? ⟨b, off + 2, none⟩ = some (.int .u8 (x2.toNat : Int)) := hcell 2 _ rfl
      have k3 : V.cell? ⟨b, off + 3, none⟩ = some (.int .u8 (x3.toNat : Int)) := hcell 3 _ rfl
      have hbV : b < V.heap.size := by have := HZ.out.lt; omega
      have q5 : 4 ≤ n2 := by simp only [List.length_cons] at hpn; omega
      clear hcell
      by_cases hx0 : x0 = 1
      · have hd2 : headRd2 told (x0 :: x1 :: x2 :: x3 :: t) = ((x1.toNat, x2.toNat, x3.toNat), t, 0) := by
          unfold headRd2
          rw [if_neg h2, if_neg h3, if_neg h4, if_neg (show ¬ (x0 :: x1 :: x2 :: x3 :: t).getD 0 0 ≠ 1 from fun h => h hx0)]
          rfl
        have hbod : bodyOf (x1.toNat, x2.toNat, x3.toNat) t = res := by
          rw [hd2] at hres
          exact hres
        clear hd2
        subst hx0
        have k0 : V.cell? ⟨b, off, none⟩ = some (.int .u8 1) := k0
        have HFl : Hid (∀ V, Calls Try.prog 24 #[.int .u8 (x1.toNat : Int)] V fun e w' => e = .returned (.string (fldS x1.toNat)) ∧ V = w') := fun V => fields_any x1.toNat V x1.toNat_lt
        clear h2 h3 h4 hres hpl
        by_cases hk : isKind x1.toNat = true
        · go_wp2_with fail
          refine (HFl.out _).mono ?_
          rintro e _ ⟨rfl, rfl⟩
          have hS1 : ¬ (fldS x1.toNat).toList = [] := fldS_ne hk
          have hS2 : (fldS x1.toNat).toList.isEmpty = false := by cases h : (fldS x1.toNat).toList with | nil => exact absurd h hS1 | cons => rfl
          have hS3 : ((fldS x1.toNat).toList == []) = false := by rw [beq_eq_false_iff_ne]; exact hS1
          generalize hS : fldS x1.toNat = S at hS1 hS2 hS3
          have HSS := Lib.hid hS
          clear hS
          have hfo : fieldsOf (x1.toNat, x2.toNat, x3.toNat) t = foldT S.data.toList (bareFr (x1.toNat, x2.toNat, x3.toNat), (t, 0)) := by
            unfold fieldsOf
            rw [vAll_fold (bareFr (x1.toNat, x2.toNat, x3.toNat)) (t, 0) hk, ← HSS.out]
            rfl
          have HLet : Hid (∀ c ∈ S.data.toList, c ∈ letters) := by rw [← HSS.out]; exact fldS_letters _
          have hS6 : S.size ≤ 6 := by rw [← HSS.out]; exact fldS_size _
          have hbod2 : (if endOf (foldT S.data.toList (bareFr (x1.toNat, x2.toNat, x3.toNat), (t, 0))).2.2 (foldT S.data.toList (bareFr (x1.toNat, x2.toNat, x3.toNat), (t, 0))).2.1.length ≠ 0 then (Fr.zero, endOf (foldT S.data.toList (bareFr (x1.toNat, x2.toNat, x3.toNat), (t, 0))).2.2 (foldT S.data.toList (bareFr (x1.toNat, x2.toNat, x3.toNat), (t, 0))).2.1.length) else if mayF (foldT S.data.toList (bareFr (x1.toNat, x2.toNat, x3.toNat), (t, 0))).1 = false then (Fr.zero, 3) else ((foldT S.data.toList (bareFr (x1.toNat, x2.toNat, x3.toNat), (t, 0))).1, 0)) = res := by
            rw [← hbod]
            unfold bodyOf
            rw [if_neg (show ¬ isKind x1.toNat = false by rw [hk]; decide), hfo]
          have HBod := Lib.hid hbod2
          have htl : t.length + 4 = n2 := by simpa using hpn
          have hFok : ∀ k, (foldT (S.data.toList.take k) (bareFr (x1.toNat, x2.toNat, x3.toNat), (t, 0))).1.Ok ∧ (foldT (S.data.toList.take k) (bareFr (x1.toNat, x2.toNat, x3.toNat), (t, 0))).2.1.length ≤ 4000 := fun k => foldT_ok _ _ (bare_ok x1.toNat_lt x2.toNat_lt x3.toNat_lt) (by show t.length ≤ 4000; omega)
          have HOk := Lib.hid hFok
          have HST := Lib.hid htl
          have i1 : 1 < n2 := by omega
          have i2 : 2 < n2 := by omega
          have i3 : 3 < n2 := by omega
          have hc24 : 4 ≤ c2 := by omega
          clear hbod hbod2 hfo hpn htl hFok hfl hk HFl
          go_upto_region 21 with (first | (refine store_frame_new (.tmp 13) (.tmp 76) rfl rfl rfl rfl rfl ZO.out ?_) | fail)
          clear hS1 hS2 hS3 q1 q2 q3 q4 k0 y1
          generalize hV5 : World.alloc V _ = V5
          obtain ⟨hbA, hfr5⟩ := alloc_facts hV5
          clear hV5
          have hZ5 := HZ.out.on hbA
          have hrd5 := (hbA.block gR hgV).trans HRd.out
          have hL5 := HL2.out.below (hbA.mono HZ.out.below.size)
          have kk1 := (hbA.cell (p := ⟨b, off + 1, none⟩) hbV).trans k1
          have kk2 := (hbA.cell (p := ⟨b, off + 2, none⟩) hbV).trans k2
          have kk3 := (hbA.cell (p := ⟨b, off + 3, none⟩) hbV).trans k3
          clear hbA k1 k2 k3 y0 fy HZ HRd HL2 HLN
          generalize V.heap.size = gF at hfr5 hgV hbV ⊢
          have hbR : b < gR := by omega
          have f0 := cell_of_row V5 gF 0 _ _ _ hfr5
          have f1 := cell_of_row V5 gF 1 _ _ _ hfr5
          have f2 := cell_of_row V5 gF 2 _ _ _ hfr5
          have ff := row_frozen hfr5
          have y0 := cell_of_row V5 gR 0 _ _ _ hrd5
          have fy := row_frozen hrd5
          simp only [zeroCells, List.getElem?_toArray, List.getElem?_cons_zero, List.getElem?_cons_succ] at f0 f1 f2 y0
          have HGS : Hid (∀ (A3 : Option Addr) (n3 c3 : Nat), t.length = n3 → n3 ≤ c3 → Lies V5 w.heap.size A3 (bvs t) → ∃ cs rs, GtS w gR gF (bareFr (x1.toNat, x2.toNat, x3.toNat)) (t, 0) cs rs ((((V5.setCell ⟨gF, 0, none⟩ (.int .u8 (x1.toNat : Int))).setCell ⟨gF, 1, none⟩ (.int .u8 (x2.toNat : Int))).setCell ⟨gF, 2, none⟩ (.int .u8 (x3.toNat : Int))).setCell ⟨gR, 0, none⟩ (.slice A3 n3 c3))) :=
            fun A3 n3 c3 e1 e2 e3 => GtS.start hZ5 ⟨hgR, hgV⟩ hrd5 hfr5 _ _ _ t A3 n3 c3 e1 e2 e3
          have HL5 := Lib.hid hL5
          clear hZ5 hrd5 hfr5 hL5
          go_upto_region 24 with fail
          go_cut [] (fun wx => ∃ cs rs, GtS w gR gF (bareFr (x1.toNat, x2.toNat, x3.toNat)) (t, 0) cs rs wx)
          case first =>
            have hst := HST.out
            by_cases hc4 : c2 = 4
            · have hn4 : n2 = 4 := by omega
              have ht : t = [] := List.eq_nil_of_length_eq_zero (by omega)
              subst hc4 hn4 ht
              have HGE := Lib.hid (HGS.out (some ⟨b, off, none⟩) 0 0 rfl (Nat.le_refl _) Lies.nil)
              clear hst HST HGS
              go_wp2_with fail
              go_meet
              exact HGE.out
            · have HGE := Lib.hid (HGS.out (some ⟨b, off + 4, none⟩) (n2 - 4) (c2 - 4) (by omega) (by omega) (lies_cut4 HL5.out))
              clear hst HST HGS
              go_wp2_with fail
              go_meet
              exact HGE.out
          case rest =>
            obtain ⟨cs0, rs0, hG0⟩ := hcut
            have HG0 := Lib.hid hG0
            clear hG0 HGS HL5 HST kk1 kk2 kk3 f0 f1 f2 ff y0 fy
            generalize hp0 : (bareFr (x1.toNat, x2.toNat, x3.toNat), ((t, 0) : Rs)) = p0 at HBod HOk
            have HG1 : Hid (GtS w gR gF (foldT (S.data.toList.take 0) p0).1 (foldT (S.data.toList.take 0) p0).2 cs0 rs0 wc) := by rw [List.take_zero, ← hp0]; exact HG0.out
            clear hp0 HG0 HSS
            go_wp2
            go_loopw [14] (fun s14 wr => ∃ (i : Nat) (cs rs : Array Value), i ≤ S.size ∧ s14 = .int .i64 i ∧ GtS w gR gF (foldT (S.data.toList.take i) p0).1 (foldT (S.data.toList.take i) p0).2 cs rs wr) (fun s14 _ => S.size - (intOf s14).toNat)
            case atStart => exact ⟨0, cs0, rs0, Nat.zero_le _, rfl, HG1.out⟩
            case round =>
              obtain ⟨i, cs, rs, hi, rfl, hG⟩ := hrel
              by_cases hlt : i < S.size
              · have hmem : S[i] ∈ letters := HLet.out S[i] (List.getElem_mem (l := S.data.toList) (n := i) (by simpa using hlt))
                have hok := HOk.out i
                have HT : Hid (∀ W, RowKit.Below wr.heap.size wr W → Calls Try.prog 25 #[.agg cs, .int .u8 (S[i].toNat : Int), .agg rs] W (TakeGot W w.heap.size (DG w gF) (takeF S[i] ((foldT (S.data.toList.take i) p0).1, (foldT (S.data.toList.take i) p0).2)))) := fun W hW => by
                  have hGW := hG.on hW
                  exact take_any S[i] hmem _ _ cs rs W w.heap.size (DG w gF) hGW.good hGW.rat hGW.z.below.size (fun k hk => ⟨hk.1, Nat.lt_of_le_of_lt hk.2 (Array.getElem?_eq_some_iff.1 hGW.fr).1⟩) hok.2
                have HNX : Hid (takeF S[i] ((foldT (S.data.toList.take i) p0).1, (foldT (S.data.toList.take i) p0).2) = foldT (S.data.toList.take (i + 1)) p0) := by
                  show _ = _
                  rw [List.take_succ_eq_append_getElem (by simpa using hlt), foldT_snoc]
                  rfl
                have HGD := Lib.hid (hG.on ((RowKit.Below.refl _ wr).drew))
                have HBD : Hid (RowKit.Below wr.heap.size wr wr.drew) := (RowKit.Below.refl _ _).drew
                clear hG hok hmem
                generalize takeF S[i] ((foldT (S.data.toList.take i) p0).1, (foldT (S.data.toList.take i) p0).2) = px at HT HNX
                generalize (foldT (S.data.toList.take i) p0).1 = Fi at HGD
                generalize (foldT (S.data.toList.take i) p0).2 = si at HGD
                go_upto_region 28 with fail
                refine wp_region_held_drew (S := fun _ => True) (by kernel_rfl) trivial (fun hHeld => ?_)
                generalize wr.drew = W0 at HGD HBD ⊢
                refine wpAnyH_takeAt (i := 1) (d := 103) (v := ?_) rfl rfl (by kernel_rfl) (by kernel_rfl) (by kernel_rfl) (fun _ _ _ h => h) (Or.inl ⟨by rfl, ?_⟩) hHeld ?_
                rotate_left
                · (intro _ hSw; go_simp; try with_reducible rfl)
                simp only [List.setIfInBounds_toArray, List.set_cons_zero, List.set_cons_succ]
                refine wpAnyH_takeAt (i := 2) (d := 104) (v := ?_) rfl rfl (by kernel_rfl) (by kernel_rfl) (by kernel_rfl) (fun _ _ _ h => h) (Or.inl ⟨by rfl, ?_⟩) hHeld ?_
                rotate_left
                · (intro _ hSw; go_simp; try with_reducible rfl)
                simp only [List.setIfInBounds_toArray, List.set_cons_zero, List.set_cons_succ]
                refine wpAnyH_takeAt (i := 3) (d := 105) (v := ?_) rfl rfl (by kernel_rfl) (by kernel_rfl) (by kernel_rfl) (fun _ _ _ h => h) (Or.inl ⟨by rfl, ?_⟩) hHeld ?_
                rotate_left
                · (intro _ hSw; go_simp; try with_reducible rfl)
                simp only [List.setIfInBounds_toArray, List.set_cons_zero, List.set_cons_succ]
                refine wpAnyH_ready (rs := [0, 4]) (by kernel_rfl) (by simp) ?_
                refine AllReadyH.cons rfl (fun K hK => ?_) (AllReadyH.cons rfl (fun K hK => ?_) AllReadyH.nil)
                · refine wp_load_step (x := .tmp 13) rfl rfl rfl HGD.out.fr HGD.out.good.1 ?_
                  go_simp
                  refine hK.out _ _ trivial (fun hHeld => ?_)
                  clear hK K
                  refine wpAnyH_ready (rs := [4]) (by kernel_rfl) (by simp) ?_
                  refine AllReadyH.cons rfl (fun K hK => ?_) AllReadyH.nil
                  refine wp_loadR_step (x := .tmp 9) rfl rfl rfl HGD.out.rd HGD.out.rat.size ?_
                  go_simp
                  refine hK.out _ _ trivial (fun hHeld => ?_)
                  clear hK K
                  refine wpAnyH_ready (rs := [5]) (by kernel_rfl) (by simp) ?_
                  refine AllReadyH.cons rfl (fun K hK => ?_) AllReadyH.nil
                  go_simp
                  refine (HT.out W0 HBD.out).mono ?_
                  rintro e V1 ⟨cs1, rs1, rfl, hF1, hr1, hb1⟩
                  have hG1 := HGD.out.on hb1
                  obtain ⟨e1, hG2⟩ := hG1.step hF1 hr1
                  have HE1 := Lib.hid e1
                  have HFR := Lib.hid hG1.fr
                  have HSC := Lib.hid HGD.out.good.1
                  have HSF := Lib.hid hF1.1
                  have HOF := Lib.hid hF1.2.1
                  have HSR := Lib.hid hr1.size
                  have HOR := Lib.hid hr1.one
                  have HSR0 := Lib.hid HGD.out.rat.size
                  have HG2 := Lib.hid hG2
                  clear hG1 hG2 e1 hF1 hr1 hb1 HT
                  refine hK.out _ _ trivial (fun hHeld => ?_)
                  clear hK K
                  refine wpAnyH_takeAt (i := 6) (d := 101) (v := ?_) rfl rfl (by kernel_rfl) (by kernel_rfl) (by kernel_rfl) (fun _ _ _ h => h) (Or.inl ⟨by rfl, ?_⟩) hHeld ?_
                  rotate_left
                  · (intro _ hSw; go_simp; try with_reducible rfl)
                  simp only [List.setIfInBounds_toArray, List.set_cons_zero, List.set_cons_succ]
                  refine wpAnyH_takeAt (i := 7) (d := 108) (v := ?_) rfl rfl (by kernel_rfl) (by kernel_rfl) (by kernel_rfl) (fun _ _ _ h => h) (Or.inl ⟨by rfl, ?_⟩) hHeld ?_
                  rotate_left
                  · (intro _ hSw; go_simp; try with_reducible rfl)
                  simp only [List.setIfInBounds_toArray, List.set_cons_zero, List.set_cons_succ]
                  refine wpAnyH_takeAt (i := 8) (d := 109) (v := ?_) rfl rfl (by kernel_rfl) (by kernel_rfl) (by kernel_rfl) (fun _ _ _ h => h) (Or.inl ⟨by rfl, ?_⟩) hHeld ?_
                  rotate_left
                  · (intro _ hSw; go_simp; try with_reducible rfl)
                  simp only [List.setIfInBounds_toArray, List.set_cons_zero, List.set_cons_succ]
                  refine wpAnyH_ready (rs := [9]) (by kernel_rfl) (by simp) ?_
                  refine AllReadyH.cons rfl (fun K hK => ?_) AllReadyH.nil
                  refine wp_store_step (x := .tmp 13) (y := .tmp 108) rfl rfl rfl rfl HFR.out HSC.out HSF.out HOF.out ?_
                  go_simp
                  refine hK.out _ _ trivial (fun hHeld => ?_)
                  clear hK K
                  refine wpAnyH_ready (rs := [10]) (by kernel_rfl) (by simp) ?_
                  refine AllReadyH.cons rfl (fun K hK => ?_) AllReadyH.nil
                  refine wp_store_R (x := .tmp 9) (y := .tmp 109) rfl rfl rfl rfl HE1.out HSR0.out HSR.out HOR.out ?_
                  go_simp
                  refine hK.out _ _ trivial (fun hHeld => ?_)
                  clear hK K
                  refine wpAnyH_done (by kernel_rfl) ?_ _
                  clear HE1 HFR HSC HSF HOF HSR HOR HSR0 HGD HBD
                  go_wp2
                  go_roundw
                  case rel => exact ⟨i + 1, cs1, rs1, by omega, by go_num, by rw [← HNX.out]; exact HG2.out⟩
                  case measure => simp [intOf]; omega
                · refine wp_loadR_step (x := .tmp 9) rfl rfl rfl HGD.out.rd HGD.out.rat.size ?_
                  go_simp
                  refine hK.out _ _ trivial (fun hHeld => ?_)
                  clear hK K
                  refine wpAnyH_ready (rs := [0]) (by kernel_rfl) (by simp) ?_
                  refine AllReadyH.cons rfl (fun K hK => ?_) AllReadyH.nil
                  refine wp_load_step (x := .tmp 13) rfl rfl rfl HGD.out.fr HGD.out.good.1 ?_
                  go_simp
                  refine hK.out _ _ trivial (fun hHeld => ?_)
                  clear hK K
                  refine wpAnyH_ready (rs := [5]) (by kernel_rfl) (by simp) ?_
                  refine AllReadyH.cons rfl (fun K hK => ?_) AllReadyH.nil
                  go_simp
                  refine (HT.out W0 HBD.out).mono ?_
                  rintro e V1 ⟨cs1, rs1, rfl, hF1, hr1, hb1⟩
                  have hG1 := HGD.out.on hb1
                  obtain ⟨e1, hG2⟩ := hG1.step hF1 hr1
                  have HE1 := Lib.hid e1
                  have HFR := Lib.hid hG1.fr
                  have HSC := Lib.hid HGD.out.good.1
                  have HSF := Lib.hid hF1.1
                  have HOF := Lib.hid hF1.2.1
                  have HSR := Lib.hid hr1.size
                  have HOR := Lib.hid hr1.one
                  have HSR0 := Lib.hid HGD.out.rat.size
                  have HG2 := Lib.hid hG2
                  clear hG1 hG2 e1 hF1 hr1 hb1 HT
                  refine hK.out _ _ trivial (fun hHeld => ?_)
                  clear hK K
                  refine wpAnyH_takeAt (i := 6) (d := 101) (v := ?_) rfl rfl (by kernel_rfl) (by kernel_rfl) (by kernel_rfl) (fun _ _ _ h => h) (Or.inl ⟨by rfl, ?_⟩) hHeld ?_
                  rotate_left
                  · (intro _ hSw; go_simp; try with_reducible rfl)
                  simp only [List.setIfInBounds_toArray, List.set_cons_zero, List.set_cons_succ]
                  refine wpAnyH_takeAt (i := 7) (d := 108) (v := ?_) rfl rfl (by kernel_rfl) (by kernel_rfl) (by kernel_rfl) (fun _ _ _ h => h) (Or.inl ⟨by rfl, ?_⟩) hHeld ?_
                  rotate_left
                  · (intro _ hSw; go_simp; try with_reducible rfl)
                  simp only [List.setIfInBounds_toArray, List.set_cons_zero, List.set_cons_succ]
                  refine wpAnyH_takeAt (i := 8) (d := 109) (v := ?_) rfl rfl (by kernel_rfl) (by kernel_rfl) (by kernel_rfl) (fun _ _ _ h => h) (Or.inl ⟨by rfl, ?_⟩) hHeld ?_
                  rotate_left
                  · (intro _ hSw; go_simp; try with_reducible rfl)
                  simp only [List.setIfInBounds_toArray, List.set_cons_zero, List.set_cons_succ]
                  refine wpAnyH_ready (rs := [9]) (by kernel_rfl) (by simp) ?_
                  refine AllReadyH.cons rfl (fun K hK => ?_) AllReadyH.nil
                  refine wp_store_step (x := .tmp 13) (y := .tmp 108) rfl rfl rfl rfl HFR.out HSC.out HSF.out HOF.out ?_
                  go_simp
                  refine hK.out _ _ trivial (fun hHeld => ?_)
                  clear hK K
                  refine wpAnyH_ready (rs := [10]) (by kernel_rfl) (by simp) ?_
                  refine AllReadyH.cons rfl (fun K hK => ?_) AllReadyH.nil
                  refine wp_store_R (x := .tmp 9) (y := .tmp 109) rfl rfl rfl rfl HE1.out HSR0.out HSR.out HOR.out ?_
                  go_simp
                  refine hK.out _ _ trivial (fun hHeld => ?_)
                  clear hK K
                  refine wpAnyH_done (by kernel_rfl) ?_ _
                  clear HE1 HFR HSC HSF HOF HSR HOR HSR0 HGD HBD
                  go_wp2
                  go_roundw
                  case rel => exact ⟨i + 1, cs1, rs1, by omega, by go_num, by rw [← HNX.out]; exact HG2.out⟩
                  case measure => simp [intOf]; omega
              · have hiS : i = S.size := by omega
                have htk : S.data.toList.take i = S.data.toList := List.take_of_length_le (by rw [hiS]; exact Nat.le_refl _)
                have hok := (HOk.out i).1
                rw [htk] at hG hok
                clear htk
                generalize foldT S.data.toList p0 = r at HBod hG hok
                obtain ⟨F, s⟩ := r
                dsimp only at HBod hG hok
                obtain ⟨A7, n7, c7, ers, hl7, hc7, hL7⟩ := id hG.rat
                injection ers with ers
                subst ers
                have HEnd : Hid (∀ W, Calls Try.prog 26 #[.agg #[.slice A7 n7 c7, .int .i64 (s.2 : Int)]] W fun e w' => e = .returned (.int .i64 (endOf s.2 n7 : Int)) ∧ RowKit.Below W.heap.size W w') := fun W => refREnd_any A7 n7 c7 s.2 W
                rw [hl7] at HBod
                have HGr := Lib.hid hG
                have HRDr := Lib.hid hG.rd
                have HSR := Lib.hid hG.rat.size
                have hen0 : endOf s.2 n7 = 0 → s.2 = 0 := endOf_zero
                have HMay : Hid (s.2 = 0 → ∀ W, RowKit.Below wr.heap.size wr W → Calls Try.prog 16 #[.agg cs] W fun e w' => e = .returned (.bool (mayF F)) ∧ RowKit.Below W.heap.size W w') := fun h0 W hW => refMayF_any F cs W hok ((hG.on hW).good.2.2 h0).toL
                have HSC := Lib.hid hG.good.1
                have HOC := Lib.hid hG.good.2.1
                clear hG hok hl7 hc7 hL7 HOk HLet HG1
                generalize endOf s.2 n7 = en at HBod HEnd hen0
                go_wp2_with (first | (refine load_R (.tmp 9) rfl HRDr.out HSR.out ?_) | fail)
                refine (HEnd.out _).mono ?_
                rintro e W1 ⟨rfl, hb1⟩
                have HG1 := Lib.hid (HGr.out.on hb1)
                have HB1 := Lib.hid hb1
                clear hb1 HRDr HGr
                by_cases hen : en = 0
                · subst hen
                  have hs0 := hen0 rfl
                  have HMay1 := Lib.hid (HMay.out hs0)
                  have hb := HBod.out
                  rw [if_neg (by simp)] at hb
                  have HFR1 := Lib.hid HG1.out.fr
                  have HS0 := Lib.hid hs0
                  clear HBod HMay HEnd hen0 hs0
                  by_cases hm : mayF F = true
                  · rw [if_neg (by rw [hm]; decide)] at hb
                    subst hb
                    rw [hm] at HMay1
                    clear hm
                    go_wp2_with (first | (refine load_frame (.tmp 13) rfl HFR1.out HSC.out ?_) | fail)
                    refine (HMay1.out _ HB1.out).mono ?_
                    rintro e W5 ⟨rfl, hb5⟩
                    have HG5 := Lib.hid (HG1.out.on hb5)
                    have HFR5 := Lib.hid HG5.out.fr
                    have HZ5 := Lib.hid HG5.out.z
                    clear hb5 HG1 HFR1
                    go_upto_region 33 with fail
                    go_step
                    refine load_frame (.tmp 13) rfl HFR5.out HSC.out ?_
                    refine store_frame (.tmp 2) (.tmp 120) rfl rfl HZ5.out.z0 rfl HSC.out HOC.out ?_
                    simp only [Act.put, List.setIfInBounds_toArray, List.set_cons_zero, List.set_cons_succ]
                    go_step
                    go_step
                    go_step
                    go_step
                    go_step
                    go_step
                    go_step
                    have HE := Lib.hid (HG5.out.done HS0.out)
                    refine bodyPost_ret (results_cell2 rfl _ _ w.heap.size cs rfl (load_row33 HE.out.1 HSC.out)) rfl ?_
                    exact HE.out.2
                  · have hm' : mayF F = false := by simpa using hm
                    rw [if_pos hm'] at hb
                    subst hb
                    rw [hm'] at HMay1
                    clear hm hm'
                    go_wp2_with (first | (refine load_frame (.tmp 13) rfl HFR1.out HSC.out ?_) | fail)
                    refine (HMay1.out _ HB1.out).mono ?_
                    rintro e W5 ⟨rfl, hb5⟩
                    have HZ5 := Lib.hid (HG1.out.on hb5).z
                    clear hb5 HG1 HFR1
                    go_upto_region 32 with fail
                    go_step
                    refine load_frame (.tmp 4) rfl HZ5.out.z1 rfl ?_
                    refine store_frame (.tmp 2) (.tmp 119) rfl rfl HZ5.out.z0 rfl rfl ZO.out ?_
                    simp only [Act.put, List.setIfInBounds_toArray, List.set_cons_zero, List.set_cons_succ]
                    go_step
                    go_step
                    go_step
                    go_step
                    go_step
                    go_step
                    go_step
                    have HE := Lib.hid (HZ5.out.err 3)
                    refine bodyPost_ret (results_cell2 rfl _ _ w.heap.size zeroCells rfl (load_row33 HE.out.1 rfl)) rfl ?_
                    exact HE.out.2
                · have q1 : ((en : Int) != 0) = true := by simp; omega
                  have hres : (Fr.zero, en) = res := by rw [← HBod.out, if_pos hen]
                  subst hres
                  clear HBod HMay hen hen0
                  go_upto_region 30 with fail
                  have HG2 := Lib.hid (HG1.out.on ((RowKit.Below.refl _ W1).drew))
                  refine wp_region_held_drew (S := fun X => X.heap[w.heap.size + 1]? = some (.cells zeroCells 33 (0, 0)) ∧ X.heap[gR]? = some (.cells #[.slice A7 n7 c7, .int .i64 (s.2 : Int)] 59 (0, 0))) (by kernel_rfl) ⟨HG2.out.z.z1, HG2.out.rd⟩ (fun hHeld => ?_)
                  generalize W1.drew = W2 at HG2 hHeld ⊢
                  have hgR2 := HG2.out.lo.1
                  refine wpAnyH_takeAt (i := 0) (d := 113) (v := .agg zeroCells) rfl rfl (by kernel_rfl) (by kernel_rfl) (by kernel_rfl) (fun _ _ _ h => h) (yields_frame (x := .tmp 4) (g := w.heap.size + 1) (by rfl) rfl rfl rfl (fun _ h => h.1)) hHeld ?_
                  simp only [List.setIfInBounds_toArray, List.set_cons_zero, List.set_cons_succ]
                  refine wpAnyH_takeAt (i := 1) (d := 114) (v := .agg #[.slice A7 n7 c7, .int .i64 (s.2 : Int)]) rfl rfl (by kernel_rfl) (by kernel_rfl) (by kernel_rfl) (fun _ _ _ h => h) (yields_R (x := .tmp 9) (g := gR) (by rfl) rfl rfl rfl (fun _ h => h.2)) hHeld ?_
                  simp only [List.setIfInBounds_toArray, List.set_cons_zero, List.set_cons_succ]
                  refine wpAnyH_ready (rs := [2]) (by kernel_rfl) (by simp) ?_
                  refine AllReadyH.cons rfl (fun K hK => ?_) AllReadyH.nil
                  · go_simp
                    refine (HEnd.out _).mono ?_
                    rintro e W3 ⟨rfl, hb3⟩
                    have HG3 := Lib.hid (HG2.out.on hb3)
                    refine hK.out _ _ ⟨HG3.out.z.z1, HG3.out.rd⟩ (fun hHeld => ?_)
                    clear hK K hb3
                    refine wpAnyH_ready (rs := [3]) (by kernel_rfl) (by simp) ?_
                    refine AllReadyH.cons rfl (fun K hK => ?_) AllReadyH.nil
                    refine wp_store_step (x := .tmp 2) (y := .tmp 113) rfl rfl rfl rfl HG3.out.z.z0 rfl rfl ZO.out ?_
                    go_simp
                    refine hK.out _ _ ⟨(setRow_other _ _ _ _ (by omega)).trans HG3.out.z.z1, (setRow_other _ _ _ _ (by omega)).trans HG3.out.rd⟩ (fun hHeld => ?_)
                    clear hK K
                    refine wpAnyH_takeAt (i := 4) (d := 3) (v := ?_) rfl rfl (by kernel_rfl) (by kernel_rfl) (by kernel_rfl) (fun _ _ _ h => h) (Or.inl ⟨by rfl, ?_⟩) hHeld ?_
                    rotate_left
                    · (intro _ hSw; go_simp; try with_reducible rfl)
                    simp only [List.setIfInBounds_toArray, List.set_cons_zero, List.set_cons_succ]
                    refine wpAnyH_done (by kernel_rfl) ?_ _
                    have HE := Lib.hid (HG3.out.z.err en)
                    go_wp2
                    refine bodyPost_ret (results_cell2 rfl _ _ w.heap.size zeroCells rfl (load_row33 HE.out.1 rfl)) rfl ?_
                    exact HE.out.2
        · have hk' : isKind x1.toNat = false := by simpa using hk
          have e2 : (Fr.zero, 10) = res := by rw [← hbod]; unfold bodyOf; rw [if_pos hk']
          subst e2
          have hf : fldS x1.toNat = ⟨#[]⟩ := fldS_none (by intro h; simp [isKind] at hk'; omega)
          rw [hf] at HFl
          clear hk hk' hbod hf
          go_wp2_with fail
          refine (HFl.out _).mono ?_
          rintro e _ ⟨rfl, rfl⟩
          go_upto_region 19 with fail
          go_step
          refine load_frame (.tmp 4) rfl HZ.out.z1 rfl ?_
          refine store_frame (.tmp 2) (.tmp 75) rfl rfl HZ.out.z0 rfl rfl ZO.out ?_
          simp only [Act.put, List.setIfInBounds_toArray, List.set_cons_zero, List.set_cons_succ]
          go_step
          go_step
          go_step
          go_step
          go_step
          go_step
          go_step
          have HE := Lib.hid (HZ.out.err 10)
          refine bodyPost_ret (results_cell2 rfl _ _ w.heap.size zeroCells rfl (load_row33 HE.out.1 rfl)) rfl ?_
          exact HE.out.2
      · have e2 : (Fr.zero, 3) = res := by
          rw [← hres]
          unfold headRd2
          rw [if_neg h2, if_neg h3, if_neg h4, if_pos (show (x0 :: x1 :: x2 :: x3 :: t).getD 0 0 ≠ 1 from hx0)]
          rfl
        subst e2
        have q6 : ((x0.toNat : Int) != 1) = true := by
          simp only [bne_iff_ne, ne_eq]
          intro h
          apply hx0
          have : x0.toNat = 1 := by omega
          exact UInt8.toNat_inj.1 this
        clear h2 h3 h4 hpn hpl hres hx0
        go_upto_region 16 with fail
        go_step
        refine load_frame (.tmp 4) rfl HZ.out.z1 rfl ?_
        refine store_frame (.tmp 2) (.tmp 68) rfl rfl HZ.out.z0 rfl rfl ZO.out ?_
        simp only [Act.put, List.setIfInBounds_toArray, List.set_cons_zero, List.set_cons_succ]
        go_step
        go_step
        go_step
        go_step
        go_step
        go_step
        go_step
        have HE := Lib.hid (HZ.out.err 3)
        refine bodyPost_ret (results_cell2 rfl _ _ w.heap.size zeroCells rfl (load_row33 HE.out.1 rfl)) rfl ?_
        exact HE.out.2
    · have q1 : ((er : Int) != 0) = true := by simp; omega
      have hres : (Fr.zero, er) = res := by
        rw [← HRes.out, if_pos (show (if er ≠ 0 then hNone er else headRd2 told p).2.2 ≠ 0 by rw [if_pos he]; exact he), if_pos he]
        rfl
      subst hres
      clear he HRes
      have HS : Hid (V.drew.heap[w.heap.size + 1]? = some (.cells zeroCells 33 (0, 0)) ∧ V.drew.cell? ⟨gR, 1, none⟩ = some (.int .i64 (er : Int))) := ⟨HZ.out.z1, y1⟩
      have HE := Lib.hid (GtZ.err (HZ.out.on ((RowKit.Below.refl _ _).drew)) er)
      have HZD : Hid (V.drew.heap[w.heap.size]? = some (.cells zeroCells 33 (0, 0))) := HZ.out.z0
      have hne : (⟨gR, 1, none⟩ : Addr).block ≠ w.heap.size := by show gR ≠ _; omega
      go_upto_region 8 with fail
      refine wp_region_held_drew (S := fun X => X.heap[w.heap.size + 1]? = some (.cells zeroCells 33 (0, 0)) ∧ X.cell? ⟨gR, 1, none⟩ = some (.int .i64 (er : Int))) (by kernel_rfl) HS.out (fun hHeld => ?_)
      refine wpAnyH_takeAt (i := 0) (d := 35) (v := .agg zeroCells) rfl rfl (by kernel_rfl) (by kernel_rfl) (by kernel_rfl) (fun _ _ _ h => h) (yields_frame (x := .tmp 4) (g := w.heap.size + 1) (by rfl) rfl rfl rfl (fun _ h => h.1)) hHeld ?_
      simp only [List.setIfInBounds_toArray, List.set_cons_zero, List.set_cons_succ]
      refine wpAnyH_takeAt (i := 1) (d := 36) (v := ?_) rfl rfl (by kernel_rfl) (by kernel_rfl) (by kernel_rfl) (fun _ _ _ h => h) (Or.inl ⟨by rfl, ?_⟩) hHeld ?_
      rotate_left
      · (intro _ hSw; go_simp; try with_reducible rfl)
      simp only [List.setIfInBounds_toArray, List.set_cons_zero, List.set_cons_succ]
      refine wpAnyH_takeAt (i := 2) (d := 37) (v := ?_) rfl rfl (by kernel_rfl) (by kernel_rfl) (by kernel_rfl) (fun _ _ _ h => h) (Or.inl ⟨by rfl, ?_⟩) hHeld ?_
      rotate_left
      · (intro _ hSw; go_simp; try with_reducible rfl)
      simp only [List.setIfInBounds_toArray, List.set_cons_zero, List.set_cons_succ]
      refine wpAnyH_ready (rs := [3]) (by kernel_rfl) (by simp) ?_
      refine AllReadyH.cons rfl (fun K hK => ?_) AllReadyH.nil
      refine wp_store_step (x := .tmp 2) (y := .tmp 35) rfl rfl rfl rfl HZD.out rfl rfl ZO.out ?_
      go_simp
      refine hK.out _ _ ⟨(setRow_other _ _ _ _ (by omega)).trans HS.out.1, (cell_setRow_other _ _ _ _ hne).trans HS.out.2⟩ (fun hHeld => ?_)
      clear hK K
      refine wpAnyH_takeAt (i := 4) (d := 3) (v := ?_) rfl rfl (by kernel_rfl) (by kernel_rfl) (by kernel_rfl) (fun _ _ _ h => h) (Or.inl ⟨by rfl, ?_⟩) hHeld ?_
      rotate_left
      · (intro _ hSw; go_simp; try with_reducible rfl)
      simp only [List.setIfInBounds_toArray, List.set_cons_zero, List.set_cons_succ]
      refine wpAnyH_done (by kernel_rfl) ?_ _
      go_wp2
      refine bodyPost_ret (results_cell2 rfl _ _ w.heap.size zeroCells rfl (load_row33 HE.out.1 rfl)) rfl ?_
      exact HE.out.2
  · rw [if_pos h1]
    have q0 : ((fe : Int) != 0) = true := by simp; omega
    clear h1
    go_enter Try.func9, Try.ntmps9
    go_wp2_with (first | (refine store_frame_new (.tmp 4) (.tmp 15) rfl rfl rfl rfl rfl ZO.out ?_) | fail)
    generalize hw0 : World.alloc (World.alloc w _) _ = W0
    have hZ0 := hST.out W0 hw0
    have HZ0 := Lib.hid hZ0
    clear hw0 hST
    refine (HFit.out W0 hZ0).mono ?_
    rintro e w1 ⟨A1, n1, c1, rfl, hn1, hc1, hL1, hb1⟩
    have HZ1 := Lib.hid (hZ0.on hb1)
    clear hZ0 HZ0 HFit hn1 hc1 hL1 hb1
    go_wp2_with (first | (refine load_frame (.tmp 4) rfl HZ1.out.z1 rfl ?_) | (refine store_frame (.tmp 2) (.tmp 23) rfl rfl HZ1.out.z0 rfl rfl ZO.out ?_) | fail)
    have HE := Lib.hid (HZ1.out.err fe)
    refine bodyPost_ret (results_cell2 rfl _ _ w.heap.size zeroCells rfl (load_row33 HE.out.1 rfl)) rfl ?_
    exact HE.out.2

end Go.Proofs.Ytbfjfidodpgohaa
