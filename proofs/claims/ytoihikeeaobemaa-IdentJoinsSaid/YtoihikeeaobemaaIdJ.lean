/- The walk of Join (ident). -/
import Derived.Test.YtoihikeeaobemaaIdH
namespace Go.Proofs.Ytoihikeeaobemaa
open Go.RowKit Go.Sort

theorem rowsOf_snoc (l : List Id) (k : Nat) (h : k < l.length) : rowsOf (l.take (k + 1)) = rowStep (rowsOf (l.take k)) l[k] := by
  unfold rowsOf
  rw [List.take_succ_eq_append_getElem h, List.foldl_append]
  rfl

def oneRn (x : Id) : Rn := ⟨x.f, x.s, 1, x.hf, x.hs, by decide⟩
def moreRn (r : Rn) : Rn := ⟨r.f, r.a, (r.c + 1) % 18446744073709551616, r.hf, r.ha, Nat.mod_lt _ (by decide)⟩

theorem rowStep_nil (x : Id) : rowStep [] x = [oneRn x] := rfl
theorem rowStep_more {rows : List Rn} {x : Id} {q : Nat} (hq : q + 1 = rows.length) (h : nextI (rows[q]'(by omega)) = x) : rowStep rows x = rows.set q (moreRn (rows[q]'(by omega))) := by
  have hne : rows ≠ [] := by rintro rfl; simp at hq
  have hl : rows.getLast? = some (rows[q]'(by omega)) := by rw [List.getLast?_eq_getElem?, show rows.length - 1 = q by omega, List.getElem?_eq_getElem]
  unfold rowStep
  rw [hl]
  simp only [h, if_true]
  apply List.ext_getElem?
  intro j
  rw [List.getElem?_set]
  by_cases hj : q = j
  · subst hj
    rw [if_pos rfl, if_pos (by omega), List.getElem?_append_right (by simp; omega)]
    simp [show q - (rows.length - 1) = 0 by omega, moreRn]
  · rw [if_neg hj]
    by_cases hj2 : j < q
    · rw [List.getElem?_append_left (by simp; omega), List.getElem?_dropLast, if_pos (by omega)]
    · rw [List.getElem?_eq_none (by simp; omega), List.getElem?_eq_none (by omega)]
theorem rowStep_one {rows : List Rn} {x : Id} {q : Nat} (hq : q + 1 = rows.length) (h : nextI (rows[q]'(by omega)) ≠ x) : rowStep rows x = rows ++ [oneRn x] := by
  have hl : rows.getLast? = some (rows[q]'(by omega)) := by rw [List.getLast?_eq_getElem?, show rows.length - 1 = q by omega, List.getElem?_eq_getElem]
  unfold rowStep
  rw [hl]
  simp only [h, if_false]
  rfl

theorem rns_more (l : List Rn) (i : Nat) (h : i < l.length) : (flat encRn l).set (i * 3 + 2) (.int .u64 ((moreRn l[i]).c : Int)) = flat encRn (l.set i (moreRn l[i])) := by
  rw [← rns_set l i (moreRn l[i]) h]
  apply List.ext_getElem?
  intro j
  rw [List.getElem?_set, List.getElem?_set]
  by_cases h2 : i * 3 + 2 = j
  · subst h2
    simp
  · rw [if_neg h2, if_neg h2, List.getElem?_set]
    by_cases h1 : i * 3 + 1 = j
    · subst h1
      rw [if_pos rfl]
      have := rns_at1 l i h
      rw [this, if_pos (by rw [List.length_set, flat_length encRn_len]; omega)]
      rfl
    · rw [if_neg h1, List.getElem?_set]
      by_cases h0 : i * 3 = j
      · subst h0
        have := rns_at0 l i h
        rw [if_pos rfl, if_pos (by rw [flat_length encRn_len]; omega), this]
        rfl
      · rw [if_neg h0]

theorem rowStep_len (rows : List Rn) (x : Id) : (rowStep rows x).length ≤ rows.length + 1 := by
  unfold rowStep
  split
  · simp
  · split <;> simp <;> omega

theorem rowsOf_len (l : List Id) : ∀ k, (rowsOf (l.take k)).length ≤ k := by
  intro k
  induction k with
  | zero => simp [rowsOf]
  | succ k ih =>
    by_cases h : k < l.length
    · rw [rowsOf_snoc l k h]
      have := rowStep_len (rowsOf (l.take k)) l[k]
      omega
    · rw [List.take_of_length_le (by omega)]
      rw [List.take_of_length_le (by omega)] at ih
      omega

theorem cptFrom_len : ∀ (l : List Id) (p : Id), (cptFrom p l).length ≤ l.length
  | [], _ => by simp [cptFrom]
  | x :: r, p => by
    have := cptFrom_len r x
    simp only [cptFrom]
    split <;> simp <;> omega
theorem cpt_len (l : List Id) : (cpt l).length ≤ l.length := by
  rcases l with _ | ⟨x, r⟩
  · simp [cpt]
  · have := cptFrom_len r x
    simp [cpt]; omega
theorem sortI_len (l : List Id) : (sortI l).length = l.length := by unfold sortI; rw [List.length_mergeSort]

set_option maxHeartbeats 1600000 in
theorem join_any (A : Option Addr) (n c : Nat) (l : List Id) (w : World) (hl : l.length = n) (hn : n ≤ 1000) (h : Lies w w.heap.size A (flat encId l)) :
    Calls Try.prog 21 #[.slice A n c] w (OwnRns w w.heap.size (joinOf l)) := by
  obtain ⟨i0, hi, hz0, hz1, hz2⟩ := info_parts Try.infoRun
  have mixed := mixedOrders
  have hwo := withoutIds_any A n c l w hl hn h
  have hfl : (l.filter mayB).length ≤ 1000 := by have := List.length_filter_le mayB l; omega
  unfold joinOf
  generalize hLd : cpt (sortI (l.filter mayB)) = L
  have HLd := Lib.hid hLd
  clear hLd
  clear h hl
  go_enter Try.func21, Try.ntmps21
  go_wp2_with fail
  refine hwo.mono ?_
  rintro e w1 ⟨A1, n1, c1, rfl, hn1, _, _, hown1, hb1⟩
  clear hwo
  go_wp2_with fail
  refine (sort_any A1 n1 c1 w.heap.size (l.filter mayB) w1 hn1.out (by rw [← hn1.out]; exact hfl) hb1.size hown1).mono ?_
  rintro e w2 ⟨rfl, hown2, hb2⟩
  have hb02 : RowKit.Below w.heap.size w w2 := hb1.trans hb2
  clear hb1 hb2 hown1
  go_wp2_with fail
  refine (compact_any A1 n1 c1 w.heap.size (sortI (l.filter mayB)) w2 (by rw [sortI_len]; exact hn1.out) (by rw [← hn1.out]; exact hfl) hb02.size hown2).mono ?_
  rintro e w3 ⟨A3, n3, c3, rfl, hn3, _, _, hown3, hb3⟩
  have hb03 : RowKit.Below w.heap.size w w3 := hb02.trans hb3
  have hL3 := Lies.of_ownK hown3
  have hn3m : n3 ≤ 1000 := by
    rw [← hn3.out]
    have := cpt_len (sortI (l.filter mayB))
    rw [sortI_len] at this
    omega
  clear hb02 hb3 hown3 hown2 hn1 hfl
  rw [HLd.out] at hL3 hn3
  go_wp2
  go_loopw [4, 6, 7, 15] (fun s4 _ _ s15 wr => ∃ (k m : Nat), s15 = .int .i64 k ∧ k ≤ n3 ∧ Hid ((rowsOf (L.take k)).length = m) ∧ wr.ownsRow w3.heap.size 26 3 s4 m (flat encRn (rowsOf (L.take k))) ∧ RowKit.Below w3.heap.size w3 wr) (fun _ _ _ s15 _ => n3 - (intOf s15).toNat)
  case atStart => exact ⟨0, 0, rfl, Nat.zero_le _, by show (rowsOf (L.take 0)).length = 0; rfl, World.ownsRow_nil _ _ _ _, RowKit.Below.refl _ _⟩
  case round =>
    obtain ⟨k, m, rfl, hk, hm, hown, hbr⟩ := hrel
    obtain ⟨A4, c4, rfl, hc4, hc5⟩ := own_sliceK hown
    by_cases hlt : k < n3
    · have hkl : k < L.length := by rw [hn3.out]; exact hlt
      obtain ⟨b, off, rfl, hbl, x0, x1⟩ := (hL3.below hbr).id hkl
      have hmk : m ≤ 1000 := by have := rowsOf_len L k; have := hm.out; omega
      have HS := Lib.hid (rowsOf_snoc L k hkl)
      have hsz := hbr.size
      generalize rowsOf (L.take k) = rows at hm hown HS
      generalize L[k] = x at x0 x1 HS
      by_cases hm0 : m = 0
      · subst hm0
        have hrn : rows = [] := List.eq_nil_of_length_eq_zero hm.out
        subst hrn
        rw [rowStep_nil] at HS
        go_wp2_with fail
        generalize hw0 : World.alloc wr _ = w0
        obtain ⟨hs0, hG, hcc⟩ := box1 wr w0 _ _ hw0
        obtain ⟨q0, q1⟩ := id_grown (x := x) (b := wr.heap.size) (by omega) (hcc 0 _ rfl) (hcc 1 _ rfl)
        have hG' : Hid (Grew wr w0) := hG
        have hs1 := hs0
        clear hcc hw0 hs0 hG x0 x1
        go_quiet_grown (fail)
        have hbw : RowKit.Below wr.heap.size wr (grow (w0.drewN nq) osq) := (hG'.out.grown nq osq).below
        have hown' := own_below hown hbw
        generalize hob : (Value.slice A4 0 c4) = vo at hown'
        have b0 := q0 nq osq
        have b1 := q1 nq osq
        clear q0 q1 hown
        generalize hw1 : grow (w0.drewN nq) osq = w1 at b0 b1 hbw hown' ⊢
        clear hw1
        have hbA : RowKit.Below w1.heap.size w1 (w1.alloc (.cells #[.int .u8 (x.f : Int), .int .u64 (x.s : Int), .int .u64 1] 26)) := (RowKit.Below.refl _ _).alloc (Nat.le_refl _) _
        have hownA := own_below hown' hbA
        have hlit := lies_new w1 #[.int .u8 (x.f : Int), .int .u64 (x.s : Int), .int .u64 1] 26
        have hszA : w3.heap.size ≤ (w1.alloc (.cells #[.int .u8 (x.f : Int), .int .u64 (x.s : Int), .int .u64 1] 26)).heap.size := Nat.le_trans hsz (Nat.le_trans hbw.size hbA.size)
        have hbrA : RowKit.Below w3.heap.size w3 (w1.alloc (.cells #[.int .u8 (x.f : Int), .int .u64 (x.s : Int), .int .u64 1] 26)) := (hbr.trans (hbw.mono hsz)).trans (hbA.mono (Nat.le_trans hsz hbw.size))
        subst hob
        clear hown' hbA hbw hbr
        go_wp2_with (at_builtin; refine wpList_append_lstK rfl _ _ 27 rfl w3.heap.size 3 (by decide) 26 i0 (.agg #[.int .u8 0, .int .u64 0, .int .u64 0]) 24 Try.underlying27 hi hz0 hz1 hz2 rfl _ 0 _ rfl hownA _ _ 1 1 [.int .u8 (x.f : Int), .int .u64 (x.s : Int), .int .u64 1] rfl rfl hlit (by simp [Value.oneCell']) ?d2 ?d3 hszA ?_)
        case d2 => unfold maxLen; omega
        intro v5 w5 hown5 _ hb5 _
        have hown6 : w5.ownsRow w3.heap.size 26 3 v5 (0 + 1) (flat encRn ([oneRn x])) := by
          simpa [flat, encRn, oneRn] using hown5
        have HO6 := Lib.hid hown6
        have hb6 : RowKit.Below w3.heap.size w3 w5 := hbrA.trans hb5
        clear hown5 hown6 hownA hlit hbrA hb5
        go_wp2
        go_roundw
        case rel => exact ⟨k + 1, 0 + 1, by go_num, by omega, by show _ = _; rw [HS.out]; rfl, by rw [HS.out]; exact HO6.out, hb6⟩
        case measure => simp [intOf]; omega
      · obtain ⟨q, hmq⟩ : ∃ q, m = q + 1 := ⟨m - 1, by omega⟩
        have hq : q + 1 = rows.length := by rw [hm.out]; exact hmq.symm
        have hql : q < rows.length := by omega
        obtain ⟨g4, cap4, hv4, hbg4, hlt4⟩ := hown.form (by omega)
        obtain ⟨rfl, rfl⟩ : A4 = some ⟨g4, 0, none⟩ ∧ c4 = cap4 := by injection hv4 with e1 _ e3; exact ⟨e1, e3⟩
        have r0 : wr.cell? ⟨g4, q * 3, none⟩ = some (.int .u8 (rows[q].f : Int)) := by rw [hown.cellAt _ (by omega)]; exact rns_at0 rows q hql
        have r1 : wr.cell? ⟨g4, q * 3 + 1, none⟩ = some (.int .u64 (rows[q].a : Int)) := by rw [hown.cellAt _ (by omega)]; exact rns_at1 rows q hql
        have r2 : wr.cell? ⟨g4, q * 3 + 1 + 1, none⟩ = some (.int .u64 (rows[q].c : Int)) := by rw [hown.cellAt _ (by omega)]; exact rns_at2 rows q hql
        have hnx := fun W => nextID_any rows[q] W
        have hE := eqlId (nextI rows[q]) x
        have hGd := guardId
        have hcm : Hid (nextI rows[q] = x → rowStep rows x = rows.set q (moreRn rows[q])) := rowStep_more hq
        have hco : Hid (nextI rows[q] ≠ x → rowStep rows x = rows ++ [oneRn x]) := rowStep_one hq
        have hrm := Lib.hid (rns_more rows q hql)
        have hqm : (q : Int) < (m : Int) := by omega
        have em1 : (m : Int) - 1 = (q : Int) := by omega
        have ewq : IntKind.i64.wrap (q : Int) = (q : Int) := by rw [IntKind.wrap_i64]; omega
        have hmpos : 0 < m := by omega
        clear hv4 hq hmq hm0
        unfold valRn at hnx
        go_wp2_with fail
        generalize hw0 : World.alloc wr _ = w0
        obtain ⟨hs0, hG, hcc⟩ := box1 wr w0 _ _ hw0
        obtain ⟨q0, q1⟩ := id_grown (x := x) (b := wr.heap.size) (by omega) (hcc 0 _ rfl) (hcc 1 _ rfl)
        have p0 := fun n os => cell_grown (w := w0) (a := ⟨g4, q * 3, none⟩) (by show g4 < _; omega) ((hG.below.cell (p := ⟨g4, q * 3, none⟩) hlt4).trans r0) n os
        have p1 := fun n os => cell_grown (w := w0) (a := ⟨g4, q * 3 + 1, none⟩) (by show g4 < _; omega) ((hG.below.cell (p := ⟨g4, q * 3 + 1, none⟩) hlt4).trans r1) n os
        have p2 := fun n os => cell_grown (w := w0) (a := ⟨g4, q * 3 + 1 + 1, none⟩) (by show g4 < _; omega) ((hG.below.cell (p := ⟨g4, q * 3 + 1 + 1, none⟩) hlt4).trans r2) n os
        have hG' : Hid (Grew wr w0) := hG
        clear hcc hw0 hs0 hG x0 x1 r0 r1 r2
        generalize hd : decide (nextI rows[q] = x) = bd at hE
        have HD := Lib.hid hd
        clear hd
        unfold valId at hnx
        generalize ((nextI rows[q]).f : Int) = nf at hnx hE
        generalize ((nextI rows[q]).s : Int) = ns at hnx hE
        cases bd with
        | true =>
          go_quiet_grown (first | (go_at_call 35; exact Calls.grown_of (hnx _)))
          have hbw : RowKit.Below wr.heap.size wr (grow (w0.drewN nq) osq) := (hG'.out.grown nq osq).below
          have hown' := own_below hown hbw
          have HS2 := hcm.out (of_decide_eq_true HD.out)
          rw [HS2] at HS
          have t2 : (grow (w0.drewN nq) osq).cell? ⟨g4, q * 3 + 2, none⟩ = some (.int .u64 (rows[q].c : Int)) := p2 nq osq
          have f2 := hown'.frozenAt (q * 3 + 2)
          have hst := hown'.stored (q * 3 + 2) (.int .u64 ((moreRn rows[q]).c : Int))
          rw [hrm.out] at hst
          have hwc : IntKind.u64.wrap ((rows[q].c : Int) + 1) = ((moreRn rows[q]).c : Int) := by
            show _ = (((rows[q].c + 1) % 18446744073709551616 : Nat) : Int)
            rw [IntKind.wrap_u64]; omega
          generalize ((moreRn rows[q]).c : Int) = mc at hwc hst
          have HST := Lib.hid hst
          have hbw3 : RowKit.Below w3.heap.size w3 (grow (w0.drewN nq) osq) := hbr.trans (hbw.mono hsz)
          clear HS2 hcm hco hrm hE hnx p0 p1 p2 q0 q1 hown hown' hst
          generalize grow (w0.drewN nq) osq = w1 at *
          go_wp2
          go_roundw
          case rel => exact ⟨k + 1, m, by go_num, by omega, by show _ = _; rw [HS.out, List.length_set]; exact hm.out, by rw [HS.out]; exact HST.out.1, hbw3.setCell (p := ⟨g4, _, none⟩) hbg4 _⟩
          case measure => simp [intOf]; omega
        | false =>
          go_quiet_grown (first | (go_at_call 35; exact Calls.grown_of (hnx _)))
          have hbw : RowKit.Below wr.heap.size wr (grow (w0.drewN nq) osq) := (hG'.out.grown nq osq).below
          have hown' := own_below hown hbw
          have HS2 := hco.out (of_decide_eq_false HD.out)
          rw [HS2] at HS
          clear HS2 hcm hco hrm hE hnx p0 p1 p2
          generalize hob : (Value.slice (some ⟨g4, 0, none⟩) m c4) = vo at hown'
          have b0 := q0 nq osq
          have b1 := q1 nq osq
          clear q0 q1 hown
          generalize hw1 : grow (w0.drewN nq) osq = w1 at b0 b1 hbw hown' ⊢
          clear hw1
          have hbA : RowKit.Below w1.heap.size w1 (w1.alloc (.cells #[.int .u8 (x.f : Int), .int .u64 (x.s : Int), .int .u64 1] 26)) := (RowKit.Below.refl _ _).alloc (Nat.le_refl _) _
          have hownA := own_below hown' hbA
          have hlit := lies_new w1 #[.int .u8 (x.f : Int), .int .u64 (x.s : Int), .int .u64 1] 26
          have hszA : w3.heap.size ≤ (w1.alloc (.cells #[.int .u8 (x.f : Int), .int .u64 (x.s : Int), .int .u64 1] 26)).heap.size := Nat.le_trans hsz (Nat.le_trans hbw.size hbA.size)
          have hbrA : RowKit.Below w3.heap.size w3 (w1.alloc (.cells #[.int .u8 (x.f : Int), .int .u64 (x.s : Int), .int .u64 1] 26)) := (hbr.trans (hbw.mono hsz)).trans (hbA.mono (Nat.le_trans hsz hbw.size))
          subst hob
          clear hown' hbA hbw hbr
          go_wp2_with (at_builtin; refine wpList_append_lstK rfl _ _ 27 rfl w3.heap.size 3 (by decide) 26 i0 (.agg #[.int .u8 0, .int .u64 0, .int .u64 0]) 24 Try.underlying27 hi hz0 hz1 hz2 rfl _ m _ rfl hownA _ _ 1 1 [.int .u8 (x.f : Int), .int .u64 (x.s : Int), .int .u64 1] rfl rfl hlit (by simp [Value.oneCell']) ?g2 ?g3 hszA ?_)
          case g2 => unfold maxLen; omega
          case g3 => omega
          intro v5 w5 hown5 _ hb5 _
          have hown6 : w5.ownsRow w3.heap.size 26 3 v5 (m + 1) (flat encRn (rows ++ [oneRn x])) := by
            rw [flat_append]; exact hown5
          have HO6 := Lib.hid hown6
          have hb6 : RowKit.Below w3.heap.size w3 w5 := hbrA.trans hb5
          clear hown5 hown6 hownA hlit hbrA hb5
          go_wp2
          go_roundw
          case rel => exact ⟨k + 1, m + 1, by go_num, by omega, by show _ = _; rw [HS.out]; rw [List.length_append, hm.out]; rfl, by rw [HS.out]; exact HO6.out, hb6⟩
          case measure => simp [intOf]; omega

    · have hkn : k = n3 := by omega
      subst hkn
      have HO := Lib.hid hown
      have hLL : L.take k = L := List.take_of_length_le (by rw [hn3.out]; exact Nat.le_refl _)
      rw [hLL] at hm
      have HLL := Lib.hid hLL
      clear hown hLL
      go_wp2
      go_ret
      have hO := HO.out
      rw [HLL.out] at hO
      exact OwnRns.of hm.out (own_base hO hb03.size) (hb03.trans (hbr.mono hb03.size))

end Go.Proofs.Ytoihikeeaobemaa
