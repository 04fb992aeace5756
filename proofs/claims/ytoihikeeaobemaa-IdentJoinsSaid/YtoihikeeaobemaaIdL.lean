/- What runs list: plain mathematics; and the walk of List (ident). -/
import Derived.Test.YtoihikeeaobemaaIdZ
import Derived.Test.YtoihikeeaobemaaIdHas
namespace Go.Proofs.Ytoihikeeaobemaa
open Go.RowKit Go.Sort

def addI (r : Rn) (i : Nat) : Id := ⟨r.f, (r.a + i) % 18446744073709551616, r.hf, Nat.mod_lt _ (by decide)⟩
def runIds (r : Rn) (m : Nat) : List Id := (List.range m).map (addI r)
def listOf (l : List Rn) : List Id := l.flatMap fun r => runIds r r.c
def badB (l : List Rn) : Bool := l.any fun r => !runB r
/-- What List answers. -/
def listM (most : Int) (l : List Rn) : List Id := if badB l = true ∨ max most 0 < (cntN l : Int) then [] else listOf l

theorem runIds_succ (r : Rn) (m : Nat) : runIds r (m + 1) = runIds r m ++ [addI r m] := by simp [runIds, List.range_succ]
theorem runIds_len (r : Rn) (m : Nat) : (runIds r m).length = m := by simp [runIds]
theorem listOf_nil : listOf [] = [] := rfl
theorem listOf_cons (r : Rn) (l : List Rn) : listOf (r :: l) = runIds r r.c ++ listOf l := by simp [listOf]
theorem listOf_append (a b : List Rn) : listOf (a ++ b) = listOf a ++ listOf b := by simp [listOf]
theorem listOf_snoc (l : List Rn) (k : Nat) (h : k < l.length) : listOf (l.take (k + 1)) = listOf (l.take k) ++ runIds l[k] l[k].c := by
  rw [List.take_succ_eq_append_getElem h, listOf_append, listOf_cons, listOf_nil, List.append_nil]
theorem listOf_len : ∀ l : List Rn, (listOf l).length = (l.map (·.c)).sum
  | [] => rfl
  | r :: l => by rw [listOf_cons, List.length_append, runIds_len, listOf_len l, List.map_cons, List.sum_cons]
theorem listOf_part (l : List Rn) (k i : Nat) (h : k < l.length) (hi : i ≤ l[k].c) : (listOf (l.take k)).length + i ≤ (listOf l).length := by
  conv => rhs; rw [← List.take_append_drop k l, List.drop_eq_getElem_cons h, listOf_append, listOf_cons]
  rw [List.length_append, List.length_append, runIds_len]
  omega
theorem listOf_front (l : List Rn) (k : Nat) : (listOf (l.take k)).length ≤ (listOf l).length := by
  conv => rhs; rw [← List.take_append_drop k l, listOf_append]
  rw [List.length_append]
  omega

theorem satC_sum : ∀ (L : List Rn) (n M : Nat), satC n L ≤ M → M < 4611686018427387904 → n ≤ 4611686018427387904 → satC n L = n + (L.map (·.c)).sum
  | [], n, M, _, _, _ => by simp [satC]
  | r :: t, n, M, h, hM, hn => by
    rw [satC] at h ⊢
    by_cases hg : 4611686018427387904 - n < r.c
    · rw [if_pos hg] at h; omega
    · rw [if_neg hg] at h ⊢
      rw [satC_sum t (n + r.c) M h hM (by omega), List.map_cons, List.sum_cons]
      omega

theorem bad_all {l : List Rn} (h : badB l = false) : ∀ r ∈ l, runB r = true := by
  intro r hr
  unfold badB at h
  rw [List.any_eq_false] at h
  have := h r hr
  simpa using this
theorem bad_of {l : List Rn} (h : ∀ r ∈ l, runB r = true) : badB l = false := by
  unfold badB
  rw [List.any_eq_false]
  intro r hr
  rw [h r hr]; simp

theorem cnt_len {l : List Rn} (h : badB l = false) {M : Nat} (hc : cntN l ≤ M) (hM : M < 4611686018427387904) : (listOf l).length = cntN l := by
  unfold cntN at hc ⊢
  rw [List.filter_eq_self.2 (bad_all h)] at hc ⊢
  rw [satC_sum l 0 M hc hM (by omega), listOf_len]
  omega

theorem make_ids (n : Nat) (hn : n ≤ 1000) (base : Nat) (W : World) (hb : base ≤ W.heap.size) : ∃ w', (Instr.makeSlice 39 (.int .i64 0) (.int .u64 (n : Int))).run Try.prog W = .ok (.slice (some ⟨W.heap.size, 0, none⟩) 0 n) w' ∧
    w'.ownsRow base 24 2 (.slice (some ⟨W.heap.size, 0, none⟩) 0 n) 0 [] ∧ W.grownBy w' none := by
  obtain ⟨i0, hi, hz0, hz1, hz2⟩ := info_parts Try.infoID
  exact run_make_own (P := Try.prog) W base 39 24 i0 _ 2 Try.underlying39 hi hz0 hz1 .i64 .u64 n (by rw [hz2]; omega) (by unfold maxLen; omega) hb

/-- What List has so far: a slice of the call's own, apart from the block q. -/
def Ids (wr : World) (base : Nat) (v : Value) (xs : List Id) : Prop := ∃ m, xs.length = m ∧ wr.ownsRow base 24 2 v m (flat encId xs)

set_option maxHeartbeats 1600000 in
theorem list_any (most : Int) (A : Option Addr) (n c : Nat) (l : List Rn) (w : World) (hm1 : -9223372036854775808 ≤ most) (hm2 : most ≤ 300) (hl : l.length = n) (hn : n ≤ 1000) (h : Lies w w.heap.size A (flat encRn l)) :
    Calls Try.prog 25 #[.int .i64 most, .slice A n c] w (OwnIds w w.heap.size (listM most l)) := by
  obtain ⟨i0, hi, hz0, hz1, hz2⟩ := info_parts Try.infoID
  have eg : ∀ args w, (callFunc 33 args).run Try.prog w = .ok (.enter 33 args) w := enters_of Try.func33 (by kernel_rfl) rfl
  have EG := Lib.hid eg
  have HL := Lib.hid hl
  clear eg hl
  obtain ⟨K, hK, hK3⟩ : ∃ K : Nat, (K : Int) = max most 0 ∧ K ≤ 300 := ⟨(max most 0).toNat, by omega, by omega⟩
  have hlm : listM most l = if badB l = true ∨ K < cntN l then [] else listOf l := by
    unfold listM
    rw [← hK]
    simp only [Int.ofNat_lt]
  rw [hlm]
  clear hlm
  generalize hR : (if badB l = true ∨ K < cntN l then [] else listOf l) = R
  have HR := Lib.hid hR
  clear hR
  go_enter Try.func25, Try.ntmps25
  go_wp2_with fail
  refine (count_any A n c l w HL.out hn h).mono ?_
  rintro e w1 ⟨rfl, hb1⟩
  go_wp2_with fail
  refine (contains_any (fun r => !runB r) _ #[] EG.out A n c l w1 (fun W r hW => (mayNot_any r W).mono fun _ _ ⟨he, hg⟩ => ⟨he, hW.trans (hg.below.mono hW.size)⟩) HL.out hn (h.on hb1)).mono ?_
  rw [show (l.any fun r => !runB r) = badB l from rfl]
  rintro e w2 ⟨rfl, hb2⟩
  have hb02 : RowKit.Below w.heap.size w w2 := hb1.trans (hb2.mono hb1.size)
  cases hbad : badB l with
  | true =>
    have HE : Hid (R = []) := by
      have := HR.out
      rw [if_pos (.inl hbad)] at this
      exact this.symm
    go_wp2
    go_ret
    rw [HE.out]
    exact OwnIds.of rfl (World.ownsRow_nil _ _ _ _) hb02
  | false =>
    by_cases hcK : K < cntN l
    · have HE : Hid (R = []) := by
        have := HR.out
        rw [if_pos (.inr hcK)] at this
        exact this.symm
      by_cases hneg : most < 0
      · have hK0 : K = 0 := by omega
        have hc0 : (0 : Int) < (cntN l : Int) := by omega
        clear hK hcK
        go_wp2
        go_ret
        rw [HE.out]
        exact OwnIds.of rfl (World.ownsRow_nil _ _ _ _) hb02
      · have hK1 : most = (K : Int) := by omega
        subst hK1
        have hc0 : (K : Int) < (cntN l : Int) := by omega
        clear hK
        go_wp2
        go_ret
        rw [HE.out]
        exact OwnIds.of rfl (World.ownsRow_nil _ _ _ _) hb02
    · have HE : Hid (R = listOf l) := by
        have := HR.out
        rw [if_neg (by rw [hbad]; simp; omega)] at this
        exact this.symm
      have hlen := cnt_len hbad (M := 300) (by omega) (by omega)
      obtain ⟨w3, hmk, hown3, hg3⟩ := make_ids (cntN l) (by omega) w.heap.size w2 hb02.size
      have hb03 : RowKit.Below w.heap.size w w3 := hb02.grown hg3 hb02.size (fun k hk => by cases hk)
      have hLn : (listOf l).length ≤ 300 := by omega
      have hc0 : (cntN l : Int) ≤ (K : Int) := by omega
      have hmx : min (max most 0) 2147483647 = (K : Int) := by omega
      have hdK : decide (K < cntN l) = false := decide_eq_false hcK
      have hdZ : decide ((K : Int) < (cntN l : Int)) = false := decide_eq_false (by omega)
      generalize cntN l = C at hmk hown3 hc0 hdK hdZ
      have hI0 : Ids w3 w.heap.size (.slice (some ⟨w2.heap.size, 0, none⟩) 0 C) (listOf (l.take 0)) := ⟨0, rfl, hown3⟩
      have HLn := Lib.hid hLn
      clear hK hcK hlen hown3 hg3 hb1 hb2 hLn
      go_wp2
      go_loopw [6, 8, 9, 26] (fun s6 _ _ i wr => ∃ k : Nat, k ≤ n ∧ i = .int .i64 k ∧ Ids wr w.heap.size s6 (listOf (l.take k)) ∧ RowKit.Below w.heap.size w wr) (fun _ _ _ i _ => n - (intOf i).toNat)
      case atStart => exact ⟨0, Nat.zero_le _, rfl, hI0, hb03⟩
      case round =>
        clear hI0 hmk hb03 hc0 hdK hdZ hmx
        obtain ⟨k, hk, rfl, hI, hb⟩ := hrel
        by_cases hlt : k < n
        · have hkl : k < l.length := by rw [HL.out]; exact hlt
          obtain ⟨bb, off, rfl, hbl, c0, c1, c2⟩ := (h.below hb).rn hkl
          have hpart : Hid (∀ i, i ≤ l[k].c → (listOf (l.take k)).length + i ≤ 300) := fun i hi => Nat.le_trans (listOf_part l k i hkl hi) HLn.out
          have hsnoc := Lib.hid (listOf_snoc l k hkl)
          have hxc := l[k].hc
          have hrun := (runB_iff l[k]).1 (bad_all hbad l[k] (List.getElem_mem hkl))
          generalize l[k] = x at c0 c1 c2 hpart hsnoc hxc hrun
          have HX := Lib.hid hrun
          clear hrun
          generalize listOf (l.take k) = pre at hI hpart hsnoc
          obtain ⟨m, hm, hown⟩ := hI
          obtain ⟨A6, c6, rfl, _, _⟩ := own_sliceK hown
          have hne6 : Hid ((Value.slice A6 m c6).ownBlock ≠ some wr.heap.size) := fun he => by have := (hown.lt _ he).2; omega
          go_wp2_with fail
          generalize hw5 : World.alloc wr _ = w5
          obtain ⟨hs5, hG5, hcc⟩ := box1 wr w5 _ _ hw5
          have q0 : w5.cell? ⟨wr.heap.size, 0, none⟩ = some (.int .u8 (x.f : Int)) := hcc 0 _ rfl
          have q1 : w5.cell? ⟨wr.heap.size, 1, none⟩ = some (.int .u64 (x.a : Int)) := hcc 1 _ rfl
          have hown5 := own_below hown hG5.below
          have hb5 : RowKit.Below w.heap.size w w5 := hb.trans (hG5.below.mono hb.size)
          have hq5 : wr.heap.size < w5.heap.size := by omega
          have hm5 : Hid ((pre ++ runIds x 0).length = m) := by show _ = _; simpa [runIds] using hm
          have hown50 : w5.ownsRow w.heap.size 24 2 (.slice A6 m c6) m (flat encId (pre ++ runIds x 0)) := by simpa [runIds] using hown5
          clear hcc hw5 hG5 hs5 hown hown5 hm c0 c1 c2
          generalize wr.heap.size = q at *
          go_loopw [6, 9, 32] (fun s6 _ s32 ws => ∃ (i m : Nat), s32 = .int .u64 i ∧ i ≤ x.c ∧ Hid ((pre ++ runIds x i).length = m) ∧ ws.ownsRow w.heap.size 24 2 s6 m (flat encId (pre ++ runIds x i)) ∧ Hid (s6.ownBlock ≠ some q) ∧ q < ws.heap.size ∧
            ws.cell? ⟨q, 0, none⟩ = some (.int .u8 (x.f : Int)) ∧ ws.cell? ⟨q, 1, none⟩ = some (.int .u64 (x.a : Int)) ∧ RowKit.Below w.heap.size w ws) (fun _ _ s32 _ => x.c - (intOf s32).toNat)
          case atStart => exact ⟨0, m, rfl, Nat.zero_le _, hm5, hown50, hne6, hq5, q0, q1, hb5⟩
          case round =>
            clear hm5 hown50 hne6 hq5 q0 q1 hb5
            obtain ⟨i, mi, rfl, hi2, hmi, hown, hne, hqs, q0, q1, hbs⟩ := hrel
            by_cases hlti : i < x.c
            · obtain ⟨A7, c7, rfl, _, _⟩ := own_sliceK hown
              have hmb : mi ≤ 300 := by
                have h1 := hpart.out i (by omega)
                have h2 := hmi.out
                rw [List.length_append, runIds_len] at h2
                omega
              have es : IntKind.u64.wrap ((x.a : Int) + (i : Int)) = ((addI x i).s : Int) := by
                show _ = (((x.a + i) % 18446744073709551616 : Nat) : Int)
                rw [IntKind.wrap_u64]; omega
              have hap : Hid (flat encId (pre ++ runIds x (i + 1)) = flat encId (pre ++ runIds x i) ++ [.int .u8 (x.f : Int), .int .u64 ((addI x i).s : Int)]) := by
                show _ = _
                rw [runIds_succ, ← List.append_assoc, flat_append]
                rfl
              have hlen1 : Hid ((pre ++ runIds x (i + 1)).length = mi + 1) := by
                show _ = _
                have h2 := hmi.out
                rw [List.length_append, runIds_len] at h2 ⊢
                omega
              generalize ((addI x i).s : Int) = sv at es hap
              have hbA : RowKit.Below wr.heap.size wr (wr.alloc (.cells #[.int .u8 (x.f : Int), .int .u64 sv] 24)) := (RowKit.Below.refl _ _).alloc (Nat.le_refl _) _
              have hownA := own_below hown hbA
              have hlit := lies_new wr #[.int .u8 (x.f : Int), .int .u64 sv] 24
              have hszA : w.heap.size ≤ (wr.alloc (.cells #[.int .u8 (x.f : Int), .int .u64 sv] 24)).heap.size := Nat.le_trans hbs.size hbA.size
              have hbrA : RowKit.Below w.heap.size w (wr.alloc (.cells #[.int .u8 (x.f : Int), .int .u64 sv] 24)) := hbs.trans (hbA.mono hbs.size)
              have hq0A : Hid ((wr.alloc (.cells #[.int .u8 (x.f : Int), .int .u64 sv] 24)).cell? ⟨q, 0, none⟩ = some (.int .u8 (x.f : Int))) := (hbA.cell (p := ⟨q, 0, none⟩) hqs).trans q0
              have hq1A : Hid ((wr.alloc (.cells #[.int .u8 (x.f : Int), .int .u64 sv] 24)).cell? ⟨q, 1, none⟩ = some (.int .u64 (x.a : Int))) := (hbA.cell (p := ⟨q, 1, none⟩) hqs).trans q1
              clear hown hbA
              have hz : (i : Int) < (x.c : Int) := by omega
              go_wp2_with (at_builtin; refine wpList_append_lstK rfl _ _ 39 rfl w.heap.size 2 (by decide) 24 i0 (.agg #[.int .u8 0, .int .u64 0]) 16 Try.underlying39 hi hz0 hz1 hz2 rfl _ mi _ rfl hownA _ _ 1 1 [.int .u8 (x.f : Int), .int .u64 sv] rfl rfl hlit (by simp [Value.oneCell']) ?d2 ?d3 hszA ?_)
              case d2 => unfold maxLen; omega
              case d3 => omega
              intro v8 w8 hown8 hg8 hb8 hv8
              rw [← hap.out] at hown8
              have HO8 := Lib.hid hown8
              have hb8' : RowKit.Below w.heap.size w w8 := hbrA.trans hb8
              have r0 := hg8.cell hq0A.out (fun he => hne.out he.symm)
              have r1 := hg8.cell hq1A.out (fun he => hne.out he.symm)
              have hne8 : Hid (v8.ownBlock ≠ some q) := by
                rcases hv8 with h8 | h8
                · rw [h8]; exact hne.out
                · rw [h8]; intro he; injection he with he; first | omega | (simp at he; omega)
              have hq8 : q < w8.heap.size := Nat.lt_of_lt_of_le (by simp; omega) hg8.size
              have ei : IntKind.u64.wrap ((i : Int) + 1) = ((i + 1 : Nat) : Int) := by rw [IntKind.wrap_u64]; omega
              clear hown8 hownA hlit hbrA hb8 hg8 hv8 q0 q1
              go_wp2
              go_roundw
              case rel => exact ⟨i + 1, mi + 1, by go_num, by omega, hlen1, HO8.out, hne8, hq8, r0, r1, hb8'⟩
              case measure => simp [intOf]; omega
            · have hix : i = x.c := by omega
              subst hix
              rw [← hsnoc.out] at hown hmi
              have HI := Lib.hid (show Ids wr w.heap.size _ (listOf (l.take (k + 1))) from ⟨mi, hmi.out, hown⟩)
              clear hown hmi
              go_wp2
              go_roundw
              case rel => exact ⟨k + 1, by omega, by go_num, HI.out, hbs⟩
              case measure => simp [intOf]; omega
        · have hkn : k = n := by omega
          subst hkn
          obtain ⟨m, hm, hown⟩ := hI
          rw [List.take_of_length_le (by rw [HL.out]; exact Nat.le_refl _)] at hm hown
          have HO := Lib.hid hown
          have HM := Lib.hid hm
          clear hown hm
          go_wp2
          go_ret
          rw [HE.out]
          exact OwnIds.of HM.out HO.out hb

end Go.Proofs.Ytoihikeeaobemaa
