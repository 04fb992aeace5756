/- Ids and runs compared; slices.Compact at ids. -/
import Derived.Test.YtoihikeeaobemaaIdF
import Derived.Laws.StructEq
import Derived.BigQuiet
namespace Go.Proofs.Ytoihikeeaobemaa
open Go.RowKit Go.Sort

theorem eqlId (x y : Id) (w : World) : (binOp .eql 24 (.agg #[.int .u8 (x.f : Int), .int .u64 (x.s : Int)]) (.agg #[.int .u8 (y.f : Int), .int .u64 (y.s : Int)])).run Try.prog w = .ok (.bool (decide (x = y))) w := by
  have u5 := Try.underlying5
  have a5 := Try.isAgg5
  have z5 := Try.sizeOf5
  have u22 := Try.underlying22
  have a22 := Try.isAgg22
  have z22 := Try.sizeOf22
  have hS : Try.prog.underlying 24 = some (.struct (Try.prog.fieldsOf 24)) := by kernel_rfl
  have hp : Try.prog.stoodInHeld 24 = false := by kernel_rfl
  have he : decide (x = y) = (decide (x.f = y.f) && decide (x.s = y.s)) := by
    rw [Bool.eq_iff_iff]
    simp only [Bool.and_eq_true, decide_eq_true_eq]
    exact ⟨fun h => by subst h; exact ⟨rfl, rfl⟩, fun h => Id.same h.1 h.2⟩
  rw [he, run_eql_struct, show (10000 : Nat) = 9999 + 1 from rfl, run_equalIn_agg w 9999 24 _ _ hS hp]
  simp only [Program.fieldsOf, Try.underlying24]
  go_simp
  by_cases h1 : x.f = y.f <;> by_cases h2 : x.s = y.s <;> simp [h1, h2] <;> omega

theorem eqlRn (x y : Rn) (w : World) : (binOp .eql 26 (.agg #[.int .u8 (x.f : Int), .int .u64 (x.a : Int), .int .u64 (x.c : Int)]) (.agg #[.int .u8 (y.f : Int), .int .u64 (y.a : Int), .int .u64 (y.c : Int)])).run Try.prog w = .ok (.bool (decide (x = y))) w := by
  have u5 := Try.underlying5
  have a5 := Try.isAgg5
  have z5 := Try.sizeOf5
  have u22 := Try.underlying22
  have a22 := Try.isAgg22
  have z22 := Try.sizeOf22
  have hS : Try.prog.underlying 26 = some (.struct (Try.prog.fieldsOf 26)) := by kernel_rfl
  have hp : Try.prog.stoodInHeld 26 = false := by kernel_rfl
  have he : decide (x = y) = (decide (x.f = y.f) && decide (x.a = y.a) && decide (x.c = y.c)) := by
    rw [Bool.eq_iff_iff]
    simp only [Bool.and_eq_true, decide_eq_true_eq]
    exact ⟨fun h => by subst h; exact ⟨⟨rfl, rfl⟩, rfl⟩, fun h => Rn.same h.1.1 h.1.2 h.2⟩
  rw [he, run_eql_struct, show (10000 : Nat) = 9999 + 1 from rfl, run_equalIn_agg w 9999 26 _ _ hS hp]
  simp only [Program.fieldsOf, Try.underlying26]
  go_simp
  by_cases h1 : x.f = y.f <;> by_cases h2 : x.a = y.a <;> by_cases h3 : x.c = y.c <;> simp [h1, h2, h3] <;> omega

theorem neqId (x y : Id) (w : World) : (binOp .neq 24 (.agg #[.int .u8 (x.f : Int), .int .u64 (x.s : Int)]) (.agg #[.int .u8 (y.f : Int), .int .u64 (y.s : Int)])).run Try.prog w = .ok (.bool (!decide (x = y))) w := by
  have u5 := Try.underlying5
  have a5 := Try.isAgg5
  have z5 := Try.sizeOf5
  have u22 := Try.underlying22
  have a22 := Try.isAgg22
  have z22 := Try.sizeOf22
  have hS : Try.prog.underlying 24 = some (.struct (Try.prog.fieldsOf 24)) := by kernel_rfl
  have hp : Try.prog.stoodInHeld 24 = false := by kernel_rfl
  have he : decide (x = y) = (decide (x.f = y.f) && decide (x.s = y.s)) := by
    rw [Bool.eq_iff_iff]
    simp only [Bool.and_eq_true, decide_eq_true_eq]
    exact ⟨fun h => by subst h; exact ⟨rfl, rfl⟩, fun h => Id.same h.1 h.2⟩
  rw [he, run_neq_struct, show (10000 : Nat) = 9999 + 1 from rfl, run_equalIn_agg w 9999 24 _ _ hS hp]
  simp only [Program.fieldsOf, Try.underlying24]
  go_simp
  by_cases h1 : x.f = y.f <;> by_cases h2 : x.s = y.s <;> simp [h1, h2] <;> omega

theorem neqRn (x y : Rn) (w : World) : (binOp .neq 26 (.agg #[.int .u8 (x.f : Int), .int .u64 (x.a : Int), .int .u64 (x.c : Int)]) (.agg #[.int .u8 (y.f : Int), .int .u64 (y.a : Int), .int .u64 (y.c : Int)])).run Try.prog w = .ok (.bool (!decide (x = y))) w := by
  have u5 := Try.underlying5
  have a5 := Try.isAgg5
  have z5 := Try.sizeOf5
  have u22 := Try.underlying22
  have a22 := Try.isAgg22
  have z22 := Try.sizeOf22
  have hS : Try.prog.underlying 26 = some (.struct (Try.prog.fieldsOf 26)) := by kernel_rfl
  have hp : Try.prog.stoodInHeld 26 = false := by kernel_rfl
  have he : decide (x = y) = (decide (x.f = y.f) && decide (x.a = y.a) && decide (x.c = y.c)) := by
    rw [Bool.eq_iff_iff]
    simp only [Bool.and_eq_true, decide_eq_true_eq]
    exact ⟨fun h => by subst h; exact ⟨⟨rfl, rfl⟩, rfl⟩, fun h => Rn.same h.1.1 h.1.2 h.2⟩
  rw [he, run_neq_struct, show (10000 : Nat) = 9999 + 1 from rfl, run_equalIn_agg w 9999 26 _ _ hS hp]
  simp only [Program.fieldsOf, Try.underlying26]
  go_simp
  by_cases h1 : x.f = y.f <;> by_cases h2 : x.a = y.a <;> by_cases h3 : x.c = y.c <;> simp [h1, h2, h3] <;> omega

/-! ### What Compact keeps -/
/-- Of a list behind p those that aren't as the one ahead. -/
def cptFrom (p : Id) : List Id → List Id
  | [] => []
  | x :: r => if x = p then cptFrom x r else x :: cptFrom x r
def cpt : List Id → List Id
  | [] => []
  | x :: r => x :: cptFrom x r

theorem cptFrom_snoc (y : Id) : ∀ (l : List Id) (p : Id), cptFrom p (l ++ [y]) = cptFrom p l ++ (if y = (p :: l).getLast (by simp) then [] else [y])
  | [], p => by by_cases h : y = p <;> simp [cptFrom, h]
  | x :: r, p => by
    have ih := cptFrom_snoc y r x
    have hl : (p :: x :: r).getLast (by simp) = (x :: r).getLast (by simp) := by simp [List.getLast_cons]
    rw [List.cons_append]
    simp only [cptFrom]
    rw [ih, hl]
    split <;> simp

theorem cpt_snoc (l : List Id) (j : Nat) (hj : j < l.length) (h1 : 1 ≤ j) : cpt (l.take (j + 1)) = cpt (l.take j) ++ (if l[j] = l[j - 1] then [] else [l[j]]) := by
  obtain ⟨x, r, rfl⟩ : ∃ x r, l = x :: r := by
    rcases l with _ | ⟨x, r⟩
    · simp at hj
    · exact ⟨x, r, rfl⟩
  obtain ⟨q, rfl⟩ : ∃ q, j = q + 1 := ⟨j - 1, by omega⟩
  have hq : q < r.length := by simpa using hj
  rw [List.take_succ_cons, List.take_succ_cons, cpt, cpt, List.take_succ_eq_append_getElem hq, cptFrom_snoc, List.cons_append]
  have e1 : (x :: r.take q).getLast (by simp) = (x :: r)[q] := by
    rw [List.getLast_eq_getElem]
    simp only [List.length_cons, List.length_take]
    rcases q with _ | q
    · simp
    · simp only [Nat.min_eq_left (by omega : q + 1 ≤ r.length), Nat.add_sub_cancel, List.getElem_cons_succ, List.getElem_take]
  rw [e1]
  simp only [List.getElem_cons_succ, Nat.add_sub_cancel]

/-- What Compact has made, behind the first two that are the same. -/
structure Cpt (l dk : List Id) (k j : Nat) : Prop where
  len : dk.length = l.length
  lt : k < j
  pos : 1 ≤ k
  le : j ≤ l.length
  front : dk.take k = cpt (l.take j)
  back : ∀ t, j ≤ t + 1 → dk[t]? = l[t]?

theorem Cpt.at_ {l dk : List Id} {k j : Nat} (h : Cpt l dk k j) {t : Nat} (ht : j ≤ t + 1) (hl : t < l.length) : dk[t]'(by rw [h.len]; exact hl) = l[t] := by
  have := h.back t ht
  rw [List.getElem?_eq_getElem (by rw [h.len]; exact hl), List.getElem?_eq_getElem hl] at this
  exact Option.some.inj this

theorem Cpt.keep {l dk : List Id} {k j : Nat} (h : Cpt l dk k j) (hj : j < l.length) (hne : l[j] ≠ l[j - 1]'(by omega)) : Cpt l (dk.set k l[j]) (k + 1) (j + 1) := by
  have hlt := h.lt
  have hpos := h.pos
  refine ⟨by simp [h.len], by omega, by omega, hj, ?_, fun t ht => ?_⟩
  · have hk : k < dk.length := by have := h.len; omega
    rw [List.take_succ_eq_append_getElem (by simpa using hk), List.take_set_of_le (Nat.le_refl k), h.front, cpt_snoc l j hj (by omega), if_neg hne]
    simp
  · rw [List.getElem?_set_ne (by omega)]
    exact h.back t (by omega)

theorem Cpt.skip {l dk : List Id} {k j : Nat} (h : Cpt l dk k j) (hj : j < l.length) (he : l[j] = l[j - 1]'(by omega)) : Cpt l dk k (j + 1) := by
  have hlt := h.lt
  have hpos := h.pos
  refine ⟨h.len, by omega, hpos, hj, ?_, fun t ht => h.back t (by omega)⟩
  rw [h.front, cpt_snoc l j hj (by omega), if_pos he, List.append_nil]

theorem Cpt.start {l : List Id} {k : Nat} (hk : k < l.length) (h1 : 1 ≤ k) (hc : cpt (l.take k) = l.take k) (he : l[k] = l[k - 1]'(by omega)) : Cpt l l k (k + 1) :=
  ⟨rfl, by omega, h1, hk, by rw [cpt_snoc l k hk h1, if_pos he, List.append_nil, hc], fun _ _ => rfl⟩

theorem cpt_one (l : List Id) (h : 1 ≤ l.length) : cpt (l.take 1) = l.take 1 := by
  rcases l with _ | ⟨x, r⟩
  · simp at h
  · simp [cpt, cptFrom]

theorem cpt_on {l : List Id} {k : Nat} (hk : k < l.length) (h1 : 1 ≤ k) (hc : cpt (l.take k) = l.take k) (hne : l[k] ≠ l[k - 1]'(by omega)) : cpt (l.take (k + 1)) = l.take (k + 1) := by
  rw [cpt_snoc l k hk h1, if_neg hne, hc, List.take_succ_eq_append_getElem hk]

theorem guardId : Try.prog.eqGuardType Try.prog.depth 24 = false := by kernel_rfl
theorem guardRn : Try.prog.eqGuardType Try.prog.depth 26 = false := by kernel_rfl
theorem belowN {B n : Nat} {a w : World} (h : RowKit.Below B a w) : RowKit.Below B a (w.drewN n) := ⟨h.os, h.tape, h.output, h.size, h.block⟩

set_option maxHeartbeats 1600000 in
theorem compact_any (A : Option Addr) (n c base : Nat) (l : List Id) (w : World) (hl : l.length = n) (hn : n ≤ 1000) (hb : base ≤ w.heap.size) (h : w.ownsRow base 24 2 (.slice A n c) n (flat encId l)) :
    Calls Try.prog 39 #[.slice A n c] w (OwnIds w base (cpt l)) := by
  have mixed := mixedOrders
  by_cases h2 : n < 2
  · have hc : cpt l = l := by
      have : l.take n = l := List.take_of_length_le (by omega)
      rcases n with _ | n
      · have : l = [] := List.eq_nil_of_length_eq_zero hl
        subst this; rfl
      · have h1 := cpt_one l (by omega)
        rwa [show (1 : Nat) = n + 1 by omega, this] at h1
    have HC := Lib.hid hc
    have HO := Lib.hid h
    have HL := Lib.hid hl
    clear hc h hl
    go_enter Try.func39, Try.ntmps39
    go_wp2
    go_ret
    rw [HC.out]
    exact OwnIds.of HL.out HO.out (RowKit.Below.refl _ _)
  · obtain ⟨gg, cap, hv, hbg, hlt⟩ := h.form (by omega)
    obtain ⟨rfl, rfl⟩ : A = some ⟨gg, 0, none⟩ ∧ c = cap := by injection hv with e1 _ e3; exact ⟨e1, e3⟩
    have HO := Lib.hid h
    have HL := Lib.hid hl
    clear h hl hv
    go_enter Try.func39, Try.ntmps39
    go_wp2
    go_loopw [3, 4, 5] (fun s3 _ _ wr => ∃ k : Nat, s3 = .int .i64 k ∧ 1 ≤ k ∧ k ≤ n ∧ Hid (cpt (l.take k) = l.take k) ∧ ∃ q, wr = w.drewN q) (fun s3 _ _ _ => n - (intOf s3).toNat)
    case atStart => exact ⟨1, rfl, by omega, by omega, cpt_one l (by rw [HL.out]; omega), 0, rfl⟩
    case round =>
      obtain ⟨k, rfl, hk1, hkn, hC, q, rfl⟩ := hrel
      by_cases hlt2 : k < n
      · have hkl : k < l.length := by rw [HL.out]; exact hlt2
        obtain ⟨kp, rfl⟩ : ∃ kp, k = kp + 1 := ⟨k - 1, by omega⟩
        have hkp : kp < l.length := by omega
        have c0 : w.cell? ⟨gg, (kp + 1) * 2, none⟩ = some (.int .u8 (l[kp + 1].f : Int)) := by rw [HO.out.cellAt _ (by omega)]; exact ids_at0 l (kp + 1) hkl
        have c1 : w.cell? ⟨gg, (kp + 1) * 2 + 1, none⟩ = some (.int .u64 (l[kp + 1].s : Int)) := by rw [HO.out.cellAt _ (by omega)]; exact ids_at1 l (kp + 1) hkl
        have d0 : w.cell? ⟨gg, kp * 2, none⟩ = some (.int .u8 (l[kp].f : Int)) := by rw [HO.out.cellAt _ (by omega)]; exact ids_at0 l kp hkp
        have d1 : w.cell? ⟨gg, kp * 2 + 1, none⟩ = some (.int .u64 (l[kp].s : Int)) := by rw [HO.out.cellAt _ (by omega)]; exact ids_at1 l kp hkp
        have hE := eqlId l[kp + 1] l[kp]
        have hG := guardId
        have hpos : (0 : Int) ≤ (kp : Int) + 1 := by omega
        have hlt3 : (kp : Int) + 1 < (n : Int) := by omega
        have hlt4 : (kp : Int) < (n : Int) := by omega
        have e0 : ((kp : Int) + 1).toNat = kp + 1 := by omega
        have ew : IntKind.i64.wrap (kp : Int) = (kp : Int) := by rw [IntKind.wrap_i64]; omega
        generalize hd : decide (l[kp + 1] = l[kp]) = bd at hE
        have HD := Lib.hid hd
        clear hd
        cases bd with
        | false =>
          go_wp2_with fail
          go_quiet (fail)
          go_wp2
          go_roundw
          case rel => exact ⟨kp + 1 + 1, by go_num, by omega, by omega, cpt_on hkl (by omega) hC.out (of_decide_eq_false HD.out), _, rfl⟩
          case measure => simp [intOf]; omega
        | true =>
          go_wp2_with fail
          go_quiet (fail)
          have hcn : n ≤ c := by
            obtain ⟨_, _, hv, h1, _⟩ := own_sliceK HO.out
            injection hv with _ _ e3
            omega
          have hst : Hid (Cpt l l (kp + 1) (kp + 1 + 1)) := Cpt.start hkl (by omega) hC.out (of_decide_eq_true HD.out)
          clear hE c0 c1 d0 d1 hC HD hlt4 ew
          go_wp2
          go_loopw [3, 5] (fun s3 s5 wr => ∃ (k m : Nat) (dk : List Id), s3 = .int .i64 k ∧ s5 = .int .i64 ((m + 1 : Nat) : Int) ∧ kp + 1 + (m + 1) ≤ n ∧ Hid (Cpt l dk k (kp + 1 + (m + 1))) ∧ wr.ownsRow base 24 2 (.slice (some ⟨gg, 0, none⟩) n c) n (flat encId dk) ∧ RowKit.Below base w wr) (fun _ s5 _ => n - (intOf s5).toNat)
          case atStart => exact ⟨kp + 1, 0, l, rfl, rfl, by omega, hst, HO.out, belowN (RowKit.Below.refl _ _)⟩
          case round =>
            clear hst HO
            obtain ⟨k, m, dk, rfl, rfl, hmn, hK, hown, hbr⟩ := hrel
            have hkj : k < kp + 1 + (m + 1) := hK.out.lt
            have hdl : dk.length = n := by rw [hK.out.len, HL.out]
            have hbs : base ≤ wr.heap.size := Nat.le_trans hb hbr.size
            have hgl : gg < wr.heap.size := (hown.lt gg rfl).2
            by_cases hlt5 : kp + 1 + (m + 1) < n
            · have hjl : kp + 1 + (m + 1) < l.length := by rw [HL.out]; exact hlt5
              have hj2 : kp + 1 + m < l.length := by omega
              have x0 : wr.cell? ⟨gg, (kp + 1) * 2 + (m + 1) * 2, none⟩ = some (.int .u8 (l[kp + 1 + (m + 1)].f : Int)) := by
                rw [show (kp + 1) * 2 + (m + 1) * 2 = (kp + 1 + (m + 1)) * 2 by omega, hown.cellAt _ (by omega), ids_at0 dk _ (by omega), hK.out.at_ (by omega) hjl]
              have x1 : wr.cell? ⟨gg, (kp + 1) * 2 + (m + 1) * 2 + 1, none⟩ = some (.int .u64 (l[kp + 1 + (m + 1)].s : Int)) := by
                rw [show (kp + 1) * 2 + (m + 1) * 2 = (kp + 1 + (m + 1)) * 2 by omega, hown.cellAt _ (by omega), ids_at1 dk _ (by omega), hK.out.at_ (by omega) hjl]
              have y0 : wr.cell? ⟨gg, (kp + 1) * 2 + m * 2, none⟩ = some (.int .u8 (l[kp + 1 + m].f : Int)) := by
                rw [show (kp + 1) * 2 + m * 2 = (kp + 1 + m) * 2 by omega, hown.cellAt _ (by omega), ids_at0 dk _ (by omega), hK.out.at_ (by omega) hj2]
              have y1 : wr.cell? ⟨gg, (kp + 1) * 2 + m * 2 + 1, none⟩ = some (.int .u64 (l[kp + 1 + m].s : Int)) := by
                rw [show (kp + 1) * 2 + m * 2 = (kp + 1 + m) * 2 by omega, hown.cellAt _ (by omega), ids_at1 dk _ (by omega), hK.out.at_ (by omega) hj2]
              have hE := neqId l[kp + 1 + (m + 1)] l[kp + 1 + m]
              have hm1 : (0 : Int) ≤ (m : Int) + 1 := by omega
              have hm2 : m + 1 < n - (kp + 1) := by omega
              have hm3 : m < n - (kp + 1) := by omega
              have em : ((m : Int) + 1).toNat = m + 1 := by omega
              have ew : IntKind.i64.wrap (m : Int) = (m : Int) := by rw [IntKind.wrap_i64]; omega
              generalize hd : decide (l[kp + 1 + (m + 1)] = l[kp + 1 + m]) = bd at hE
              have HD := Lib.hid hd
              have HDL := Lib.hid hdl
              clear hd hdl
              cases bd with
              | true =>
                have H2 := Lib.hid hown
                clear hown
                go_wp2_with fail
                go_quiet (fail)
                go_wp2
                go_roundw
                case rel => exact ⟨k, m + 1, dk, rfl, by go_num, by omega, hK.out.skip hjl (of_decide_eq_true HD.out), H2.out, belowN hbr⟩
                case measure => simp [intOf]; omega
              | false =>
                have hid : k < dk.length := by rw [HDL.out]; omega
                have o0 : wr.cell? ⟨gg, k * 2, none⟩ = some (.int .u8 (dk[k].f : Int)) := by rw [hown.cellAt _ (by omega)]; exact ids_at0 dk k hid
                have o1 : wr.cell? ⟨gg, k * 2 + 1, none⟩ = some (.int .u64 (dk[k].s : Int)) := by rw [hown.cellAt _ (by omega)]; exact ids_at1 dk k hid
                have f0 := hown.frozenAt (k * 2)
                have f1 := hown.frozenAt (k * 2 + 1)
                generalize (dk[k].f : Int) = of at o0
                generalize (dk[k].s : Int) = os at o1
                have hkn3 : k < n := by omega
                have H2 := Lib.hid hown
                clear hown
                go_wp2_with fail
                go_quiet (fail)
                go_wp2
                go_roundw
                case rel =>
                  refine ⟨k + 1, m + 1, dk.set k l[kp + 1 + (m + 1)], by go_num, by go_num, by omega, hK.out.keep hjl (of_decide_eq_false HD.out), ?_, ?_⟩
                  · have H3 : (wr.drewN nq).ownsRow base 24 2 (.slice (some ⟨gg, 0, none⟩) n c) n (flat encId dk) := H2.out
                    have s2 := ((H3.stored (k * 2) (.int .u8 (l[kp + 1 + (m + 1)].f : Int))).1.stored (k * 2 + 1) (.int .u64 (l[kp + 1 + (m + 1)].s : Int))).1
                    rwa [ids_set dk k l[kp + 1 + (m + 1)] hid] at s2
                  · exact ((belowN hbr).setCell (p := ⟨gg, _, none⟩) hbg _).setCell (p := ⟨gg, _, none⟩) hbg _
                case measure => simp [intOf]; omega
            · have hjn : kp + 1 + (m + 1) = n := by omega
              have hkn3 : k < n := by omega
              obtain ⟨w3, hcl, hown3, hg3⟩ := clear_own (k := 2) (ty := 0) (i := k) Try.underlying39 Try.zeroValue24 rfl (by simp [Value.cells, Value.oneCell']) (by decide) hkn3 (c - k) hown
              rw [flat_take encId_len dk k (by omega), hK.out.front, hjn, ← HL.out, List.take_length] at hown3
              have hlen : (cpt l).length = k := by
                have := congrArg List.length hK.out.front
                rw [List.length_take, hjn, ← HL.out, List.take_length] at this
                omega
              have HO3 := Lib.hid hown3
              have HLEN := Lib.hid hlen
              have hb3 : RowKit.Below base w w3 := hbr.grown hg3 hbs (fun q hq => by injection hq with hq; omega)
              have hm2 : ¬ m + 1 < n - (kp + 1) := by omega
              clear hown hown3 hlen hK hdl hg3
              go_wp2
              go_ret
              exact OwnIds.of HLEN.out HO3.out hb3
      · have hkn2 : k = n := by omega
        have HF : Hid (cpt l = l) := by
          have := hC.out
          rwa [List.take_of_length_le (by rw [HL.out]; omega)] at this
        go_wp2
        go_ret
        rw [HF.out]
        exact OwnIds.of HL.out HO.out (belowN (RowKit.Below.refl _ _))
end Go.Proofs.Ytoihikeeaobemaa
