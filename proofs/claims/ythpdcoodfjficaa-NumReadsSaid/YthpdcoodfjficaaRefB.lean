/- The walks of the document's own reader: Num, Row and End of a reader that is handed on by value. -/
import Derived.Test.YthpdcoodfjficaaBackA
import Derived.Test.YthpdcoodfjficaaPutsA
import Derived.IntWalk
import Derived.Deep.Cut
import Derived.Deep.CutRange
namespace Go.Proofs.Ythpdcoodfjficaa
open Go.RowKit

/-- The answer of the reference's Num: a number, and the reader behind it. -/
def RNum (w : World) (B : Nat) (m : Nat) (l : List UInt8) (er : Nat) (e : Ending) (w' : World) : Prop :=
  ∃ A n c, e = .returned (.tuple #[.int .u64 m, .agg #[.slice A n c, .int .i64 er]]) ∧ Hid (l.length = n) ∧ n ≤ c ∧ Lies w' B A (bvs l) ∧ Below w.heap.size w w' ∧ (er = 0 → ∃ b off, A = some ⟨b, off, none⟩)

theorem RNum.of {w : World} {B m er n c : Nat} {A : Option Addr} {l : List UInt8} {o1 o2 : Obj} (hl : Hid (l.length = n)) (hnc : n ≤ c) (h : Lies w B A (bvs l)) (hB : B ≤ w.heap.size) (h0 : er ≠ 0) :
    RNum w B m l er (.returned (.tuple #[.int .u64 m, .agg #[.slice A n c, .int .i64 er]])) ((w.alloc o1).alloc o2).drew := by
  have hb : Below w.heap.size w ((w.alloc o1).alloc o2).drew := (((Below.refl _ _).alloc (Nat.le_refl _) _).alloc (by simp) _).drew
  exact ⟨A, n, c, rfl, hl, hnc, h.below (hb.mono hB), hb, fun e => absurd e h0⟩

set_option maxHeartbeats 400000 in
theorem refRNum_bad (A : Option Addr) (B n c er most : Nat) (l : List UInt8) (w : World) (hl : l.length = n) (hnc : n ≤ c) (h : Lies w B A (bvs l)) (hB : B ≤ w.heap.size) (her : 0 < er) :
    Calls Try.prog 18 #[.agg #[.slice A n c, .int .i64 er], .int .u64 most] w (RNum w B 0 l er) := by
  have HL := Lib.hid hl
  have hne : ((er : Int) != 0) = true := by simp; omega
  clear hl
  go_enter Try.func18, Try.ntmps18
  go_wp2
  go_region
  all_goals
    go_wp2
    exact bodyPost_ret (v := .tuple #[.int .u64 0, .agg #[.slice A n c, .int .i64 er]]) (by simp [results, Try.results18, go_sem]) rfl (RNum.of HL hnc h hB (by omega))

set_option maxHeartbeats 400000 in
theorem refRNum_empty (A : Option Addr) (B c most : Nat) (w : World) (h : Lies w B A (bvs [])) (hB : B ≤ w.heap.size) :
    Calls Try.prog 18 #[.agg #[.slice A 0 c, .int .i64 0], .int .u64 most] w (RNum w B 0 [] 2) := by
  go_enter Try.func18, Try.ntmps18
  go_wp2
  go_region
  all_goals
    go_wp2
    exact bodyPost_ret (v := .tuple #[.int .u64 0, .agg #[.slice A 0 c, .int .i64 2]]) (by simp [results, Try.results18, go_sem]) rfl (RNum.of rfl (Nat.zero_le _) h hB (by decide))

set_option maxHeartbeats 400000 in
theorem refRNum_eight (b off B n c most : Nat) (k : UInt8) (t : List UInt8) (w : World) (hl : (k :: t).length = n) (hnc : n ≤ c) (h : Lies w B (some ⟨b, off, none⟩) (bvs (k :: t))) (hB : B ≤ w.heap.size) (hb : b < w.heap.size) (hc : w.cell? ⟨b, off, none⟩ = some (.int .u8 k.toNat)) (h8 : 8 < k.toNat) :
    Calls Try.prog 18 #[.agg #[.slice (some ⟨b, off, none⟩) n c, .int .i64 0], .int .u64 most] w (RNum w B 0 (k :: t) 3) := by
  have HL := Lib.hid hl
  have hn0 : 0 < n := by rw [← hl]; simp
  have h0 : ((n : Int) == 0) = false := by simp; omega
  have hk256 : k.toNat < 256 := k.toNat_lt
  clear hl
  go_enter Try.func18, Try.ntmps18
  go_wp2
  go_region
  all_goals
    go_wp2
    exact bodyPost_ret (v := .tuple #[.int .u64 0, .agg #[.slice (some ⟨b, off, none⟩) n c, .int .i64 3]]) (by simp [results, Try.results18, go_sem]) rfl (RNum.of HL hnc h hB (by decide))

set_option maxHeartbeats 400000 in
theorem refRNum_short (b off B n c most : Nat) (k : UInt8) (t : List UInt8) (w : World) (hl : (k :: t).length = n) (hnc : n ≤ c) (h : Lies w B (some ⟨b, off, none⟩) (bvs (k :: t))) (hB : B ≤ w.heap.size) (hb : b < w.heap.size) (hc : w.cell? ⟨b, off, none⟩ = some (.int .u8 k.toNat)) (h8 : ¬ 8 < k.toNat) (hs : t.length < k.toNat) :
    Calls Try.prog 18 #[.agg #[.slice (some ⟨b, off, none⟩) n c, .int .i64 0], .int .u64 most] w (RNum w B 0 (k :: t) 2) := by
  have HL := Lib.hid hl
  have hn0 : 0 < n := by rw [← hl]; simp
  have h0 : ((n : Int) == 0) = false := by simp; omega
  have hk256 : k.toNat < 256 := k.toNat_lt
  have hs2 : (n : Int) - 1 < (k.toNat : Int) := by rw [← hl]; simp; omega
  have hn9 : n ≤ 9 := by rw [← hl]; simp; omega
  clear hl hs
  go_enter Try.func18, Try.ntmps18
  go_wp2
  go_region
  all_goals
    go_wp2
    exact bodyPost_ret (v := .tuple #[.int .u64 0, .agg #[.slice (some ⟨b, off, none⟩) n c, .int .i64 2]]) (by simp [results, Try.results18, go_sem]) rfl (RNum.of HL hnc h hB (by decide))

theorem str_toList (l : List UInt8) : (str l).toList = l := by rw [ByteArray.toList_eq]; rfl

theorem str_same {a b : List UInt8} (h : a = b) : (!((str a).toList == (str b).toList)) = false := by subst h; simp
theorem str_other {a b : List UInt8} (h : a ≠ b) : (!((str a).toList == (str b).toList)) = true := by
  rw [str_toList, str_toList]
  simpa using h

theorem rnum_form (k : UInt8) (t : List UInt8) (most : Nat) (h8 : ¬ 8 < k.toNat) (hkt : k.toNat ≤ t.length) (hz : 0 < k.toNat ∧ (t[k.toNat - 1]?.getD 0) = 0) : rnum (k :: t) 0 most = (0, k :: t, 3) := by
  have : rd (k :: t) most = (0, 0, 3) := by simp only [rd]; rw [if_neg h8, if_neg (by omega), if_pos hz]
  simp [rnum, this]
theorem rnum_range (k : UInt8) (t : List UInt8) (most : Nat) (h8 : ¬ 8 < k.toNat) (hkt : k.toNat ≤ t.length) (hz : ¬ (0 < k.toNat ∧ (t[k.toNat - 1]?.getD 0) = 0)) (hm : most < val (t.take k.toNat)) : rnum (k :: t) 0 most = (0, k :: t, 6) := by
  have := rd_range k t most h8 (by omega) hz hm
  simp [rnum, this]
theorem rnum_ok (k : UInt8) (t : List UInt8) (most : Nat) (h8 : ¬ 8 < k.toNat) (hkt : k.toNat ≤ t.length) (hz : ¬ (0 < k.toNat ∧ (t[k.toNat - 1]?.getD 0) = 0)) (hm : ¬ most < val (t.take k.toNat)) : rnum (k :: t) 0 most = (val (t.take k.toNat), (k :: t).drop (k.toNat + 1), 0) := by
  have := rd_ok k t most h8 (by omega) hz hm
  simp [rnum, this, Nat.add_comm]

theorem val_u64 (l : List UInt8) (h : l.length ≤ 8) : val l < 18446744073709551616 := by
  have h1 := val_lt l
  have h2 : 256 ^ l.length ≤ 256 ^ 8 := Nat.pow_le_pow_right (by decide) h
  have h3 : (256 : Nat) ^ 8 = 18446744073709551616 := by decide
  omega

theorem mul_step (t : List UInt8) (c k : Nat) (hc : c ≤ 8) (hct : c ≤ t.length) (hk : k ≤ c) (h0 : 0 < k) (hkt : k - 1 < t.length) :
    IntKind.u64.wrap (IntKind.u64.wrap (256 * (val (List.drop k (List.take c t)) : Int)) + IntKind.u64.wrap (t[k - 1].toNat : Int)) = ((val (List.drop (k - 1) (List.take c t)) : Nat) : Int) := by
  have h1 := val_small (List.drop k (List.take c t)) (by simp; omega)
  have h2 := (t[k - 1]).toNat_lt
  rw [val_drop (List.take c t) (k - 1) (by simp; omega), List.getElem_take, show k - 1 + 1 = k by omega]
  rw [wrap_u64, wrap_u64, wrap_u64]
  omega

/-- The writing is the number's own just if its last byte isn't 0. -/
theorem enc_own (k : UInt8) (t : List UInt8) (hkt : k.toNat ≤ t.length) : enc (val (t.take k.toNat)) = k :: t.take k.toNat ↔ ¬ (0 < k.toNat ∧ (t[k.toNat - 1]?.getD 0) = 0) := by
  constructor
  · rintro h ⟨h0, h1⟩
    have h2 : digs (val (t.take k.toNat)) = t.take k.toNat := by injection h
    have h3 : (t.take k.toNat).getLast? = t[k.toNat - 1]? := by
      rw [List.getLast?_eq_getElem?, List.length_take, Nat.min_eq_left hkt, List.getElem?_take, if_pos (by omega)]
    rcases hx : t[k.toNat - 1]? with _ | x
    · rw [List.getElem?_eq_none_iff] at hx; omega
    · rw [hx] at h1
      exact getLast_digs _ x (by rw [h2, h3, hx]) h1
  · intro hz
    have hd : digs (val (t.take k.toNat)) = t.take k.toNat := by
      apply digs_val
      intro x hx hx0
      subst hx0
      rw [List.getLast?_eq_getElem?, List.length_take, Nat.min_eq_left hkt] at hx
      rcases Nat.eq_zero_or_pos k.toNat with h0 | h0
      · rw [h0] at hx; simp at hx
      · rw [List.getElem?_take, if_pos (by omega)] at hx
        exact hz ⟨h0, by rw [hx]; rfl⟩
    rw [enc, hd, List.length_take, Nat.min_eq_left hkt]
    simp

/-- Two blocks of two cells that the call has just made, in a later world. -/
theorem two_blocks {w w7 : World} {x y u v : Value} {T : TypeId} (hb : Below ((w.alloc (.cells #[x, y] T)).alloc (.cells #[u, v] T)).drew.heap.size ((w.alloc (.cells #[x, y] T)).alloc (.cells #[u, v] T)).drew w7) :
    w7.heap[w.heap.size]? = some (.cells #[x, y] T (0, 0)) ∧ w7.heap[w.heap.size + 1]? = some (.cells #[u, v] T (0, 0)) ∧ w.heap.size + 1 < w7.heap.size := by
  have hs : ((w.alloc (.cells #[x, y] T)).alloc (.cells #[u, v] T)).drew.heap.size = w.heap.size + 2 := by
    show ((w.alloc (.cells #[x, y] T)).alloc (.cells #[u, v] T)).heap.size = _
    simp
  refine ⟨?_, ?_, by have := hb.size; omega⟩
  · refine (hb.block _ (by omega)).trans ?_
    show ((w.alloc (.cells #[x, y] T)).alloc (.cells #[u, v] T)).heap[w.heap.size]? = _
    rw [Below.heap_alloc _ _ _ (by simp)]
    exact heap_alloc_new w _
  · refine (hb.block _ (by omega)).trans ?_
    show ((w.alloc (.cells #[x, y] T)).alloc (.cells #[u, v] T)).heap[w.heap.size + 1]? = _
    have := heap_alloc_new (w.alloc (.cells #[x, y] T)) (.cells #[u, v] T)
    simpa using this

theorem row_frozen {w : World} {g : Nat} {cs : Array Value} {t : TypeId} (h : w.heap[g]? = some (.cells cs t (0, 0))) (i : Nat) : w.frozen? ⟨g, i, none⟩ = false := by
  simp [World.frozen?, h]

set_option maxHeartbeats 1600000 in
theorem refRNum_long (b off B n c most : Nat) (k : UInt8) (t : List UInt8) (w : World) (hl : (k :: t).length = n) (hnc : n ≤ c) (hLs : Lies w B (some ⟨b, off, none⟩) (bvs (k :: t))) (hB : B ≤ w.heap.size) (hb : b < w.heap.size) (hc : w.cell? ⟨b, off, none⟩ = some (.int .u8 k.toNat))
    (hct : ∀ i, (h : i < t.length) → w.cell? ⟨b, off + (i + 1), none⟩ = some (.int .u8 t[i].toNat)) (h8 : ¬ 8 < k.toNat) (hs : ¬ t.length < k.toNat) (hn : n ≤ 1000000) :
    Calls Try.prog 18 #[.agg #[.slice (some ⟨b, off, none⟩) n c, .int .i64 0], .int .u64 most] w (RNum w B (rnum (k :: t) 0 most).1 (rnum (k :: t) 0 most).2.1 (rnum (k :: t) 0 most).2.2) := by
  have HL := Lib.hid hl
  have HC := Lib.hid hct
  have hn0 : 0 < n := by rw [← hl]; simp
  have h0 : ((n : Int) == 0) = false := by simp; omega
  have hk256 : k.toNat < 256 := k.toNat_lt
  have hs2 : ¬ (n : Int) - 1 < (k.toNat : Int) := by rw [← hl]; simp; omega
  have hd8 : decide (8 < (k.toNat : Int)) = false := by simp; omega
  have hds : decide ((n : Int) - 1 < (k.toNat : Int)) = false := by simp only [decide_eq_false_iff_not]; exact hs2
  have hkt : k.toNat ≤ t.length := by omega
  clear hl hs hct
  go_enter Try.func18, Try.ntmps18
  go_wp2
  go_loop [7, 8] (fun m i => ∃ j : Nat, j ≤ k.toNat ∧ i = .int .i64 j ∧ m = .int .u64 (val ((t.take k.toNat).drop j))) (fun _ i => (intOf i).toNat)
  case atStart => exact ⟨k.toNat, Nat.le_refl _, by go_num, by rw [List.drop_of_length_le (by simp; omega)]; rfl⟩
  case round =>
    obtain ⟨j, hj, rfl, rfl⟩ := hrel
    by_cases hlt : 0 < j
    · have hx := HC.out (j - 1) (by omega)
      rw [show j - 1 + 1 = j by omega] at hx
      have hjn : j < n := by have := HL.out; simp at this; omega
      go_wp2
      go_round
      case rel => exact ⟨j - 1, by omega, by go_num, congrArg _ (mul_step t k.toNat j (by omega) hkt hj hlt (by omega))⟩
      case measure => simp [intOf]; omega
    · have hj0 : j = 0 := by omega
      subst hj0
      rw [List.drop_zero]
      have HV : Hid (val (t.take k.toNat) < 18446744073709551616) := val_u64 _ (by simp; omega)
      have kS : KeepS w (some ⟨b, off, none⟩) (k.toNat + 1) c (k :: t.take k.toNat) := keepS_of (by simp; omega) (lies_front (t := t.drop k.toNat) (by simpa using hLs.more hB))
      unfold KeepS at kS
      have hbd : Below w.heap.size w ((w.alloc (.cells #[.slice (some ⟨b, off, none⟩) n c, .int .i64 0] 38)).alloc (.cells #[.slice none 0 0, .int .i64 0] 38)).drew := (((Below.refl _ _).alloc (Nat.le_refl _) _).alloc (by simp) _).drew
      generalize hV : val (t.take k.toNat) = V at HV
      have HVE := Lib.hid hV
      clear hV
      have hkc : (k.toNat : Int) + 1 ≤ (c : Int) := by have := HL.out; simp at this; omega
      have g1 : IntKind.i64.wrap ((k.toNat : Int) + 1) = (k.toNat : Int) + 1 := IntWalk.i64_in _ (by omega)
      have g2 : (0 : Int) ≤ (k.toNat : Int) + 1 := by omega
      have g3 : ((k.toNat : Int) + 1).toNat = k.toNat + 1 := by omega
      obtain ⟨bz, hbz⟩ : ∃ bz : Bool, (!((str (enc V)).toList == (str (k :: t.take k.toNat)).toList)) = bz := ⟨_, rfl⟩
      have HBZ := Lib.hid hbz
      clear hbz
      go_upto_region 18 with fail
      go_cut [59] from 50 to 58 (fun s59 wx => s59 = .bool bz ∧ wx.heap[w.heap.size]? = some (.cells #[.slice (some ⟨b, off, none⟩) n c, .int .i64 0] 38 (0, 0)) ∧
        wx.heap[w.heap.size + 1]? = some (.cells #[.slice none 0 0, .int .i64 0] 38 (0, 0)) ∧ Below w.heap.size w wx)
      case first =>
        go_region_with (go_at_call 10; refine (refNum_any V _ HV.out).mono ?_; intro e w7 ho7; obtain ⟨A7, n7, c7, rfl, hs7, hb7⟩ := put_str ho7; clear ho7; unfold Strs at hs7; have hbJ := hbd.trans (hb7.mono hbd.size); obtain ⟨q1, q2, q3⟩ := two_blocks hb7; have p0 := cell_of_row w7 w.heap.size 0 _ _ _ q1; have p1 := cell_of_row w7 w.heap.size 1 _ _ _ q1; simp only [List.getElem?_toArray, List.getElem?_cons_zero, List.getElem?_cons_succ] at p0 p1; have Q1 := Lib.hid q1; have Q2 := Lib.hid q2; clear q1 q2)
        all_goals
          go_wp2_with fail
          go_meet
          exact ⟨congrArg Value.bool HBZ.out, Q1.out, Q2.out, hbJ⟩
      case rest =>
        obtain ⟨rfl, q1, q2, hbJ⟩ := hcut
        clear g1 g2 g3 hbd kS
        have p0 := cell_of_row wc w.heap.size 0 _ _ _ q1
        have p1 := cell_of_row wc w.heap.size 1 _ _ _ q1
        have r0 := cell_of_row wc (w.heap.size + 1) 0 _ _ _ q2
        have r1 := cell_of_row wc (w.heap.size + 1) 1 _ _ _ q2
        simp only [List.getElem?_toArray, List.getElem?_cons_zero, List.getElem?_cons_succ] at p0 p1 r0 r1
        have f0 := row_frozen q1 0
        have f1 := row_frozen q1 1
        have f2 := row_frozen q2 0
        have f3 := row_frozen q2 1
        clear q1 q2
        by_cases hz : 0 < k.toNat ∧ (t[k.toNat - 1]?.getD 0) = 0
        · have hT : bz = true := HBZ.out.symm.trans (str_other (fun e => (enc_own k t hkt).1 (by rw [HVE.out]; exact e) hz))
          subst hT
          have HRN : Hid (rnum (k :: t) 0 most = (0, k :: t, 3)) := rnum_form k t most h8 hkt hz
          go_wp2
          go_region
          all_goals
            go_wp2
            refine bodyPost_ret (v := .tuple #[.int .u64 0, .agg #[.slice (some ⟨b, off, none⟩) n c, .int .i64 3]]) (by simp [results, Try.results18, go_sem, r0, r1]) rfl ?_
            rw [HRN.out]
            have hbE := (((hbJ.setCell (p := ⟨w.heap.size, 1, none⟩) (Nat.le_refl _) (.int .i64 3)).setCell (p := ⟨w.heap.size + 1, 0, none⟩) (Nat.le_succ _) (.slice (some ⟨b, off, none⟩) n c)).setCell (p := ⟨w.heap.size + 1, 1, none⟩) (Nat.le_succ _) (.int .i64 3)).drew
            exact ⟨_, _, _, rfl, HL, hnc, hLs.below (hbE.mono hB), hbE, fun e => by cases e⟩
        · have hT : bz = false := HBZ.out.symm.trans (str_same (by rw [← HVE.out]; exact (enc_own k t hkt).2 hz))
          subst hT
          by_cases hm : most < V
          · have HRN : Hid (rnum (k :: t) 0 most = (0, k :: t, 6)) := rnum_range k t most h8 hkt hz (by rw [HVE.out]; exact hm)
            go_wp2
            go_region
            all_goals
              go_wp2
              refine bodyPost_ret (v := .tuple #[.int .u64 0, .agg #[.slice (some ⟨b, off, none⟩) n c, .int .i64 6]]) (by simp [results, Try.results18, go_sem, r0, r1]) rfl ?_
              rw [HRN.out]
              have hbE := (((hbJ.setCell (p := ⟨w.heap.size, 1, none⟩) (Nat.le_refl _) (.int .i64 6)).setCell (p := ⟨w.heap.size + 1, 0, none⟩) (Nat.le_succ _) (.slice (some ⟨b, off, none⟩) n c)).setCell (p := ⟨w.heap.size + 1, 1, none⟩) (Nat.le_succ _) (.int .i64 6)).drew
              exact ⟨_, _, _, rfl, HL, hnc, hLs.below (hbE.mono hB), hbE, fun e => by cases e⟩
          · have HRN : Hid (rnum (k :: t) 0 most = (V, (k :: t).drop (k.toNat + 1), 0)) := by
              have := rnum_ok k t most h8 hkt hz (by rw [HVE.out]; exact hm)
              rw [HVE.out] at this
              exact this
            have hkn : (k.toNat : Int) + 1 ≤ (n : Int) := by have := HL.out; simp at this; omega
            have HCUT := Lib.hid (lies_cut (s := k.toNat + 1) (c := c) hLs (by rw [HL.out]; exact hnc))
            have HD : Hid (((k :: t).drop (k.toNat + 1)).length = n - (k.toNat + 1)) := by show _ = _; rw [List.length_drop, HL.out]
            go_wp2
            all_goals go_region
            all_goals go_wp2
            · have hck : c = k.toNat + 1 := by omega
              refine bodyPost_ret (v := .tuple #[.int .u64 V, .agg #[.slice (some ⟨b, off, none⟩) (n - (k.toNat + 1)) 0, .int .i64 0]]) (by simp [results, Try.results18, go_sem, r0, r1]) rfl ?_
              rw [HRN.out]
              have hbE := (((hbJ.setCell (p := ⟨w.heap.size, 0, none⟩) (Nat.le_refl _) (.slice (some ⟨b, off, none⟩) (n - (k.toNat + 1)) 0)).setCell (p := ⟨w.heap.size + 1, 0, none⟩) (Nat.le_succ _) (.slice (some ⟨b, off, none⟩) (n - (k.toNat + 1)) 0)).setCell (p := ⟨w.heap.size + 1, 1, none⟩) (Nat.le_succ _) (.int .i64 0)).drew
              have hcut := HCUT.out
              rw [if_pos hck] at hcut
              exact ⟨_, _, _, rfl, HD, by omega, hcut.below (hbE.mono hB), hbE, fun _ => ⟨_, _, rfl⟩⟩
            · refine bodyPost_ret (v := .tuple #[.int .u64 V, .agg #[.slice (some ⟨b, off + (k.toNat + 1), none⟩) (n - (k.toNat + 1)) (c - (k.toNat + 1)), .int .i64 0]]) (by simp [results, Try.results18, go_sem, r0, r1]) rfl ?_
              rw [HRN.out]
              have hbE := (((hbJ.setCell (p := ⟨w.heap.size, 0, none⟩) (Nat.le_refl _) (.slice (some ⟨b, off + (k.toNat + 1), none⟩) (n - (k.toNat + 1)) (c - (k.toNat + 1)))).setCell (p := ⟨w.heap.size + 1, 0, none⟩) (Nat.le_succ _) (.slice (some ⟨b, off + (k.toNat + 1), none⟩) (n - (k.toNat + 1)) (c - (k.toNat + 1)))).setCell (p := ⟨w.heap.size + 1, 1, none⟩) (Nat.le_succ _) (.int .i64 0)).drew
              have hcut := HCUT.out
              rw [if_neg (by omega)] at hcut
              exact ⟨_, _, _, rfl, HD, by omega, hcut.below (hbE.mono hB), hbE, fun _ => ⟨_, _, rfl⟩⟩

theorem refRNum_any (A : Option Addr) (B n c er most : Nat) (l : List UInt8) (w : World) (hl : l.length = n) (hnc : n ≤ c) (h : Lies w B A (bvs l)) (hB : B ≤ w.heap.size) (hn : n ≤ 1000000) :
    Calls Try.prog 18 #[.agg #[.slice A n c, .int .i64 er], .int .u64 most] w (RNum w B (rnum l er most).1 (rnum l er most).2.1 (rnum l er most).2.2) := by
  by_cases her : er = 0
  · subst her
    rcases l with _ | ⟨k, t⟩
    · simp at hl; subst hl
      exact refRNum_empty A B c most w h hB
    · obtain ⟨b, off, rfl, hb, hc⟩ := h (by simp [bvs])
      have hc0 : w.cell? ⟨b, off, none⟩ = some (.int .u8 k.toNat) := hc 0 _ (by simp [bvs, bv])
      have hct : ∀ i, (h : i < t.length) → w.cell? ⟨b, off + (i + 1), none⟩ = some (.int .u8 t[i].toNat) := fun i hi => hc (i + 1) _ (by simp [bvs, bv, hi])
      by_cases h8 : 8 < k.toNat
      · have e : rnum (k :: t) 0 most = (0, k :: t, 3) := by simp [rnum, rd, h8]
        rw [e]
        exact refRNum_eight b off B n c most k t w hl hnc h hB (by omega) hc0 h8
      · by_cases hs : t.length < k.toNat
        · have e : rnum (k :: t) 0 most = (0, k :: t, 2) := by simp [rnum, rd, h8, hs]
          rw [e]
          exact refRNum_short b off B n c most k t w hl hnc h hB (by omega) hc0 h8 hs
        · exact refRNum_long b off B n c most k t w hl hnc h hB (by omega) hc0 hct h8 hs hn
  · have e : rnum l er most = (0, l, er) := by simp [rnum, her]
    rw [e]
    exact refRNum_bad A B n c er most l w hl hnc h hB (by omega)

end Go.Proofs.Ythpdcoodfjficaa
