/- The document's Turned: bytes of a string, turned bit by bit. -/
import Derived.Test.YtjecphjdmjoeiaaBgK
import Derived.Laws.IdiomStrings
namespace Go.Proofs.Ytjecphjdmjoeiaa
open Go.RowKit Go.Sort

/-- The block that []byte(s) lays: it bears a mark behind its end. -/
def SRow (W : World) (g n : Nat) (l : List UInt8) : Prop := ∃ cs m, W.heap[g]? = some (.cells cs 5 (m, m + 1)) ∧ cs.size = m ∧ l.length = n ∧ n ≤ m ∧ cs.toList.take n = bvs l

theorem SRow.cell {W : World} {g n : Nat} {l : List UInt8} (h : SRow W g n l) {j : Nat} (hj : j < n) : W.cell? ⟨g, j, none⟩ = some (.int .u8 ((l.getD j 0).toNat : Int)) ∧ W.frozen? ⟨g, j, none⟩ = false := by
  obtain ⟨cs, m, hg, hm, hl, hnm, ht⟩ := h
  constructor
  · rw [cell_of_row W g j _ _ _ hg]
    have h1 : (cs.toList.take n)[j]? = cs[j]? := by rw [List.getElem?_take, if_pos hj]; simp
    rw [← h1, ht, bvs_at (by omega)]
    simp [bv, List.getD, hl, hj]
  · unfold World.frozen?
    rw [hg]
    simp
    omega

theorem SRow.lies {W : World} {g n : Nat} {l : List UInt8} (h : SRow W g n l) : Lies W W.heap.size (some ⟨g, 0, none⟩) (bvs l) := fun _ => by
  have hn : l.length = n := by obtain ⟨_, _, _, _, h, _⟩ := h; exact h
  have hlt : g < W.heap.size := by obtain ⟨_, _, h, _⟩ := h; exact (Array.getElem?_eq_some_iff.1 h).1
  refine ⟨g, 0, rfl, hlt, fun i u hu => ?_⟩
  have hi : i < n := by
    have := (List.getElem?_eq_some_iff.1 hu).1
    rw [bvs_length] at this
    omega
  rw [Nat.zero_add, (h.cell hi).1, ← hu, bvs_at (by omega)]
  simp [bv, List.getD, hn, hi]

theorem SRow.set {W : World} {g n : Nat} {l : List UInt8} (h : SRow W g n l) (j : Nat) (y : UInt8) : SRow (W.setCell ⟨g, j, none⟩ (bv y)) g n (l.set j y) := by
  obtain ⟨cs, m, hg, hm, hl, hnm, ht⟩ := h
  refine ⟨cs.setIfInBounds j (bv y), m, ?_, by simpa using hm, by simpa using hl, hnm, ?_⟩
  · simp [World.setCell, Array.getElem?_modify, hg]
  · rw [Array.toList_setIfInBounds, List.take_set, ht]
    unfold bvs
    rw [List.map_set]

theorem conv_back (w : World) (s : List UInt8) : ∃ c, (convert 9 30 (.string (str s))).run Try.prog w = .ok (.slice (some ⟨w.heap.size, 0, none⟩) s.length c) (w.alloc (.cells (bytesRow (str s) c) 5 ((bytesRow (str s) c).size, (bytesRow (str s) c).size + 1))).drew ∧ s.length ≤ c ∧
    SRow (w.alloc (.cells (bytesRow (str s) c) 5 ((bytesRow (str s) c).size, (bytesRow (str s) c).size + 1))).drew w.heap.size s.length s := by
  have hr := run_bytes_of_string (P := Try.prog) w 9 30 5 (str s) Try.underlying9 Try.underlying30 Try.underlying5
  have hsz : (str s).size = s.length := by simp [str, ByteArray.size]
  rw [hsz] at hr
  refine ⟨_, hr, grownCap_ge _ _ _ _, _, _, heap_alloc_new w _, rfl, rfl, ?_, ?_⟩
  · simp only [bytesRow, Array.size_append, Array.size_map, Array.size_replicate]
    have : (str s).data.size = s.length := by simp [str]
    omega
  · have h1 : (bytesRow (str s) (grownCap w s.length 0 5)).toList = bvs s ++ List.replicate (grownCap w s.length 0 5 - s.length) (.int .u8 0) := by
      unfold bytesRow
      rw [Array.toList_append, Array.toList_map, Array.toList_replicate, hsz]
      rfl
    rw [h1, List.take_left']
    exact bvs_length s

set_option maxHeartbeats 1600000 in
theorem refTurned_any (b : List UInt8) (at_ s : Nat) (w : World) (hb : b.length ≤ 1000) (hs : s < 4294967296) (ha : at_ + 32 ≤ 8 * b.length) :
    Calls Try.prog 20 #[.string (str b), .int .i64 (at_ : Int), .int .u32 (s : Int)] w fun e w' => e = .returned (.string (str (turnN b at_ s 32))) ∧ RowKit.Below w.heap.size w w' := by
  obtain ⟨c, hcv, hc, hS⟩ := conv_back w b
  go_enter Try.func20, Try.ntmps20
  go_wp2_with fail
  generalize hw0 : (World.alloc w _).drew = w0 at hS ⊢
  have hb0 : RowKit.Below w.heap.size w w0 := by rw [← hw0]; exact ((RowKit.Below.refl _ _).alloc (Nat.le_refl _) _).drew
  clear hw0 hcv
  have HS := Lib.hid hS
  have HB0 := Lib.hid hb0
  clear hS hb0
  go_loopw [2, 8, 9, 10, 11] (fun s2 s8 _ _ _ wr => ∃ q : Nat, q ≤ 32 ∧ s8 = .int .i64 q ∧ s2 = .int .u32 ((s / 2 ^ q : Nat) : Int) ∧ SRow wr w.heap.size b.length (turnN b at_ s q) ∧ RowKit.Below w.heap.size w wr) (fun _ s8 _ _ _ _ => 32 - (intOf s8).toNat)
  case atStart => exact ⟨0, Nat.zero_le _, rfl, by simp, HS.out, HB0.out⟩
  case round =>
    clear HS HB0
    obtain ⟨q, hq, rfl, rfl, hR, hbr⟩ := hrel
    have hsq : s / 2 ^ q < 4294967296 := Nat.lt_of_le_of_lt (Nat.div_le_self _ _) hs
    have HNX : Hid (((s / 2 ^ q : Nat) : Int) / 2 = ((s / 2 ^ (q + 1) : Nat) : Int)) := by
      show _ = _
      rw [Nat.pow_succ, ← Nat.div_div_eq_div_mul]
      omega
    have HBT : Hid (s.testBit q = decide (s / 2 ^ q % 2 = 1)) := Nat.testBit_eq_decide_div_mod_eq
    generalize s / 2 ^ q = sq at hsq HNX HBT
    by_cases hlt : q < 32
    · by_cases hbit : sq % 2 = 1
      · have hx : (sq : Int) % 2 = 1 := by omega
        have HT : Hid (s.testBit q = true) := by show s.testBit q = true; rw [HBT.out]; simpa using hbit
        have HY := Lib.hid (turnN_yes (l := b) (p := at_) HT.out)
        have hk8 : (at_ + q) / 8 < b.length := by omega
        obtain ⟨hcell, hfr⟩ := hR.cell hk8
        have HR := Lib.hid hR
        have HB := Lib.hid hbr
        clear hR hbr HBT hbit
        go_wp2_with fail
        rw [show (at_ : Int) + (q : Int) = ((at_ + q : Nat) : Int) from rfl]
        generalize hkk : at_ + q = k at hk8 hcell hfr HY ⊢
        have hx8 := ((turnN b at_ s q).getD (k / 8) 0).toNat_lt
        generalize hyy : ((turnN b at_ s q).getD (k / 8) 0).toNat = y at hcell hx8 HY
        have hkb : k ≤ 100000 := by omega
        clear hkk hyy
        have hm8 : k % 8 < 8 := Nat.mod_lt _ (by decide)
        go_loopw [10, 11] (fun s10 s11 wi => ∃ (t cc : Nat), t ≤ k % 8 ∧ s11 = .int .i64 t ∧ s10 = .int .u8 (cc : Int) ∧ Hid (cc = 2 ^ t) ∧ wi = wr) (fun _ s11 _ => 8 - (intOf s11).toNat)
        case atStart => exact ⟨0, 1, Nat.zero_le _, rfl, rfl, rfl, rfl⟩
        case round =>
          obtain ⟨t, cc, ht, rfl, rfl, hcc, rfl⟩ := hrel
          by_cases hlt2 : t < k % 8
          · have hc64 : cc ≤ 64 := by
              rw [hcc.out]
              exact (Nat.pow_le_pow_right (by decide) (by omega) : 2 ^ t ≤ 2 ^ 6)
            go_wp2
            go_roundw
            case rel => exact ⟨t + 1, cc * 2, by omega, by go_num, by go_num, by show _ = _; rw [hcc.out, Nat.pow_succ], by first | rfl | trivial⟩
            case measure => simp [intOf]; omega
          · obtain rfl : t = k % 8 := by omega
            have hxo : bits .xor .u8 (y : Int) (cc : Int) = ((y ^^^ cc : Nat) : Int) := u8_xor_nat _ _ hx8 (by rw [hcc.out]; exact Nat.lt_of_lt_of_le (Nat.pow_lt_pow_right (by decide) hm8) (by decide))
            have HCC := Lib.hid hcc.out
            clear hcc hlt2 ht
            go_wp2
            go_roundw
            case rel =>
              have hR2 := HR.out.set (k / 8) (UInt8.ofNat (y ^^^ 2 ^ (k % 8)))
              rw [← HY.out] at hR2
              have hv : bv (UInt8.ofNat (y ^^^ 2 ^ (k % 8))) = .int .u8 ((y ^^^ cc : Nat) : Int) := by
                rw [HCC.out]
                unfold bv
                rw [UInt8.toNat_ofNat', Nat.mod_eq_of_lt (flip_byte y _ hx8 hm8)]
              rw [hv] at hR2
              exact ⟨q + 1, by omega, by go_num, by rw [HNX.out], hR2, HB.out.setCell (p := ⟨w.heap.size, k / 8, none⟩) (Nat.le_refl _) _⟩
            case measure => simp [intOf]; omega
      · have hx : (sq : Int) % 2 = 0 := by omega
        have HT : Hid (s.testBit q = false) := by show s.testBit q = false; rw [HBT.out]; simpa using hbit
        have HR := Lib.hid hR
        have HB := Lib.hid hbr
        clear hR hbr HBT hbit
        go_wp2
        go_roundw
        case rel => exact ⟨q + 1, by omega, by go_num, by rw [HNX.out], by rw [turnN_no HT.out]; exact HR.out, HB.out⟩
        case measure => simp [intOf]; omega
    · obtain rfl : q = 32 := by omega
      have hst := strs_of (turnN_length b at_ s 32) hR.lies c
      have HB := Lib.hid hbr
      clear hR hbr
      go_wp2
      go_ret
      exact ⟨rfl, HB.out⟩

end Go.Proofs.Ytjecphjdmjoeiaa
