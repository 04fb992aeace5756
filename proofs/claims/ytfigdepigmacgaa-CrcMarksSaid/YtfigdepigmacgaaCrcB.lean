/- The walk of Sum: the sum of rows of bytes is that of all of them, one behind the other. -/
import Derived.Test.YtfigdepigmacgaaCrcA
import Derived.Test.YtfigdepigmacgaaOwn
namespace Go.Proofs.Ytfigdepigmacgaa
open Go.RowKit

theorem tab_at (n : Nat) (h : n < 16) : tab16[n]? = some (rv (downs 4 (BitVec.ofNat 32 n))) := by
  rw [← tabA_16]
  simp [tabA, h]

/-- What is known of the table in memory. -/
def TabIn (w : World) (T : Nat) : Prop := ∀ n, n < 16 → w.cell? ⟨T, n, none⟩ = some (rv (downs 4 (BitVec.ofNat 32 n)))

theorem tabIn_new (w : World) : TabIn (w.alloc (.cells tab16 40)) w.heap.size := fun n hn => by
  have h := heap_alloc_new w (.cells tab16 40)
  have := World.news_of_block (w := w.alloc (.cells tab16 40)) (B := w.heap.size) h n _ (by rw [Array.getElem?_toList]; exact tab_at n hn)
  rwa [add_plain, Nat.zero_add] at this

/-- One step of four bits, as the walk spells it. -/
theorem four_and (y : BitVec 32) : bits .and .u32 (y.toNat : Int) 15 = ((y &&& 15#32).toNat : Int) := by
  have := y.isLt
  rw [u32_and _ _ (by omega) (by omega) (by omega) (by omega)]
  simp [BitVec.toNat_and]

theorem four_lt (y : BitVec 32) : (y &&& 15#32).toNat < 16 := by
  rw [BitVec.toNat_and]
  exact Nat.lt_of_le_of_lt Nat.and_le_right (by decide)

theorem four_xor (y : BitVec 32) : bits .xor .u32 ((y.toNat : Int) / 16) ((downs 4 (BitVec.ofNat 32 (y &&& 15#32).toNat)).toNat : Int) = ((downs 4 y).toNat : Int) := by
  have h1 := y.isLt
  have h2 := (downs 4 (BitVec.ofNat 32 (y &&& 15#32).toNat)).isLt
  rw [show ((y.toNat : Int) / 16) = ((y.toNat / 16 : Nat) : Int) from rfl, u32_xor_nat _ _ (by omega) (by omega)]
  congr 1
  rw [downs_table 4 (by decide) y, BitVec.toNat_xor, BitVec.toNat_ushiftRight, Nat.shiftRight_eq_div_pow, BitVec.ofNat_toNat]
  simp

theorem byte_xor (r : BitVec 32) (c : UInt8) : bits .xor .u32 (r.toNat : Int) (c.toNat : Int) = ((r ^^^ BitVec.ofNat 32 c.toNat).toNat : Int) := by
  have h1 := r.isLt
  have h2 := c.toNat_lt
  rw [u32_xor_nat _ _ (by omega) (by omega), BitVec.toNat_xor, BitVec.toNat_ofNat, Nat.mod_eq_of_lt (by omega)]

theorem sum_bits (r : BitVec 32) : bits .xor .u32 (r.toNat : Int) 4294967295 = ((~~~ r).toNat : Int) := by
  have h1 := r.isLt
  rw [show (4294967295 : Int) = ((4294967295 : Nat) : Int) from rfl, u32_xor_nat _ _ (by omega) (by omega)]
  congr 1
  have h : ~~~ r = r ^^^ ones := by
    have := xor_not r
    rw [← this, ← BitVec.xor_assoc, BitVec.xor_self, BitVec.zero_xor]
  rw [h, BitVec.toNat_xor]
  rfl

theorem reg_step (p l : List UInt8) (j : Nat) (h : j < l.length) : regOf (p ++ l.take (j + 1)) = downs 4 (downs 4 (regOf (p ++ l.take j) ^^^ BitVec.ofNat 32 l[j].toNat)) := by
  rw [List.take_succ_eq_append_getElem h, ← List.append_assoc, regOf_snoc, feed_nibbles]

def Summed (w : World) (l : List UInt8) (e : Ending) (w' : World) : Prop := e = .returned (rv (sumOf l)) ∧ Below w.heap.size w w'

set_option maxHeartbeats 1600000 in
theorem sum_any (A2 : Option Addr) (m c2 : Nat) (vs : List Value) (ls : List (List UInt8)) (w : World) (hl2 : vs.length = m) (hm : m ≤ 1000000) (h2 : Lies w w.heap.size A2 vs) (hr : BytRows w w.heap.size vs ls) (hls : ∀ x ∈ ls, x.length ≤ 1000000) :
    Calls Try.prog 9 #[.slice A2 m c2] w (Summed w ls.flatten) := by
  have HL2 := Lib.hid hl2
  have HLS := Lib.hid hls
  have HR := Lib.hid hr
  clear hl2 hls hr
  go_enter Try.func9, Try.ntmps9
  go_wp2_with (go_at_call 16; refine (steps_any _).mono ?_; rintro e w1 ⟨rfl, hb1⟩; unfold tab16)
  have hbT : Below w.heap.size w (w1.alloc (.cells tab16 40)) := hb1.alloc hb1.size _
  have hT := tabIn_new w1
  unfold tab16 at hbT hT
  generalize w1.alloc _ = wT at hbT hT ⊢
  generalize w1.heap.size = T at hT ⊢
  have hones : Value.int .u32 4294967295 = rv (regOf (ls.take 0).flatten) := by rw [List.take_zero]; rfl
  rw [hones]
  clear hones hb1
  have HT := Lib.hid hT
  clear hT
  go_loop [4, 12] (fun r i => ∃ (k : Nat), k ≤ m ∧ i = .int .i64 k ∧ r = rv (regOf (ls.take k).flatten)) (fun _ i => m - (intOf i).toNat)
  case atStart => exact ⟨0, Nat.zero_le _, rfl, rfl⟩
  case round =>
    obtain ⟨k, hk, rfl, rfl⟩ := hrel
    by_cases hlt : k < m
    · have hk1 : k < vs.length := by rw [HL2.out]; exact hlt
      have hk2 : k < ls.length := by rw [← HR.out.1]; exact hk1
      obtain ⟨Ar, nr, cr, hvr, hlr, _, _, hLr⟩ := (HR.out.2 k hk1 hk2).below hbT
      obtain ⟨b, off, rfl, hb, hc⟩ := (h2.below hbT).at_ (List.getElem?_eq_getElem hk1)
      rw [hvr] at hc
      have hx : nr ≤ 1000000 := by have := HLS.out ls[k] (List.getElem_mem hk2); omega
      have HLR := Lib.hid hlr
      have HFS := Lib.hid (flatten_snoc ls k hk2)
      generalize (ls.take k).flatten = p at HFS
      generalize ls[k] = row at HFS HLR hLr
      clear hvr hlr
      go_wp2
      have hst : rv (regOf p) = rv (regOf (p ++ row.take 0)) := by rw [List.take_zero, List.append_nil]
      rw [hst]
      clear hst
      go_loop [4, 18] (fun r i => ∃ (j : Nat), j ≤ nr ∧ i = .int .i64 j ∧ r = rv (regOf (p ++ row.take j))) (fun _ i => nr - (intOf i).toNat)
      case atStart => exact ⟨0, Nat.zero_le _, rfl, rfl⟩
      case round =>
        obtain ⟨j, hj, rfl, rfl⟩ := hrel
        by_cases hjl : j < nr
        · have hj2 : j < row.length := by rw [HLR.out]; exact hjl
          have HST := Lib.hid (reg_step p row j hj2)
          obtain ⟨b2, off2, rfl, hb2, hc2⟩ := hLr.at_ (bvs_at hj2)
          generalize regOf (p ++ row.take j) = r at HST
          generalize row[j] = ch at HST hc2
          unfold bv at hc2
          have hx1 := byte_xor r ch
          generalize r ^^^ BitVec.ofNat 32 ch.toNat = y at HST hx1
          have ha1 := four_and y
          have hi1 := four_lt y
          have ht1 := HT.out _ hi1
          have hx2 := four_xor y
          generalize (y &&& 15#32).toNat = n1 at ha1 hi1 ht1 hx2
          generalize downs 4 (BitVec.ofNat 32 n1) = t1 at ht1 hx2
          generalize downs 4 y = y2 at hx2 HST
          have ha2 := four_and y2
          have hi2 := four_lt y2
          have ht2 := HT.out _ hi2
          have hx3 := four_xor y2
          generalize (y2 &&& 15#32).toNat = n2 at ha2 hi2 ht2 hx3
          generalize downs 4 (BitVec.ofNat 32 n2) = t2 at ht2 hx3
          generalize downs 4 y2 = y3 at hx3 HST
          have hch := ch.toNat_lt
          unfold rv at ht1 ht2 ⊢
          go_wp2
          go_round
          case rel => exact ⟨j + 1, by omega, by go_num, by rw [HST.out]⟩
          case measure => simp [intOf]; omega
        · go_wp2
          go_round
          case rel =>
            have : j = nr := by omega
            subst this
            refine ⟨k + 1, by omega, by go_num, ?_⟩
            rw [HFS.out, ← HLR.out, List.take_length]
          case measure => simp [intOf]; omega
    · have : k = m := by omega
      subst this
      have hfin : (ls.take k).flatten = ls.flatten := by rw [← HL2.out, HR.out.1, List.take_length]
      rw [hfin]
      have hs : bits .xor .u32 ((regOf ls.flatten).toNat : Int) 4294967295 = ((sumOf ls.flatten).toNat : Int) := sum_bits _
      clear hfin
      unfold rv
      go_wp2
      go_ret
      exact ⟨rfl, hbT⟩

end Go.Proofs.Ytfigdepigmacgaa
