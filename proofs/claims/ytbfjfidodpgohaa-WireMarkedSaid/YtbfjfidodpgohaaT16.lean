/- The walk of Sum: the sum of rows of bytes is that of all of them, one behind the other. -/
import Derived.Test.YtbfjfidodpgohaaT15
import Derived.Test.YtbfjfidodpgohaaT01
import Derived.Test.YtbfjfidodpgohaaT14

namespace Go.Proofs.Ytbfjfidodpgohaa
open Go.RowKit

theorem tab_at (n : Nat) (h : n < 16) : tab16[n]? = some (rv (downs 4 (BitVec.ofNat 32 n))) := by
  rw [← tabA_16]
  simp [tabA, h]

/-- What is known of the table in memory. -/
def TabIn (w : World) (T : Nat) : Prop := ∀ n, n < 16 → w.cell? ⟨T, n, none⟩ = some (rv (downs 4 (BitVec.ofNat 32 n)))

theorem tabIn_new (w : World) : TabIn (w.alloc (.cells tab16 107)) w.heap.size := fun n hn => by
  have h := heap_alloc_new w (.cells tab16 107)
  have := World.news_of_block (w := w.alloc (.cells tab16 107)) (B := w.heap.size) h n _ (by rw [Array.getElem?_toList]; exact tab_at n hn)
  rwa [add_plain, Nat.zero_add] at this

/-- One step of four bits, as the walk spells it. -/
theorem four_and (y : BitVec 32) : bits .and .u32 (y.toNat : Int) 15 = ((y &&& 15#32).toNat : Int) := by
  have := y.isLt
  rw [u32_and _ _ (by omega) (by omega) (by omega) (by omega)]
  simp [BitVec.toNat_and]

theorem four_lt (y : BitVec 32) : (y &&& 15#32).toNat < 16 := by
  rw [BitVec.toNat_and]
  exact Nat.lt_of_le_of_lt Nat.and_le_right (by decide)

theorem four_xor (y : BitVec 32) : bits .xor .u32 ((y.toNat : Int) / 16) ((downs 4 (BitVec.ofNat 32 (y &&& 15#32).toNat)).toNat : Int) = ((downs 4 y).toNat : Int) := by
  have h1 := y.isLt
  have h2 := (downs 4 (BitVec.ofNat 32 (y &&& 15#32).toNat)).isLt
  rw [show ((y.toNat : Int) / 16) = ((y.toNat / 16 : Nat) : Int) from rfl, u32_xor_nat _ _ (by omega) (by omega)]
  congr 1
  rw [downs_table 4 (by decide) y, BitVec.toNat_xor, BitVec.toNat_ushiftRight, Nat.shiftRight_eq_div_pow, BitVec.ofNat_toNat]
  simp

theorem byte_xor (r : BitVec 32) (c : UInt8) : bits .xor .u32 (r.toNat : Int) (c.toNat : Int) = ((r ^^^ BitVec.ofNat 32 c.toNat).toNat : Int) := by
  have h1 := r.isLt
  have h2 := c.toNat_lt
  rw [u32_xor_nat _ _ (by omega) (by omega), BitVec.toNat_xor, BitVec.toNat_ofNat, Nat.mod_eq_of_lt (by omega)]

theorem sum_bits (r : BitVec 32) : bits .xor .u32 (r.toNat : Int) 4294967295 = ((~~~ r).toNat : Int) := by
  have h1 := r.isLt
  rw [show (4294967295 : Int) = ((4294967295 : Nat) : Int) from rfl, u32_xor_nat _ _ (by omega) (by omega)]
  congr 1
  have h : ~~~ r = r ^^^ ones := by
    have := xor_not r
    rw [← this, ← BitVec.xor_assoc, BitVec.xor_self, BitVec.zero_xor]
  rw [h, BitVec.toNat_xor]
  rfl

theorem reg_step (p l : List UInt8) (j : Nat) (h : j < l.length) : regOf (p ++ l.take (j + 1)) = downs 4 (downs 4 (regOf (p ++ l.take j) ^^^ BitVec.ofNat 32 l[j].toNat)) := by
  rw [List.take_succ_eq_append_getElem h, ← List.append_assoc, regOf_snoc, feed_nibbles]

def Summed (w : World) (l : List UInt8) (e : Ending) (w' : World) : Prop := e = .returned (rv (sumOf l)) ∧ Below w.heap.size w w'

set_option maxHeartbeats 1600000 in
theorem sum_any (A2 : Option Addr) (m c2 : Nat) (vs : List Value) (ls : List (List UInt8)) (w : World) (hl2 : vs.length = m) (hm : m ≤ 1000000) (h2 : Lies w w.heap.size A2 vs) (hr : BytRows w w.heap.size vs ls) (hls : ∀ x ∈ ls, x.length ≤ 1000000) :
    Calls Try.prog 42 #[.slice A2 m c2] w (Summed w ls.flatten) := by
  have HL2 := Lib.hid hl2
  have HLS := Lib.hid hls
  have HR := Lib.hid hr
  clear hl2 hls hr
  go_enter Try.func42, Try.ntmps42
  go_wp2_with (go_at_call 55; refine (steps_any _).mono ?_; rintro e w1 ⟨rfl, hb1⟩; unfold tab16)
  have hbT : Below w.heap.size w (w1.alloc (.cells tab16 107)) := hb1.alloc hb1.size _
  have hT := tabIn_new w1
  unfold tab16 at hbT hT
  generalize w1.alloc _ = wT at hbT hT ⊢
  generalize w1.heap.size = T at hT ⊢
  have hones : Value.int .u32 4294967295 = rv (regOf (ls.take 0).flatten) := by rw [List.take_zero]; rfl
  rw [hones]
  clear hones hb1
  have HT := Lib.hid hT
  clear hT
  go_loop [4, 12] (fun r i => ∃ (k : Nat), k ≤ m ∧ i = .int .i64 k ∧ r = rv (regOf (ls.take k).flatten)) (fun _ i => m - (intOf i).toNat)
  case atStart => exact ⟨0, Nat.zero_le _, rfl, rfl⟩
  case round =>
    obtain ⟨k, hk, rfl, rfl⟩ := hrel
    by_cases hlt : k < m
    · have hk1 : k < vs.length := by rw [HL2.out]; exact hlt
      have hk2 : k < ls.length := by rw [← HR.out.1]; exact hk1
      obtain ⟨Ar, nr, cr, hvr, hlr, _, _, hLr⟩ := (HR.out.2 k hk1 hk2).below hbT
      obtain ⟨b, off, rfl, hb, hc⟩ := (h2.below hbT).at_ (List.getElem?_eq_getElem hk1)
      rw [hvr] at hc
      have hx : nr ≤ 1000000 := by have := HLS.out ls[k] (List.getElem_mem hk2); omega
      have HLR := Lib.hid hlr
      have HFS := Lib.hid (flatten_snoc ls k hk2)
      generalize (ls.take k).flatten = p at HFS
      generalize ls[k] = row at HFS HLR hLr
      clear hvr hlr
      go_wp2
      have hst : rv (regOf p) = rv (regOf (p ++ row.take 0)) := by rw [List.take_zero, List.append_nil]
      rw [hst]
      clear hst
      go_loop [4, 18] (fun r i => ∃ (j : Nat), j ≤ nr ∧ i = .int .i64 j ∧ r = rv (regOf (p ++ row.take j))) (fun _ i => nr - (intOf i).toNat)
      case atStart => exact ⟨0, Nat.zero_le _, rfl, rfl⟩
      case round =>
        obtain ⟨j, hj, rfl, rfl⟩ := hrel
        by_cases hjl : j < nr
        · have hj2 : j < row.length := by rw [HLR.out]; exact hjl
          have HST := Lib.hid (reg_step p row j hj2)
          obtain ⟨b2, off2, rfl, hb2, hc2⟩ := hLr.at_ (bvs_at hj2)
          generalize regOf (p ++ row.take j) = r at HST
          generalize row[j] = ch at HST hc2
          unfold bv at hc2
          have hx1 := byte_xor r ch
          generalize r ^^^ BitVec.ofNat 32 ch.toNat = y at HST hx1
          have ha1 := four_and y
          have hi1 := four_lt y
          have ht1 := HT.out _ hi1
          have hx2 := four_xor y
          generalize (y &&& 15#32).toNat = n1 at ha1 hi1 ht1 hx2
          generalize downs 4 (BitVec.ofNat 32 n1) = t1 at ht1 hx2
          generalize downs 4 y = y2 at hx2 HST
          have ha2 := four_and y2
          have hi2 := four_lt y2
          have ht2 := HT.out _ hi2
          have hx3 := four_xor y2
          generalize (y2 &&& 15#32).toNat = n2 at ha2 hi2 ht2 hx3
          generalize downs 4 (BitVec.ofNat 32 n2) = t2 at ht2 hx3
          generalize downs 4 y2 = y3 at hx3 HST
          have hch := ch.toNat_lt
          unfold rv at ht1 ht2 ⊢
          go_wp2
          go_round
          case rel => exact ⟨j + 1, by omega, by go_num, by rw [HST.out]⟩
          case measure => simp [intOf]; omega
        · go_wp2
          go_round
          case rel =>
            have : j = nr := by omega
            subst this
            refine ⟨k + 1, by omega, by go_num, ?_⟩
            rw [HFS.out, ← HLR.out, List.take_length]
          case measure => simp [intOf]; omega
    · have : k = m := by omega
      subst this
      have hfin : (ls.take k).flatten = ls.flatten := by rw [← HL2.out, HR.out.1, List.take_length]
      rw [hfin]
      have hs : bits .xor .u32 ((regOf ls.flatten).toNat : Int) 4294967295 = ((sumOf ls.flatten).toNat : Int) := sum_bits _
      clear hfin
      unfold rv
      go_wp2
      go_ret
      exact ⟨rfl, hbT⟩

end Go.Proofs.Ytbfjfidodpgohaa

/- crc.Mark (picked; rows of up to 10000 bytes). -/
namespace Go.Proofs.Ytbfjfidodpgohaa
open Go.RowKit

theorem low_byte' (j : Nat) : Value.int .u8 ((j : Int) % 256) = bv (UInt8.ofNat (j % 256)) := by
  have : (UInt8.ofNat (j % 256)).toNat = j % 256 := by simp [UInt8.toNat_ofNat']
  unfold bv; rw [this]; rfl

theorem four_take (s : BitVec 32) (k : Nat) (h : k < 4) : (four s).take (k + 1) = (four s).take k ++ [UInt8.ofNat (s.toNat / 256 ^ k % 256)] := by
  rcases k with _ | _ | _ | _ | k
  · simp [four]
  · rfl
  · rfl
  · rfl
  · omega

theorem four_div (n k : Nat) : n / 256 ^ k / 256 = n / 256 ^ (k + 1) := by rw [Nat.div_div_eq_div_mul, Nat.pow_succ]

/-- One row, in a list of its own that has just been laid. -/
theorem rows_lit (w : World) (t : TypeId) {A : Option Addr} {n c : Nat} {l : List UInt8} (hl : l.length = n) (hn : n ≤ c) (hc : c ≤ maxLen) (h : Lies w w.heap.size A (bvs l)) :
    Lies (w.alloc (.cells #[.slice A n c] t)) (w.alloc (.cells #[.slice A n c] t)).heap.size (some ⟨w.heap.size, 0, none⟩) [.slice A n c] ∧
    BytRows (w.alloc (.cells #[.slice A n c] t)) (w.alloc (.cells #[.slice A n c] t)).heap.size [.slice A n c] [l] := by
  refine ⟨(lies_new w #[.slice A n c] t).more (by simp), rfl, fun i h1 h2 => ?_⟩
  have hi : i = 0 := by simp at h1; omega
  subst hi
  exact ⟨A, n, c, rfl, hl, hn, hc, h.later ((Below.refl _ _).alloc (Nat.le_refl _) _)⟩

/-- What Mark has made when k of the sum's bytes are put. -/
def MarkRel (w : World) (xs : List UInt8) (s : BitVec 32) (k : Nat) (v : Value) (wr : World) : Prop :=
  wr.ownsRow w.heap.size 5 1 v (xs.length + k) (bvs (xs ++ (four s).take k)) ∧ Below w.heap.size w wr

theorem MarkRel.step {w wr w2 : World} {xs : List UInt8} {s : BitVec 32} {k : Nat} {v v2 : Value} {o : Obj} (h : MarkRel w xs s k v wr) (hk : k < 4)
    (hown : w2.ownsRow w.heap.size 5 1 v2 (xs.length + k + 1) (bvs (xs ++ (four s).take k) ++ [Value.int .u8 (((s.toNat / 256 ^ k : Nat) : Int) % 256)])) (hb : Below w.heap.size (wr.alloc o) w2) : MarkRel w xs s (k + 1) v2 w2 := by
  obtain ⟨_, hbr⟩ := h
  refine ⟨?_, (hbr.alloc hbr.size _).trans hb⟩
  rw [four_take s k hk, ← List.append_assoc, bvs_append]
  rw [low_byte'] at hown
  exact hown

theorem MarkRel.done {w wr : World} {xs : List UInt8} {k : Nat} {v : Value} (h : MarkRel w xs (sumOf xs) k v wr) (hk : k = 4) : Owned w w.heap.size (bvs (markOf xs)) (.returned v) wr := by
  subst hk
  exact Owned.of h.1 h.2

set_option maxHeartbeats 1600000 in
set_option maxRecDepth 100000 in
theorem mark_any (A2 : Option Addr) (m c2 : Nat) (vs : List Value) (ls : List (List UInt8)) (w : World) (hl2 : vs.length = m) (hm : m ≤ 10) (h2 : Lies w w.heap.size A2 vs) (hr : BytRows w w.heap.size vs ls) (hls : ∀ x ∈ ls, x.length ≤ 10000) :
    Calls Try.prog 32 #[.slice A2 m c2] w (Owned w w.heap.size (bvs (markOf ls.flatten))) := by
  obtain ⟨i0, hi, hz0, hz1, hz2⟩ := info_parts Try.info5
  have HL2 := Lib.hid hl2
  have HLS := Lib.hid hls
  have HR := Lib.hid hr
  clear hl2 hls hr
  go_enter Try.func32, Try.ntmps32
  go_wp2
  have hR0 : PutRel w (bvs (ls.take 0).flatten) (.slice none 0 0) w := by
    rw [List.take_zero]
    exact PutRel.of (World.ownsRow_nil _ _ _ _) (Below.refl _ _)
  go_loopw [3, 9] (fun v i wr => ∃ (k : Nat), k ≤ m ∧ i = .int .i64 k ∧ PutRel w (bvs (ls.take k).flatten) v wr) (fun _ i _ => m - (intOf i).toNat)
  case atStart => exact ⟨0, Nat.zero_le _, rfl, hR0⟩
  case round =>
    obtain ⟨k, hk, rfl, hR⟩ := hrel
    have hel := flatten_len (ls.take k) (M := 10000) (fun x hx => HLS.out x (List.mem_of_mem_take hx))
    have hxl : (bvs (ls.take k).flatten).length ≤ 100000 := by
      rw [bvs_length]
      have : (ls.take k).length ≤ 10 := by have := List.length_take_le k ls; omega
      omega
    by_cases hlt : k < m
    · have hk1 : k < vs.length := by rw [HL2.out]; exact hlt
      have hk2 : k < ls.length := by rw [← HR.out.1]; exact hk1
      obtain ⟨Ar, nr, cr, hvr, hlr, _, _, hLr⟩ := (HR.out.2 k hk1 hk2).below hR.below
      obtain ⟨b, off, rfl, hb, hc⟩ := (h2.below hR.below).at_ (List.getElem?_eq_getElem hk1)
      rw [hvr] at hc
      have hx : nr ≤ 10000 := by have := HLS.out ls[k] (List.getElem_mem hk2); omega
      have hsz : w.heap.size ≤ wr.heap.size := hR.below.size
      obtain ⟨L, hoL, hbL, hLL⟩ := id hR
      have hLx : L ≤ 100000 := by omega
      have HLR := Lib.hid hlr
      clear hR hel hxl hLL hvr hlr hR0
      go_wp2_with (at_builtin; refine wpList_append_lst rfl _ _ 22 rfl w.heap.size 5 i0 (.int .u8 0) 1 Try.underlying22 hi hz0 hz1 hz2 rfl _ _ _ rfl hoL _ _ _ _ (bvs ls[k]) rfl ?d0 hLr (bvs_one _) ?d2 ?d3 hsz ?_)
      case d0 => rw [bvs_length]; exact HLR.out
      case d2 => unfold maxLen; omega
      case d3 => omega
      intro v4 w4 hown4 hg4 hb4 _
      go_wp2
      go_roundw
      case rel =>
        refine ⟨k + 1, by omega, by go_num, ?_⟩
        rw [flatten_snoc ls k hk2, bvs_append]
        exact PutRel.of hown4 (hbL.trans hb4)
      case measure => simp [intOf]; omega
    · have : k = m := by omega
      subst this
      have hfin : (ls.take k).flatten = ls.flatten := by rw [← HL2.out, HR.out.1, List.take_length]
      rw [hfin] at hR hxl
      obtain ⟨L, hoL, hbL, hLL⟩ := hR
      obtain ⟨A1, c1, hv1, hc1, hc2⟩ := own_slice hoL
      subst hv1
      rw [bvs_length] at hxl hLL
      obtain ⟨hl1, hr1⟩ := rows_lit wr 22 hLL hc1 hc2 (Lies.of_own hoL)
      have hlen : ls.flatten.length ≤ 100000 := hxl
      have hL5 : L ≤ 100000 := by omega
      generalize hxs : ls.flatten = xs at hoL hLL hr1 hlen
      have HXS := Lib.hid hxs
      clear hxs
      have HLL := Lib.hid hLL
      have HR1 := Lib.hid hr1
      clear hfin hel hxl hLL hR0 hr1
      go_wp2_with (go_at_call 42; refine (sum_any _ 1 _ [.slice A1 L c1] [xs] _ rfl (by decide) hl1 HR1.out ?e1).mono ?_)
      case e1 => simp; omega
      rw [show [xs].flatten = xs by simp]
      rintro e w3 ⟨rfl, hb3⟩
      have hM0 : MarkRel w xs (sumOf xs) 0 (.slice A1 L c1) w3 := by
        refine ⟨?_, ?_⟩
        · have := own_below (hoL.alloc _) hb3
          rw [List.take_zero, List.append_nil, HLL.out]
          exact this
        · exact (hbL.alloc hbL.size _).trans (hb3.mono (by have := hbL.size; simp; omega))
      have hS : rv (sumOf xs) = .int .u32 (((sumOf xs).toNat / 256 ^ 0 : Nat) : Int) := by simp [rv]
      rw [hS]
      generalize hss : sumOf xs = s at hM0 hS ⊢
      have HS := Lib.hid hss
      have hslt := s.isLt
      have hmx : xs.length ≤ 100000 := hlen
      clear hss hS hb3 hoL hl1 hlen
      go_wp2
      go_loopw [3, 6, 20] (fun v r i wr => ∃ (k : Nat), k ≤ 4 ∧ i = .int .i64 k ∧ r = .int .u32 ((s.toNat / 256 ^ k : Nat) : Int) ∧ MarkRel w xs s k v wr) (fun _ _ i _ => 4 - (intOf i).toNat)
      case atStart => exact ⟨0, Nat.zero_le _, rfl, by simp, hM0⟩
      case round =>
        obtain ⟨q, hq, rfl, rfl, hM⟩ := hrel
        generalize wr = w6 at hM ⊢
        have HM := Lib.hid hM
        obtain ⟨hoM, hbM⟩ := hM
        have hle : s.toNat / 256 ^ q ≤ s.toNat := Nat.div_le_self _ _
        by_cases hq4 : q < 4
        · have HDV := Lib.hid (four_div s.toNat q)
          have hst : Hid (∀ {w2 : World} {v2 : Value} {o : Obj}, w2.ownsRow w.heap.size 5 1 v2 (xs.length + q + 1) (bvs (xs ++ (four s).take q) ++ [Value.int .u8 (((s.toNat / 256 ^ q : Nat) : Int) % 256)]) → Below w.heap.size (w6.alloc o) w2 → MarkRel w xs s (q + 1) v2 w2) := fun h1 h2 => HM.out.step hq4 h1 h2
          generalize s.toNat / 256 ^ q = z at HDV hst hle ⊢
          have hsz := hbM.size
          clear hM0
          go_wp2_with (at_builtin; refine wpList_append_lst rfl _ _ 22 rfl w.heap.size 5 i0 (.int .u8 0) 1 Try.underlying22 hi hz0 hz1 hz2 rfl _ _ _ rfl (hoM.alloc _) _ _ 1 _ _ rfl ?g0 (lies_new _ _ _) ?g1 ?g2 ?g3 ?g4 ?_)
          case g1 => rfl
          case g2 => unfold maxLen; omega
          case g3 => omega
          case g4 => simp; omega
          intro v7 w7 hown7 hg7 hb7 _
          go_wp2
          go_roundw
          case rel => exact ⟨q + 1, by omega, by go_num, by rw [← HDV.out]; go_num, hst.out hown7 hb7⟩
          case measure => simp [intOf]; omega
        · go_wp2
          go_ret
          rw [← HS.out] at HM
          rw [HXS.out]
          exact HM.out.done (by omega)

end Go.Proofs.Ytbfjfidodpgohaa

/- The writer: each field's bytes. -/
namespace Go.Proofs.Ytbfjfidodpgohaa
open Go.RowKit Go.Sort

set_option maxRecDepth 100000 in
set_option maxHeartbeats 800000 in
theorem rowsW_any (A A2 : Option Addr) (n c m c2 : Nat) (l : List UInt8) (vs : List Value) (ls : List (List UInt8)) (w : World) (hl : l.length = n) (hn : n ≤ 30000) (h : Lies w w.heap.size A (bvs l))
    (hl2 : vs.length = m) (hm : m ≤ 10) (h2 : Lies w w.heap.size A2 vs) (hr : BytRows w w.heap.size vs ls) (hls : ∀ x ∈ ls, x.length ≤ 8000) :
    Calls Try.prog 92 #[.slice A n c, .slice A2 m c2] w (Owned w w.heap.size (bvs (l ++ rows ls))) := by
  obtain ⟨i0, hi, hz0, hz1, hz2⟩ := info_parts Try.info5
  have HL := Lib.hid hl
  have HL2 := Lib.hid hl2
  have HLS := Lib.hid hls
  have HR := Lib.hid hr
  clear hl hl2 hls hr
  go_enter Try.func92, Try.ntmps92
  go_wp2_with (go_at_call 47; refine (fresh_any A _ n c l _ HL.out (by omega) h).mono ?_; rintro e w1 ⟨A1, n1, c1, rfl, hn1, _, _, ho1, hb1⟩)
  have hR0 : PutRel w (bvs (l ++ rows (ls.take 0))) (.slice A1 n1 c1) w1 := by
    rw [List.take_zero, rows, List.append_nil]; exact ⟨_, ho1, hb1, hn1.out⟩
  clear ho1 hb1
  go_loopw [5, 12] (fun v i wr => ∃ (k : Nat), k ≤ m ∧ i = .int .i64 k ∧ PutRel w (bvs (l ++ rows (ls.take k))) v wr) (fun _ i _ => m - (intOf i).toNat)
  case atStart => exact ⟨0, Nat.zero_le _, rfl, hR0⟩
  case round =>
    obtain ⟨k, hk, rfl, hR⟩ := hrel
    by_cases hlt : k < m
    · have hk1 : k < vs.length := by rw [HL2.out]; exact hlt
      have hk2 : k < ls.length := by rw [← HR.out.1]; exact hk1
      have hel := rows_len (ls := ls.take k) (fun x hx => HLS.out x (List.mem_of_mem_take hx))
      have hxl : (bvs (l ++ rows (ls.take k))).length ≤ 200000 := by
        rw [bvs_length, List.length_append, HL.out]
        have : (ls.take k).length ≤ 10 := by have := List.length_take_le k ls; omega
        omega
      obtain ⟨Ar, nr, cr, hvr, hlr, _, _, hLr⟩ := (HR.out.2 k hk1 hk2).below hR.below
      obtain ⟨b, off, rfl, hb, hc⟩ := (h2.below hR.below).at_ (List.getElem?_eq_getElem hk1)
      rw [hvr] at hc
      have hx : nr ≤ 8000 := by have := HLS.out ls[k] (List.getElem_mem hk2); omega
      have hsz : w.heap.size ≤ wr.heap.size := hR.below.size
      obtain ⟨L, hoL, hbL, hLL⟩ := id hR
      have hLx : L ≤ 200000 := by omega
      have HLR := Lib.hid hlr
      have HPR := Lib.hid hR
      clear hR hel hxl hLL hvr hlr
      go_wp2_with (first
        | (go_at_call 52; refine (appendNumber_any w.heap.size _ L _ nr _ hoL (by omega) (by omega) hsz).mono ?_; intro e w2 ho; obtain ⟨A3, n3, c3, rfl, hn3, _, _, hoL2, hbL2⟩ := ho)
        | (at_builtin; refine wpList_append_lst rfl _ _ 22 rfl w.heap.size 5 i0 (.int .u8 0) 1 Try.underlying22 hi hz0 hz1 hz2 rfl _ _ _ rfl hoL2 _ _ _ _ (bvs ls[k]) rfl ?d0 (hLr.below hbL2) (bvs_one _) ?d2 ?d3 ?d4 ?_))
      case d0 => rw [bvs_length]; exact HLR.out
      case d2 => have := app_len hoL hn3 (by omega); unfold maxLen; omega
      case d3 => have := app_len hoL hn3 (by omega); omega
      case d4 => have := hbL2.size; omega
      intro v4 w4 hown4 hg4 hb4 _
      go_wp2
      go_roundw
      case rel =>
        refine ⟨k + 1, by omega, by go_num, ?_⟩
        rw [rows_snoc ls k hk2, HLR.out, ← List.append_assoc, ← List.append_assoc, bvs_append, bvs_append]
        refine PutRel.of (n := n3 + nr) ?_ ((hbL.trans hbL2).trans hb4)
        simpa using hown4
      case measure => simp [intOf]; omega
    · go_wp2
      go_ret
      have : k = m := by omega
      subst this
      rw [← HL2.out, HR.out.1, List.take_length] at hR
      exact hR.owned

theorem wrPut_laid {gw : Nat} {s : List UInt8} {b n : Nat} (cs : Array Value) (l : List Nat) (w : World) (h : Wr gw s w) (hs : s.length ≤ 100000) (he : cs.toList = uvs l) (hl : l.length = n) (hn : n ≤ 10) (hns : ∀ x ∈ l, x < 18446744073709551616) (hb : b = w.heap.size) :
    Calls Try.prog 93 #[.pointer (some ⟨gw, 0, none⟩), .slice (some ⟨b, 0, none⟩) n n] (w.alloc (.cells cs 26)) fun e w' => (∃ v, e = .returned v) ∧ Wrote gw w (s ++ encs l) w' := by
  subst hb
  obtain ⟨⟨A, n', c, hv, _, _, _, hL⟩, hB⟩ := vec_lit w 26 cs l n he hl (by omega)
  injection hv with h1 h2 h3
  subst h1 h2 h3
  exact (wrPut_any _ n n l _ (h.below hB) hs hl (by omega) hL hns).mono fun e w' hh => ⟨hh.1, hh.2.behind h hB⟩

set_option maxRecDepth 100000 in
theorem wrNumber_any {gw : Nat} {s : List UInt8} (n : Nat) (w : World) (h : Wr gw s w) (hs : s.length ≤ 100000) (hn : n < 18446744073709551616) :
    Calls Try.prog 88 #[.pointer (some ⟨gw, 0, none⟩), .int .u64 (n : Int)] w fun e w' => e = .returned (.int .u64 (n : Int)) ∧ Wrote gw w (s ++ encs [n]) w' := by
  have HP : Hid (Calls Try.prog 93 #[.pointer (some ⟨gw, 0, none⟩), .slice (some ⟨w.heap.size, 0, none⟩) 1 1] (w.alloc (.cells #[.int .u64 (n : Int)] 26)) fun e w' => (∃ v, e = .returned v) ∧ Wrote gw w (s ++ encs [n]) w') :=
    wrPut_laid #[.int .u64 (n : Int)] [n] w h hs rfl rfl (by omega) (by simpa using hn) rfl
  clear hn hs h
  go_enter Try.func88, Try.ntmps88
  go_wp2_with fail
  refine HP.out.mono ?_
  rintro e w1 ⟨⟨v, rfl⟩, hW⟩
  have HW := Lib.hid hW
  clear hW
  go_wp2
  go_ret
  exact ⟨rfl, HW.out⟩

set_option maxRecDepth 100000 in
theorem wrWord_any {gw : Nat} {s : List UInt8} (n : Nat) (w : World) (h : Wr gw s w) (hs : s.length ≤ 100000) (hn : n < 4294967296) :
    Calls Try.prog 91 #[.pointer (some ⟨gw, 0, none⟩), .int .u32 (n : Int)] w fun e w' => e = .returned (.int .u32 (n : Int)) ∧ Wrote gw w (s ++ encs [n]) w' := by
  have HP : Hid (Calls Try.prog 93 #[.pointer (some ⟨gw, 0, none⟩), .slice (some ⟨w.heap.size, 0, none⟩) 1 1] (w.alloc (.cells #[.int .u64 (n : Int)] 26)) fun e w' => (∃ v, e = .returned v) ∧ Wrote gw w (s ++ encs [n]) w') :=
    wrPut_laid #[.int .u64 (n : Int)] [n] w h hs rfl rfl (by omega) (by simp; omega) rfl
  clear hs h
  go_enter Try.func91, Try.ntmps91
  go_wp2_with fail
  refine HP.out.mono ?_
  rintro e w1 ⟨⟨v, rfl⟩, hW⟩
  have HW := Lib.hid hW
  clear hW
  go_wp2
  go_ret
  exact ⟨rfl, HW.out⟩

theorem Wr.setOther {gw q : Nat} {s : List UInt8} {w : World} {cs : Array Value} {T : TypeId} (h : Wr gw s w) (hq : w.heap[q]? = some (.cells cs T (0, 0))) (hT : T ≠ 5) (hne : gw ≠ q) (i : Nat) (u : Value) : Wr gw s (w.setCell ⟨q, i, none⟩ u) := by
  obtain ⟨A, c, hg, ho⟩ := h
  refine ⟨A, c, ?_, ?_⟩
  · rw [← hg]; simp [World.setCell, Array.getElem?_modify, Ne.symm hne]
  · refine ownsRow_setCell_other ho (a := ⟨q, i, none⟩) ?_ u
    intro e
    rcases ho.2 with ⟨hv, _⟩ | ⟨g, cap, cur, hv, _, hgr, _⟩
    · rw [hv] at e; cases e
    · rw [hv] at e
      have eg : g = q := by injection e
      subst eg
      rw [hgr] at hq
      injection hq with hq
      injection hq with _ hq
      exact hT hq.symm

set_option maxRecDepth 100000 in
theorem wrId_any {gw : Nat} {s : List UInt8} (x : Id) (w : World) (h : Wr gw s w) (hs : s.length ≤ 100000) :
    Calls Try.prog 87 #[.pointer (some ⟨gw, 0, none⟩), .agg #[.int .u8 (x.f : Int), .int .u64 (x.s : Int)]] w fun e w' => e = .returned (.agg #[.int .u8 (x.f : Int), .int .u64 (x.s : Int)]) ∧ Wr gw (s ++ encs [x.f, x.s]) w' ∧ OnlyE w w' (fun k => gw ≤ k) := by
  have H := Lib.hid h
  have hgw := h.lt
  have hf := x.hf
  have hx := x.hs
  clear h
  go_enter Try.func87, Try.ntmps87
  go_wp2_with fail
  generalize hw0 : World.alloc (World.alloc w _) _ = w0
  have hbx := box2 w w0 _ _ _ _ hw0
  have hnew : w0.heap[w.heap.size + 1]? = some (.cells #[.int .u8 0, .int .u64 0] 28 (0, 0)) := by rw [← hw0]; exact alloc2_new _ _ _
  obtain ⟨hs0, hG0, hc1, -⟩ := hbx
  have a0 := hc1 0 _ rfl
  have a1 := hc1 1 _ rfl
  refine (wrPut_laid #[.int .u64 (x.f : Int), .int .u64 (x.s : Int)] [x.f, x.s] w0 (b := w.heap.size + 1 + 1) (n := 2) (H.out.below hG0.below) hs rfl rfl (by omega) (by simp; omega) (by omega)).mono ?_
  rintro e w1 ⟨⟨v, rfl⟩, hW⟩
  have hkeep : ∀ k, w.heap.size ≤ k → k < w0.heap.size → w1.heap[k]? = w0.heap[k]? := fun k h1 h2 => hW.2.2 k h2 fun hk => by
    have := (H.out.out (k := k) (by
      rcases hk with hk | ⟨v, hv, hk⟩
      · exact .inl hk
      · exact .inr ⟨v, (hG0.below.cell (p := ⟨gw, 0, none⟩) hgw).symm.trans hv, hk⟩)).2
    omega
  have hn1 : w1.heap[w.heap.size + 1]? = some (.cells #[.int .u8 0, .int .u64 0] 28 (0, 0)) := (hkeep _ (by omega) (by omega)).trans hnew
  have b0 : w1.cell? ⟨w.heap.size, 0, none⟩ = some (.int .u8 (x.f : Int)) := (World.cell?_of_block (w := w0) (hkeep w.heap.size (Nat.le_refl _) (by omega))).trans a0
  have b1 : w1.cell? ⟨w.heap.size, 1, none⟩ = some (.int .u64 (x.s : Int)) := (World.cell?_of_block (w := w0) (hkeep w.heap.size (Nat.le_refl _) (by omega))).trans a1
  have c0 := cell_of_row w1 _ 0 _ _ _ hn1
  have c1 := cell_of_row w1 _ 1 _ _ _ hn1
  have fz := row_frozen hn1
  simp only [List.getElem?_toArray, List.getElem?_cons_zero, List.getElem?_cons_succ] at c0 c1
  have HN1 := Lib.hid hn1
  have HW := Lib.hid (hW.behind H.out hG0.below)
  clear hkeep hn1 hW hnew hw0 a0 a1 hc1
  go_wp2
  refine bodyPost_ret (results_cell_row rfl _ _ _ _ _ _ _ rfl (heap_setCell_row (heap_setCell_row HN1.out 0 _) 1 _) Try.underlying28 rfl (by kernel_rfl)) rfl ?_
  have HO := HW.out.coarse H.out
  refine ⟨rfl, ?_, (HO.setNew (by omega) 0 _).setNew (by omega) 1 _⟩
  exact (HW.out.1.setOther HN1.out (by decide) (by omega) 0 _).setOther (heap_setCell_row HN1.out 0 _) (by decide) (by omega) 1 _


/-- The numbers of runs. -/
def runNs (l : List Rn) : List Nat := l.flatMap fun x => [x.f, x.a, x.c]

theorem runNs_snoc (l : List Rn) (k : Nat) (h : k < l.length) : encs (runNs (l.take (k + 1))) = encs (runNs (l.take k)) ++ encs [l[k].f, l[k].a, l[k].c] := by
  rw [List.take_succ_eq_append_getElem h]
  simp only [runNs, List.flatMap_append, List.flatMap_cons, List.flatMap_nil, List.append_nil]
  exact encs_append _ _

theorem runNs_lt {l : List Rn} : ∀ x ∈ runNs l, x < 18446744073709551616 := by
  intro x hx
  obtain ⟨r, hr, hx⟩ := List.mem_flatMap.1 hx
  have := r.hf
  have := r.ha
  have := r.hc
  simp at hx
  omega

theorem runNs_len (l : List Rn) : (runNs l).length = 3 * l.length := by
  induction l with
  | nil => rfl
  | cons a t ih => simp only [runNs, List.flatMap_cons, List.length_append, List.length_cons, List.length_nil] at ih ⊢; omega

def WrRuns (gw : Nat) (w : World) (s : List UInt8) (wr : World) : Prop := Wr gw s wr ∧ OnlyE w wr (fun k => gw ≤ k)

theorem SlA.keptG {w w' : World} {gw : Nat} {D : Nat → Prop} {A : Option Addr} {n c : Nat} {xs : List Value} (h : SlA w D A n c xs) (hD : ∀ k, gw ≤ k → D k) (ho : OnlyE w w' (fun k => gw ≤ k)) : SlA w' D A n c xs := by
  obtain ⟨A', c', e, h'⟩ := Sl.kept ⟨A, c, rfl, h⟩ (ho.mono hD)
  injection e with e1 e2 e3
  subst e1 e3
  exact h'

set_option maxRecDepth 100000 in
set_option maxHeartbeats 1600000 in
theorem wrRuns_any {gw : Nat} {D : Nat → Prop} {s : List UInt8} (A : Option Addr) (n c : Nat) (l : List Rn) (w : World) (h : Wr gw s w) (hs : s.length ≤ 30000) (hD : ∀ k, gw ≤ k → D k) (hl : l.length = n) (hn : n ≤ 100) (hA : SlA w D A n c (flat encRn l)) :
    Calls Try.prog 89 #[.pointer (some ⟨gw, 0, none⟩), .slice A n c] w fun e w' => e = .returned (.slice A n c) ∧ WrRuns gw w (s ++ encs (l.length :: runNs l)) w' := by
  have H := Lib.hid h
  have HL := Lib.hid hl
  have HA := Lib.hid hA
  have HD := Lib.hid hD
  have HP : Hid (Calls Try.prog 93 #[.pointer (some ⟨gw, 0, none⟩), .slice (some ⟨w.heap.size, 0, none⟩) 1 1] (w.alloc (.cells #[.int .u64 (n : Int)] 26)) fun e w' => (∃ v, e = .returned v) ∧ Wrote gw w (s ++ encs [n]) w') :=
    wrPut_laid #[.int .u64 (n : Int)] [n] w h (by omega) rfl rfl (by omega) (by simp; omega) rfl
  clear h hl hA hD
  go_enter Try.func89, Try.ntmps89
  go_wp2_with fail
  refine HP.out.mono ?_
  rintro e w1 ⟨⟨v, rfl⟩, hW⟩
  have HW : Hid (WrRuns gw w (s ++ encs [n] ++ encs (runNs (l.take 0))) w1) := ⟨by simpa [runNs, encs] using hW.1, hW.coarse H.out⟩
  clear hW
  go_wp2
  go_loopw [15] (fun i wr => ∃ (k : Nat), k ≤ n ∧ i = .int .i64 k ∧ WrRuns gw w (s ++ encs [n] ++ encs (runNs (l.take k))) wr) (fun i _ => n - (intOf i).toNat)
  case atStart => exact ⟨0, Nat.zero_le _, rfl, HW.out⟩
  case round =>
    obtain ⟨k, hk, rfl, hR⟩ := hrel
    by_cases hlt : k < n
    · have hk2 : k < l.length := by rw [HL.out]; exact hlt
      have hAr := HA.out.keptG HD.out hR.2
      obtain ⟨b, off, rfl, hb, hd, hc⟩ := hAr.2.2 (by intro e; have := flat_length encRn_len l; rw [e] at this; simp at this; omega)
      have e0 : wr.cell? ⟨b, off + k * 3, none⟩ = some (.int .u8 (l[k].f : Int)) := hc _ _ (rns_at0 l k hk2)
      have e1 : wr.cell? ⟨b, off + k * 3 + 1, none⟩ = some (.int .u64 (l[k].a : Int)) := hc _ _ (rns_at1 l k hk2)
      have e2 : wr.cell? ⟨b, off + k * 3 + 2, none⟩ = some (.int .u64 (l[k].c : Int)) := hc _ _ (rns_at2 l k hk2)
      have HSN := Lib.hid (runNs_snoc l k hk2)
      have hbl : (s ++ encs [n] ++ encs (runNs (l.take k))).length ≤ 100000 := by
        have q1 := encs_len (ns := [n]) (by simp; omega)
        have q2 := encs_len (ns := runNs (l.take k)) (fun x hx => runNs_lt x hx)
        rw [runNs_len] at q2
        have q3 := List.length_take_le k l
        simp only [List.length_append, List.length_cons, List.length_nil] at q1 q2 ⊢
        omega
      have HR := Lib.hid hR
      have HBL := Lib.hid hbl
      clear hc hR hAr hbl
      generalize hx : l[k] = x at e0 e1 e2 HSN
      have hxf := x.hf
      have hxa := x.ha
      have hxc := x.hc
      clear hx
      go_wp2_with fail
      generalize hw0 : World.alloc wr _ = w0
      obtain ⟨hs0, hG, hcc⟩ := box1 wr w0 _ _ hw0
      refine (wrPut_laid #[.int .u64 (x.f : Int), .int .u64 (x.a : Int), .int .u64 (x.c : Int)] [x.f, x.a, x.c] w0 (b := wr.heap.size + 1) (n := 3) (HR.out.1.below hG.below) HBL.out rfl rfl (by omega) (by simp; omega) (by omega)).mono ?_
      rintro e w2 ⟨⟨v2, rfl⟩, hW2⟩
      have HW2 : Hid (WrRuns gw w (s ++ encs [n] ++ encs (runNs (l.take (k + 1)))) w2) := by
        refine ⟨?_, HR.out.2.trans ((hW2.behind HR.out.1 hG.below).coarse HR.out.1)⟩
        rw [HSN.out, ← List.append_assoc]
        exact hW2.1
      clear hW2 hcc hG hw0
      go_wp2
      go_roundw
      case rel => exact ⟨k + 1, by omega, by go_num, HW2.out⟩
      case measure => simp [intOf]; omega
    · have hkn : k = n := by omega
      subst hkn
      have HR := Lib.hid hR
      clear hR hlt
      go_wp2
      go_ret
      refine ⟨rfl, ?_⟩
      have := HR.out
      rw [← HL.out, List.take_length, List.append_assoc, ← encs_append] at this
      exact this

set_option maxRecDepth 100000 in
theorem wrVector_any {gw : Nat} {D : Nat → Prop} {s : List UInt8} (A : Option Addr) (n c : Nat) (l : List Nat) (w : World) (h : Wr gw s w) (hs : s.length ≤ 30000) (hD : ∀ k, gw ≤ k → D k) (hl : l.length = n) (hn : n ≤ 100) (hA : SlA w D A n c (uvs l)) (hns : ∀ x ∈ l, x < 18446744073709551616) :
    Calls Try.prog 90 #[.pointer (some ⟨gw, 0, none⟩), .slice A n c] w fun e w' => e = .returned (.slice A n c) ∧ WrRuns gw w (s ++ encs (l.length :: l)) w' := by
  have H := Lib.hid h
  have HL := Lib.hid hl
  have HA := Lib.hid hA
  have HD := Lib.hid hD
  have HNS := Lib.hid hns
  have HP : Hid (Calls Try.prog 93 #[.pointer (some ⟨gw, 0, none⟩), .slice (some ⟨w.heap.size, 0, none⟩) 1 1] (w.alloc (.cells #[.int .u64 (n : Int)] 26)) fun e w' => (∃ v, e = .returned v) ∧ Wrote gw w (s ++ encs [n]) w') :=
    wrPut_laid #[.int .u64 (n : Int)] [n] w h (by omega) rfl rfl (by omega) (by simp; omega) rfl
  clear h hl hA hD hns
  go_enter Try.func90, Try.ntmps90
  go_wp2_with fail
  refine HP.out.mono ?_
  rintro e w1 ⟨⟨v, rfl⟩, hW⟩
  have HW : Hid (WrRuns gw w (s ++ encs [n]) w1) := ⟨hW.1, hW.coarse H.out⟩
  have HA1 : Hid (SlA w1 D A n c (uvs l)) := HA.out.keptG HD.out HW.out.2
  have HB : Hid ((s ++ encs [n]).length ≤ 100000) := by
    have q1 := encs_len (ns := [n]) (by simp; omega)
    show (s ++ encs [n]).length ≤ 100000
    simp only [List.length_append, List.length_cons, List.length_nil] at q1 ⊢
    omega
  clear hW
  go_wp2_with fail
  refine (wrPut_any A n c l w1 HW.out.1 HB.out HL.out (by omega) HA1.out.lies HNS.out).mono ?_
  rintro e w2 ⟨⟨v2, rfl⟩, hW2⟩
  have HW2 : Hid (WrRuns gw w (s ++ encs (l.length :: l)) w2) := by
    refine ⟨?_, HW.out.2.trans (hW2.coarse HW.out.1)⟩
    have := hW2.1
    rw [List.append_assoc, ← encs_append] at this
    rw [HL.out]
    exact this
  clear hW2
  go_wp2
  go_ret
  exact ⟨rfl, HW2.out⟩

end Go.Proofs.Ytbfjfidodpgohaa

/- The writer as one who is shown a frame's fields. -/
namespace Go.Proofs.Ytbfjfidodpgohaa
open Go.RowKit Go.Sort

theorem wr_stored {gw : Nat} {s : List UInt8} {w W w1 : World} {cs : Array Value} {A : Option Addr} {n c : Nat} (hg : w.heap[gw]? = some (.cells #[cs.getD 0 undef] 72 (0, 0))) (hbW : RowKit.Below w.heap.size w W) (hb : RowKit.Below W.heap.size W w1) (hn : s.length = n)
    (ho : w1.ownsRow W.heap.size 5 1 (.slice A n c) n (bvs s)) : WrRuns gw w s (w1.setCell ⟨gw, 0, none⟩ (.slice A n c)) := by
  have hlt := (Array.getElem?_eq_some_iff.1 hg).1
  have hs := hbW.size
  have hb1 : RowKit.Below w.heap.size w w1 := hbW.trans (hb.mono hs)
  have hg1 := (hb1.block gw hlt).trans hg
  subst hn
  refine ⟨⟨A, c, ?_, ?_⟩, (OnlyE.of_below hb1).trans (onlyE_set (D := fun k => gw ≤ k) (Nat.le_refl _) 0 _)⟩
  · rw [heap_setCell_row hg1]; rfl
  · exact ownsRow_setCell_below (own_base (base' := gw + 1) ho (by omega)) (a := ⟨gw, 0, none⟩) (Nat.lt_succ_self _) _

set_option maxRecDepth 100000 in
theorem wrData_any {gw : Nat} {D : Nat → Prop} {s : List UInt8} (A : Option Addr) (n c : Nat) (l : List UInt8) (w : World) (h : Wr gw s w) (hs : s.length ≤ 30000) (hl : l.length = n) (hn : n ≤ 4000) (hA : SlA w D A n c (bvs l)) :
    Calls Try.prog 86 #[.pointer (some ⟨gw, 0, none⟩), .slice A n c] w fun e w' => e = .returned (.slice A n c) ∧ WrRuns gw w (s ++ row l) w' := by
  have hlt := h.lt
  obtain ⟨A0, c0, hg, ho⟩ := h
  generalize hn0 : s.length = n0 at hg ho hs
  have x0 : w.cell? ⟨gw, 0, none⟩ = some (.slice A0 n0 c0) := cell_of_row w gw 0 _ _ _ hg
  obtain ⟨hr1, hr2⟩ := rows_lit w 22 hl hA.1 hA.2.1 hA.lies
  have HR : Hid (Calls Try.prog 92 #[.slice A0 n0 c0, .slice (some ⟨w.heap.size, 0, none⟩) 1 1] (w.alloc (.cells #[.slice A n c] 22)) fun e w1 => ∃ A3 n3 c3, e = .returned (.slice A3 n3 c3) ∧ (∀ i, w1.frozen? ⟨gw, i, none⟩ = false) ∧ w1.cell? ⟨gw, 0, none⟩ = some (.slice A0 n0 c0) ∧ WrRuns gw w (s ++ row l) (w1.setCell ⟨gw, 0, none⟩ (.slice A3 n3 c3))) := by
    have hB : RowKit.Below w.heap.size w (w.alloc (.cells #[.slice A n c] 22)) := (RowKit.Below.refl _ _).alloc (Nat.le_refl _) _
    refine (rowsW_any A0 _ n0 c0 1 1 s [.slice A n c] [l] _ hn0 (by omega) ((Lies.of_own ho).later hB) rfl (by omega) hr1 hr2 (by simp; omega)).mono ?_
    rintro e w1 ⟨A3, n3, c3, rfl, hn3, -, -, ho3, hb3⟩
    have e : s ++ rows [l] = s ++ row l := by simp [rows]
    rw [e] at ho3 hn3
    have hn3' := hn3.out
    rw [bvs_length] at hn3'
    have hb4 : RowKit.Below w.heap.size w w1 := hB.trans (hb3.mono hB.size)
    have hg1 := (hb4.block gw hlt).trans hg
    exact ⟨A3, n3, c3, rfl, row_frozen hg1, cell_of_row w1 gw 0 _ _ _ hg1, wr_stored (cs := #[.slice A0 n0 c0]) hg hB hb3 hn3' ho3⟩
  clear hr1 hr2 hA hg ho hn0 hl
  go_enter Try.func86, Try.ntmps86
  go_wp2_with fail
  refine HR.out.mono ?_
  rintro e w1 ⟨A3, n3, c3, rfl, fz, x1, hW⟩
  have HW := Lib.hid hW
  clear hW
  go_wp2
  go_ret
  exact ⟨rfl, HW.out⟩

/-- What the writer puts. -/
def wrV : Vis (List UInt8) where
  number n s := (n, s ++ encs [n])
  word n s := (n, s ++ encs [n])
  id x s := (x, s ++ encs [x.f, x.s])
  runs l s := (l, s ++ encs (l.length :: runNs l))
  vector l s := (l, s ++ encs (l.length :: l))
  data l s := (l, s ++ row l)

def wrF : VisFns := ⟨88, 91, 87, 89, 90, 86⟩

theorem Wr.set {gw g : Nat} {s : List UInt8} {w : World} (h : Wr gw s w) (hg : g < gw) (i : Nat) (u : Value) : Wr gw s (w.setCell ⟨g, i, none⟩ u) := by
  obtain ⟨A, c, hw, ho⟩ := h
  refine ⟨A, c, ?_, ownsRow_setCell_below ho (a := ⟨g, i, none⟩) (by show g < gw + 1; omega) u⟩
  rw [← hw]
  have : g ≠ gw := by omega
  simp [World.setCell, Array.getElem?_modify, this]

def WrInv (gw : Nat) (k : Nat) (s : List UInt8) (w : World) : Prop := Wr gw s w ∧ s.length + k * 5000 ≤ 30000

theorem encs_len1 {n : Nat} (h : n < 18446744073709551616) : (encs [n]).length ≤ 9 := by have := encs_len (ns := [n]) (by simpa using h); simpa using this
theorem encs_len2 (x : Id) : (encs [x.f, x.s]).length ≤ 18 := by
  have := x.hf
  have := x.hs
  have := encs_len (ns := [x.f, x.s]) (by simp; omega)
  simpa using this
theorem encs_lenR {l : List Rn} (h : l.length ≤ 100) : (encs (l.length :: runNs l)).length ≤ 2709 := by
  have h1 := encs_len (ns := l.length :: runNs l) (by
    intro x hx
    rcases List.mem_cons.1 hx with rfl | hx
    · omega
    · exact runNs_lt x hx)
  have h2 := runNs_len l
  simp only [List.length_cons] at h1
  omega
theorem encs_lenV {l : List Nat} (h : l.length ≤ 100) (hn : ∀ y ∈ l, y < 18446744073709551616) : (encs (l.length :: l)).length ≤ 909 := by
  have h1 := encs_len (ns := l.length :: l) (by
    intro x hx
    rcases List.mem_cons.1 hx with rfl | hx
    · omega
    · exact hn x hx)
  simp only [List.length_cons] at h1
  omega
theorem row_len {l : List UInt8} (h : l.length ≤ 4000) : (row l).length ≤ 4009 := by
  have h1 := enc_len (n := l.length) (by omega)
  unfold row
  rw [List.length_append]
  omega

set_option maxRecDepth 100000 in
theorem wr_vis (gw g : Nat) (hlt : g < gw) : VisAt wrV wrF 70 (.pointer (some ⟨gw, 0, none⟩)) (fun k => gw ≤ k ∨ k = g) (fun k => gw ≤ k) g (WrInv gw) where
  mNum := ⟨fun _ => by kernel_rfl, fun _ => by kernel_rfl, enters_of Try.func88 (by kernel_rfl) rfl⟩
  mWrd := ⟨fun _ => by kernel_rfl, fun _ => by kernel_rfl, enters_of Try.func91 (by kernel_rfl) rfl⟩
  mId := ⟨fun _ => by kernel_rfl, fun _ => by kernel_rfl, enters_of Try.func87 (by kernel_rfl) rfl⟩
  mRns := ⟨fun _ => by kernel_rfl, fun _ => by kernel_rfl, enters_of Try.func89 (by kernel_rfl) rfl⟩
  mVec := ⟨fun _ => by kernel_rfl, fun _ => by kernel_rfl, enters_of Try.func90 (by kernel_rfl) rfl⟩
  mDat := ⟨fun _ => by kernel_rfl, fun _ => by kernel_rfl, enters_of Try.func86 (by kernel_rfl) rfl⟩
  sub := fun _ h => .inl h
  own := ⟨.inr rfl, fun h => by have h : gw ≤ g := h; omega⟩
  set := fun _ s w i u _ h => ⟨h.1.set hlt i u, h.2⟩
  drew := fun _ _ _ h => h
  number := fun k s w n hn h => (wrNumber_any n w h.1 (by have := h.2; omega) hn).mono fun e w' hh => ⟨hh.1, hn, ⟨hh.2.1, by have := encs_len1 hn; have := h.2; show (s ++ encs [n]).length + _ ≤ _; rw [List.length_append]; omega⟩, hh.2.coarse h.1⟩
  word := fun k s w n hn h => (wrWord_any n w h.1 (by have := h.2; omega) hn).mono fun e w' hh => ⟨hh.1, hn, ⟨hh.2.1, by have := encs_len1 (n := n) (by omega); have := h.2; show (s ++ encs [n]).length + _ ≤ _; rw [List.length_append]; omega⟩, hh.2.coarse h.1⟩
  id := fun k s w y h => (wrId_any y w h.1 (by have := h.2; omega)).mono fun e w' hh => ⟨hh.1, ⟨hh.2.1, by have := encs_len2 y; have := h.2; show (s ++ encs [y.f, y.s]).length + _ ≤ _; rw [List.length_append]; omega⟩, hh.2.2⟩
  runs := fun k s w A c l hl hA h => (wrRuns_any A l.length c l w h.1 (by have := h.2; omega) (fun _ hk => .inl hk) rfl hl hA).mono fun e w' hh => ⟨A, c, hh.1, hA.keptG (fun _ hk => .inl hk) hh.2.2, hl, ⟨hh.2.1, by have := encs_lenR hl; have := h.2; show (s ++ encs (l.length :: runNs l)).length + _ ≤ _; rw [List.length_append]; omega⟩, hh.2.2⟩
  vector := fun k s w A c l hl hn hA h => (wrVector_any A l.length c l w h.1 (by have := h.2; omega) (fun _ hk => .inl hk) rfl hl hA hn).mono fun e w' hh => ⟨A, c, hh.1, hA.keptG (fun _ hk => .inl hk) hh.2.2, ⟨hl, hn⟩, ⟨hh.2.1, by have := encs_lenV hl hn; have := h.2; show (s ++ encs (l.length :: l)).length + _ ≤ _; rw [List.length_append]; omega⟩, hh.2.2⟩
  data := fun k s w A c l hl hA h => (wrData_any A l.length c l w h.1 (by have := h.2; omega) rfl hl hA).mono fun e w' hh => ⟨A, c, hh.1, hA.keptG (fun _ hk => .inl hk) hh.2.2, hl, ⟨hh.2.1, by have := row_len hl; have := h.2; show (s ++ row l).length + _ ≤ _; rw [List.length_append]; omega⟩, hh.2.2⟩

end Go.Proofs.Ytbfjfidodpgohaa

/- A frame's bytes: Put. -/
namespace Go.Proofs.Ytbfjfidodpgohaa
open Go.RowKit Go.Sort

/-- The bytes of a frame's fields. -/
def outOf (F : Fr) : List UInt8 :=
  if F.kind = 1 then encs [F.seq] ++ (encs [F.id.f, F.id.s] ++ (encs [F.at_] ++ (encs [F.of_] ++ (encs [F.size] ++ row F.data))))
  else if F.kind = 2 ∨ F.kind = 5 ∨ F.kind = 10 then encs [F.seq]
  else if F.kind = 3 then encs [F.id.f, F.id.s] ++ encs [F.at_]
  else if F.kind = 4 then encs [F.id.f, F.id.s] ++ (encs [F.at_] ++ (encs [F.of_] ++ (encs [F.size] ++ row F.data)))
  else if F.kind = 6 then encs [F.inst] ++ (encs [F.rnd] ++ encs (F.est.length :: runNs F.est))
  else if F.kind = 7 then encs [F.inst] ++ (encs [F.rnd] ++ (encs (F.est.length :: runNs F.est) ++ encs (F.aux.length :: runNs F.aux)))
  else if F.kind = 8 then encs [F.inst] ++ encs (F.est.length :: runNs F.est)
  else if F.kind = 9 then encs [F.inst] ++ (encs (F.done.length :: F.done) ++ encs (F.held.length :: F.held))
  else []
def headOf (F : Fr) : List UInt8 := [1, UInt8.ofNat F.kind, UInt8.ofNat F.src, UInt8.ofNat F.dst]
/-- A frame's bytes ahead of the sum. -/
def aheadOf (F : Fr) : List UInt8 := enc ((outOf F).length + 8) ++ (headOf F ++ outOf F)
def putOf (F : Fr) : List UInt8 := markOf (aheadOf F)

theorem wSeq (F : Fr) (s : List UInt8) : vSeq wrV (F, s) = (F, s ++ encs [F.seq]) := rfl
theorem wInst (F : Fr) (s : List UInt8) : vInst wrV (F, s) = (F, s ++ encs [F.inst]) := rfl
theorem wRnd (F : Fr) (s : List UInt8) : vRnd wrV (F, s) = (F, s ++ encs [F.rnd]) := rfl
theorem wAt (F : Fr) (s : List UInt8) : vAt wrV (F, s) = (F, s ++ encs [F.at_]) := rfl
theorem wOf (F : Fr) (s : List UInt8) : vOf wrV (F, s) = (F, s ++ encs [F.of_]) := rfl
theorem wSize (F : Fr) (s : List UInt8) : vSize wrV (F, s) = (F, s ++ encs [F.size]) := rfl
theorem wId (F : Fr) (s : List UInt8) : vId wrV (F, s) = (F, s ++ encs [F.id.f, F.id.s]) := rfl
theorem wEst (F : Fr) (s : List UInt8) : vEst wrV (F, s) = (F, s ++ encs (F.est.length :: runNs F.est)) := rfl
theorem wAux (F : Fr) (s : List UInt8) : vAux wrV (F, s) = (F, s ++ encs (F.aux.length :: runNs F.aux)) := rfl
theorem wDone (F : Fr) (s : List UInt8) : vDone wrV (F, s) = (F, s ++ encs (F.done.length :: F.done)) := rfl
theorem wHeld (F : Fr) (s : List UInt8) : vHeld wrV (F, s) = (F, s ++ encs (F.held.length :: F.held)) := rfl
theorem wData (F : Fr) (s : List UInt8) : vData wrV (F, s) = (F, s ++ row F.data) := rfl

theorem vAll_wr (F : Fr) (s : List UInt8) : vAll wrV (F, s) = (F, s ++ outOf F) := by
  unfold vAll outOf vChunk
  simp only [wSeq, wInst, wRnd, wAt, wOf, wSize, wId, wEst, wAux, wDone, wHeld, wData]
  repeat (split; · simp only [List.append_assoc])
  simp only [List.append_nil]

theorem outOf_len {F : Fr} (h : F.Ok) : (outOf F).length ≤ 6000 := by
  have a1 := encs_len1 h.seq
  have a2 := encs_len1 h.inst
  have a3 := encs_len1 h.rnd
  have a4 := encs_len1 (n := F.at_) (by have := h.at_; omega)
  have a5 := encs_len1 (n := F.of_) (by have := h.of_; omega)
  have a6 := encs_len1 (n := F.size) (by have := h.size; omega)
  have a7 := encs_len2 F.id
  have a8 := encs_lenR h.est
  have a9 := encs_lenR h.aux
  have b1 := encs_lenV h.done h.doneN
  have b2 := encs_lenV h.held h.heldN
  have b3 := row_len h.data
  unfold outOf
  repeat (split; · ((try simp only [List.length_append]); omega))
  simp

theorem byte_of {n : Nat} (h : n < 256) : Value.int .u8 (n : Int) = bv (UInt8.ofNat n) := by
  have : (UInt8.ofNat n).toNat = n := by simp; omega
  rw [bv, this]

/-- What Put has when the fields are put: the frame as it was, the writer with their bytes. -/
def PutMid (w : World) (F : Fr) (gw : Nat) (W : World) : Prop :=
  w.heap.size < gw ∧ RowKit.Below w.heap.size w W ∧ Wr gw (outOf F) W ∧ W.cell? ⟨w.heap.size, 0, none⟩ = some (.int .u8 (F.kind : Int)) ∧ W.cell? ⟨w.heap.size, 1, none⟩ = some (.int .u8 (F.src : Int)) ∧ W.cell? ⟨w.heap.size, 2, none⟩ = some (.int .u8 (F.dst : Int))

theorem write_any {w W1 : World} {F : Fr} {cs : Array Value} (hok : F.Ok) (hF : FrV w (fun _ => False) F cs) (hb : RowKit.Below w.heap.size w W1) (hg : W1.heap[w.heap.size]? = some (.cells cs 33 (0, 0))) :
    Calls Try.prog 20 #[.iface 70 (.pointer (some ⟨W1.heap.size, 0, none⟩)), .pointer (some ⟨w.heap.size, 0, none⟩)] (W1.alloc (.cells #[.slice none 0 0] 72)) fun e w' => e = .returned (.bool (isKind F.kind)) ∧ PutMid w F W1.heap.size w' := by
  have hlt : w.heap.size < W1.heap.size := (Array.getElem?_eq_some_iff.1 hg).1
  have hV := wr_vis W1.heap.size w.heap.size hlt
  have hB : RowKit.Below W1.heap.size W1 (W1.alloc (.cells #[.slice none 0 0] 72)) := (RowKit.Below.refl _ _).alloc (Nat.le_refl _) _
  have hb2 : RowKit.Below w.heap.size w (W1.alloc (.cells #[.slice none 0 0] 72)) := hb.trans (hB.mono hb.size)
  have hFr : FrV (W1.alloc (.cells #[.slice none 0 0] 72)) (fun k => W1.heap.size ≤ k ∨ k = w.heap.size) F cs := (hF.widen (by intro k hk; left; omega)).on hb2
  have hW : Wr W1.heap.size [] (W1.alloc (.cells #[.slice none 0 0] 72)) := ⟨none, 0, heap_alloc_new _ _, rfl, .inl ⟨rfl, rfl⟩⟩
  refine (visit_any (p := (F, [])) hV _ ⟨FrIn.of ((hB.block _ hlt).trans hg) hFr, hok, ⟨hW, by simp⟩, OnlyE.refl _ _⟩).mono ?_
  rintro e w' ⟨rfl, k, hS⟩
  have hfr := hS.fr
  have hin := hS.inv
  rw [vAll_wr] at hfr hin
  obtain ⟨cs', hg', hV'⟩ := hfr.to
  obtain ⟨k0, k1, k2⟩ := hV'.head
  exact ⟨rfl, hlt, hb2.trans (hS.only.below (by intro k hk; omega) (by have := hb2.size; omega)), hin.1, (cell_of_row w' _ 0 _ _ _ hg').trans k0, (cell_of_row w' _ 1 _ _ _ hg').trans k1, (cell_of_row w' _ 2 _ _ _ hg').trans k2⟩

/-- What Put does with the bytes of the fields: the number ahead, then the sum behind. -/
def PutEnd (w : World) (F : Fr) (gw : Nat) (hA : Option Addr) (A : Option Addr) (n c : Nat) (e : Ending) (W : World) : Prop :=
  ∃ A3 n3 c3, e = .returned (.slice A3 n3 c3) ∧ W.cell? ⟨gw, 0, none⟩ = some (.slice A n c) ∧
    Hid (Calls Try.prog 32 #[.slice (some ⟨W.heap.size, 0, none⟩) 3 3] (W.alloc (.cells #[.slice A3 n3 c3, .slice hA 4 4, .slice A n c] 22)) fun e w' => Owned w w.heap.size (bvs (putOf F)) e w')

theorem put_tail {w W : World} {F : Fr} {gw : Nat} (hok : F.Ok) (h : PutMid w F gw W) : ∃ A n c, W.cell? ⟨gw, 0, none⟩ = some (.slice A n c) ∧ n ≤ 6000 ∧
    ∀ v : Int, v = ((n + 8 : Nat) : Int) → Calls Try.prog 31 #[.slice none 0 0, .slice (some ⟨W.heap.size + 1, 0, none⟩) 1 1] ((W.alloc (.cells #[.int .u8 1, .int .u8 (F.kind : Int), .int .u8 (F.src : Int), .int .u8 (F.dst : Int)] 5)).alloc (.cells #[.int .u64 v] 26))
      (PutEnd w F gw (some ⟨W.heap.size, 0, none⟩) A n c) := by
  obtain ⟨hgw, hb, ⟨A, c, hg, ho⟩, -, -, -⟩ := h
  have hlen := outOf_len hok
  have hnc := own_slice ho
  obtain ⟨A', c', e', hc1, hc2⟩ := hnc
  injection e' with e1 e2 e3
  subst e1 e3
  generalize hn : (outOf F).length = n at hg ho hc1 hc2 hlen
  refine ⟨A, n, c, cell_of_row W gw 0 _ _ _ hg, hlen, ?_⟩
  rintro v rfl
  have hltW := (Array.getElem?_eq_some_iff.1 hg).1
  generalize hW4 : W.alloc (.cells #[.int .u8 1, .int .u8 (F.kind : Int), .int .u8 (F.src : Int), .int .u8 (F.dst : Int)] 5) = W4
  have hs4 : W4.heap.size = W.heap.size + 1 := by rw [← hW4]; simp
  have hB4 : RowKit.Below W.heap.size W W4 := by rw [← hW4]; exact (RowKit.Below.refl _ _).alloc (Nat.le_refl _) _
  have hL4 : Lies W4 W4.heap.size (some ⟨W.heap.size, 0, none⟩) (bvs (headOf F)) := by
    have := (lies_new W #[.int .u8 1, .int .u8 (F.kind : Int), .int .u8 (F.src : Int), .int .u8 (F.dst : Int)] 5).more (B' := W.heap.size + 1) (by omega)
    rw [hW4] at this
    rw [hs4]
    simp only [byte_of hok.kind, byte_of hok.src, byte_of hok.dst] at this
    exact this
  obtain ⟨⟨A5, n5, c5, hv, _, _, _, hL5⟩, hB5⟩ := vec_lit W4 26 #[.int .u64 ((n + 8 : Nat) : Int)] [n + 8] 1 rfl rfl (by omega)
  injection hv with h1 h2 h3
  subst h1 h2 h3
  rw [hs4] at hL5
  refine (put_lit _ 1 1 [n + 8] _ rfl (by omega) hL5 (by simp; omega)).mono ?_
  rintro e W6 ⟨A6, n6, c6, rfl, hn6, ⟨hm6, hc6, hm6'⟩, hL6, hb6⟩
  have hb46 : RowKit.Below W4.heap.size W4 W6 := hB5.trans (hb6.mono hB5.size)
  have hbW6 : RowKit.Below W.heap.size W W6 := hB4.trans (hb46.mono hB4.size)
  have hg6 : W6.cell? ⟨gw, 0, none⟩ = some (.slice A n c) := (hbW6.cell (p := ⟨gw, 0, none⟩) hltW).trans (cell_of_row W gw 0 _ _ _ hg)
  refine ⟨A6, n6, c6, rfl, hg6, ?_⟩
  have hB7 : RowKit.Below W6.heap.size W6 (W6.alloc (.cells #[.slice A6 n6 c6, .slice (some ⟨W.heap.size, 0, none⟩) 4 4, .slice A n c] 22)) := (RowKit.Below.refl _ _).alloc (Nat.le_refl _) _
  have r6 : Lies _ _ A6 (bvs (encs [n + 8])) := hL6.later hB7
  have r4 : Lies _ _ (some ⟨W.heap.size, 0, none⟩) (bvs (headOf F)) := (hL4.later hb46).later hB7
  have rA : Lies _ _ A (bvs (outOf F)) := ((Lies.of_own ho).later hbW6).later hB7
  have hl3 : Lies (W6.alloc (.cells #[.slice A6 n6 c6, .slice (some ⟨W.heap.size, 0, none⟩) 4 4, .slice A n c] 22)) (W6.alloc (.cells #[.slice A6 n6 c6, .slice (some ⟨W.heap.size, 0, none⟩) 4 4, .slice A n c] 22)).heap.size (some ⟨W6.heap.size, 0, none⟩) [.slice A6 n6 c6, .slice (some ⟨W.heap.size, 0, none⟩) 4 4, .slice A n c] := (lies_new W6 #[.slice A6 n6 c6, .slice (some ⟨W.heap.size, 0, none⟩) 4 4, .slice A n c] 22).more (by simp)
  have hrows : BytRows (W6.alloc (.cells #[.slice A6 n6 c6, .slice (some ⟨W.heap.size, 0, none⟩) 4 4, .slice A n c] 22)) (W6.alloc (.cells #[.slice A6 n6 c6, .slice (some ⟨W.heap.size, 0, none⟩) 4 4, .slice A n c] 22)).heap.size [.slice A6 n6 c6, .slice (some ⟨W.heap.size, 0, none⟩) 4 4, .slice A n c] [encs [n + 8], headOf F, outOf F] := by
    refine ⟨rfl, fun i h1 h2 => ?_⟩
    have hi : i = 0 ∨ i = 1 ∨ i = 2 := by simp at h1; omega
    rcases hi with rfl | rfl | rfl
    · exact ⟨A6, n6, c6, rfl, hn6.out, hc6, hm6', r6⟩
    · exact ⟨_, 4, 4, rfl, rfl, Nat.le_refl _, by unfold maxLen; omega, r4⟩
    · exact ⟨A, n, c, rfl, hn, hc1, hc2, rA⟩
  refine (mark_any _ 3 3 _ _ _ rfl (by omega) hl3 hrows ?_).mono ?_
  · intro x hx
    simp only [List.mem_cons, List.not_mem_nil, or_false] at hx
    rcases hx with rfl | rfl | rfl
    · have := encs_len1 (n := n + 8) (by omega); omega
    · simp [headOf]
    · omega
  · intro e w' hO
    obtain ⟨A7, n7, c7, rfl, hn7, hc71, hc72, ho7, hb7⟩ := hO
    have hb67 := hB7.trans (hb7.mono hB7.size)
    have hbw : RowKit.Below w.heap.size w w' := hb.trans ((hbW6.trans (hb67.mono hbW6.size)).mono hb.size)
    have e : [encs [n + 8], headOf F, outOf F].flatten = aheadOf F := by simp [aheadOf, hn, encs]
    rw [e] at hn7 ho7
    refine ⟨A7, n7, c7, rfl, hn7, hc71, hc72, own_base ho7 ?_, hbw⟩
    have := hb.size
    have := hbW6.size
    have := hB7.size
    omega

set_option maxRecDepth 100000 in
theorem wirePut_no (F : Fr) (cs : Array Value) (w : World) (hok : F.Ok) (hF : FrV w (fun _ => False) F cs) (hm : mayF F = false) :
    Calls Try.prog 13 #[.agg cs] w fun e w' => e = .returned (.tuple #[.slice none 0 0, .int .i64 1]) ∧ RowKit.Below w.heap.size w w' := by
  have HS := Lib.hid hF.size
  have hB : RowKit.Below w.heap.size w (w.alloc (.cells cs 33)) := (RowKit.Below.refl _ _).alloc (Nat.le_refl _) _
  have HM := Lib.hid (wireMay_any F cs (w.alloc (.cells cs 33)) hok (hF.on hB))
  rw [hm] at HM
  have HB := Lib.hid hB
  clear hok hF hm hB
  go_enter Try.func13, Try.ntmps13
  go_wp2_with (first | (refine load_frame (.tmp 1) rfl (heap_alloc_new _ _) HS.out ?_) | fail)
  refine HM.out.mono ?_
  rintro e w1 ⟨rfl, hb1⟩
  have HB1 : Hid (RowKit.Below w.heap.size w w1) := HB.out.trans (hb1.mono HB.out.size)
  clear hb1
  go_wp2
  go_ret2
  exact ⟨rfl, HB1.out⟩

/-- What Put answers of a frame that may be. -/
def PutYes (w : World) (F : Fr) (e : Ending) (w' : World) : Prop :=
  ∃ A n c, e = .returned (.tuple #[.slice A n c, .int .i64 0]) ∧ Hid ((putOf F).length = n) ∧ n ≤ c ∧ c ≤ maxLen ∧ w'.ownsRow w.heap.size 5 1 (.slice A n c) n (bvs (putOf F)) ∧ RowKit.Below w.heap.size w w'

set_option maxRecDepth 100000 in
set_option maxHeartbeats 800000 in
theorem wirePut_yes (F : Fr) (cs : Array Value) (w : World) (hok : F.Ok) (hF : FrV w (fun _ => False) F cs) (hm : mayF F = true) :
    Calls Try.prog 13 #[.agg cs] w (PutYes w F) := by
  have HS := Lib.hid hF.size
  have hB : RowKit.Below w.heap.size w (w.alloc (.cells cs 33)) := (RowKit.Below.refl _ _).alloc (Nat.le_refl _) _
  have HM := Lib.hid (wireMay_any F cs (w.alloc (.cells cs 33)) hok (hF.on hB))
  rw [hm] at HM
  have HB := Lib.hid hB
  have HF := Lib.hid hF
  have HOK := Lib.hid hok
  clear hok hF hm hB
  go_enter Try.func13, Try.ntmps13
  go_wp2_with (first | (refine load_frame (.tmp 1) rfl (heap_alloc_new _ _) HS.out ?_) | fail)
  refine HM.out.mono ?_
  rintro e w1 ⟨rfl, hb1⟩
  have HB1 : Hid (RowKit.Below w.heap.size w w1) := HB.out.trans (hb1.mono HB.out.size)
  have HG1 : Hid (w1.heap[w.heap.size]? = some (.cells cs 33 (0, 0))) := (hb1.block _ (by simp)).trans (heap_alloc_new _ _)
  clear hb1
  go_wp2_with fail
  refine (write_any HOK.out HF.out HB1.out HG1.out).mono ?_
  rintro e W ⟨rfl, hP⟩
  obtain ⟨A, n, c, c0, hn, hT⟩ := put_tail HOK.out hP
  have hgw := hP.2.2.1.lt
  obtain ⟨-, hbW, -, k0, k1, k2⟩ := hP
  have HT := Lib.hid hT
  clear hT hbW
  generalize w1.heap.size = gw at c0 HT hgw
  go_wp2_with fail
  refine Calls.mono (HT.out _ ?hv) ?_
  case hv => omega
  rintro e W6 ⟨A3, n3, c3, rfl, c6, HK⟩
  clear k0 k1 k2 c0
  go_wp2_with fail
  refine HK.out.mono ?_
  rintro e w7 ⟨A7, n7, c7, rfl, hn7, h71, h72, ho7, hb7⟩
  have HE : Hid (PutYes w F (.returned (.tuple #[.slice A7 n7 c7, .int .i64 0])) w7) := ⟨A7, n7, c7, rfl, by have := hn7.out; rw [bvs_length] at this; exact this, h71, h72, ho7, hb7⟩
  clear hn7 ho7 hb7
  go_wp2
  go_ret2
  exact HE.out

end Go.Proofs.Ytbfjfidodpgohaa

/- Reader.Row, once more: its answer lies in a block of its own (made of the elder text). -/
namespace Go.Proofs.Ytbfjfidodpgohaa
open Go.RowKit

/-- The call answered these bytes, in a new block; block g is now such a reader, and no other old block has turned. -/
def TookRow2 (w : World) (base hi g : Nat) (row l : List UInt8) (er : Nat) (e : Ending) (w' : World) : Prop :=
  ∃ A n c, e = .returned (.slice A n c) ∧ Hid (row.length = n) ∧ n ≤ c ∧ c ≤ maxLen ∧ (∀ a, A = some a → w.heap.size ≤ a.block) ∧ Lies w' w'.heap.size A (bvs row) ∧ Rd w' base hi g l er ∧ w.grownBy w' (some g)

theorem gotRow_took2 {w w1 : World} {base hi g n c A0 n2 c2 : Nat} {A2 : Option Addr} {l row : List UInt8} {off s : Nat} (h : RdAt w base hi g l 0 (some ⟨A0, off, none⟩) n c) (hs : s ≤ n) (hn2 : Hid (row.length = n2)) (hc2 : n2 ≤ c2 ∧ c2 ≤ maxLen)
    (ho : w1.ownsRow w.heap.size 5 1 (.slice A2 n2 c2) n2 (bvs row)) (hb : Below w.heap.size w w1) :
    TookRow2 w base hi g row (l.drop s) 0 (.returned (.slice A2 n2 c2)) (w1.setCell ⟨g, 0, none⟩ (.slice (if c = s then (some ⟨A0, off, none⟩) else (some ⟨A0, off + s, none⟩)) (n - s) (c - s))) := by
  have hlt := h.lt
  have hhi := h.hiLe
  have h1 := (h.below (hb.mono hhi)).cut s hs
  refine ⟨A2, n2, c2, rfl, hn2, hc2.1, hc2.2, fun a ha => by subst ha; exact (ho.lt a.block rfl).1, ?_, ⟨_, _, _, h1⟩, ?_⟩
  · have hL := Lies.of_own ho
    rw [show ∀ u : Value, (w1.setCell ⟨g, 0, none⟩ u).heap.size = w1.heap.size from fun u => by simp [World.setCell]]
    refine hL.kept (grown_setCell w1 g 0 _) (Nat.le_refl _) (fun a ha e => ?_)
    subst ha
    have := (ho.lt a.block rfl).1
    injection e with e
    omega
  · have hg := grown_setCell w1 g 0 (.slice (if c = s then (some ⟨A0, off, none⟩) else (some ⟨A0, off + s, none⟩)) (n - s) (c - s))
    exact ⟨hb.os, hb.tape, hb.output, Nat.le_trans hb.size hg.size, fun k hk hne => (hg.block k (Nat.lt_of_lt_of_le hk hb.size) hne).trans (hb.block k hk)⟩

set_option maxRecDepth 100000 in
set_option maxHeartbeats 800000 in
theorem row_ok2 {w : World} {base hi g n c : Nat} {l row : List UInt8} {b off : Nat} (most : Int) (s : Nat) (hRd : RdAt w base hi g l 0 (some ⟨b, off, none⟩) n c) (hsn : s ≤ n) (_hs : s ≤ 9000000)
    (hr : Calls Try.prog 85 #[.slice (some ⟨b, off, none⟩) n c, .int .i64 most] w (GotRow w row s)) :
    Calls Try.prog 83 #[.pointer (some ⟨g, 0, none⟩), .int .i64 most] w (TookRow2 w base hi g row (l.drop s) 0) := by
  have hc0 := hRd.c0
  have hc1 := hRd.c1
  have hnc : n ≤ c := hRd.2.2.2.1
  have HR := Lib.hid hr
  clear hr
  go_enter Try.func83, Try.ntmps83
  go_wp2_with (first
    | (go_at_call 56; refine (silent_ok hRd).mono ?_; rintro e w' ⟨rfl, rfl⟩)
    | (go_at_call 85; refine HR.out.mono ?_; rintro e w1 ⟨A2, n2, c2, rfl, hn2, q1, q2, ho, hb⟩; have hc2 := (hRd.below (hb.mono hRd.hiLe)).c0; have hf2 := (hRd.below (hb.mono hRd.hiLe)).fr 0))
  all_goals
    have hT := gotRow_took2 hRd hsn hn2 ⟨q1, q2⟩ ho hb
    go_ret
  · rw [if_pos ‹c = s›] at hT
    rw [show c - s = 0 by omega] at hT
    exact hT
  · rw [if_neg ‹¬ c = s›] at hT
    exact hT

theorem took_none2 {w w' : World} {base hi g er : Nat} {l : List UInt8} (hR : Rd w' base hi g l er) (hg : w.grownBy w' (some g)) : TookRow2 w base hi g [] l er (.returned (.slice none 0 0)) w' :=
  ⟨none, 0, 0, rfl, rfl, Nat.le_refl _, by unfold maxLen; omega, (fun _ h => by cases h), Lies.nil, hR, hg⟩

theorem row_any2 {w : World} {base hi g er : Nat} {l : List UInt8} (most : Int) (hmost : -9223372036854775808 ≤ most ∧ most ≤ 9223372036854775807) (h : Rd w base hi g l er) (hl : l.length ≤ 1000000) :
    Calls Try.prog 83 #[.pointer (some ⟨g, 0, none⟩), .int .i64 most] w (TookRow2 w base hi g (rowOf l er most).1 (rowOf l er most).2.1 (rowOf l er most).2.2) := by
  obtain ⟨A, n, c, h⟩ := h
  by_cases her : er = 0
  · subst her
    have hn : l.length = n := h.2.2.1.out
    have key : ∀ er, 0 < er → rrow l most = ([], 0, er) → (Calls Try.prog 85 #[.slice A n c, .int .i64 most] w fun e w' => e = .returned (.tuple #[.slice none 0 0, .int .i64 0, .int .i64 er]) ∧ w = w') →
        Calls Try.prog 83 #[.pointer (some ⟨g, 0, none⟩), .int .i64 most] w (TookRow2 w base hi g (rowOf l 0 most).1 (rowOf l 0 most).2.1 (rowOf l 0 most).2.2) := by
      intro er h1 h2 h3
      have e : rowOf l 0 most = ([], l, er) := by simp [rowOf, h2]; omega
      rw [e]
      refine (row_err most er h h1 h3).mono ?_
      rintro e w' ⟨rfl, rfl⟩
      exact took_none2 ⟨_, _, _, h.setErr er⟩ (grown_setCell _ _ _ _)
    rcases rd_err l top with h0 | h0
    · rcases hrd : rd l top with ⟨m, s, z⟩
      rw [hrd] at h0
      simp only at h0
      subst h0
      obtain ⟨hs0, hs1, hs9, _, c0, t, hl0, _⟩ := rd_size hrd
      by_cases hm : most.toNat < m
      · exact key 4 (by decide) (by simp [rrow, hrd, hm]) (readRow_long A _ n c m s most l w hn h.lies hrd hm hmost)
      · by_cases hsh : n - s < m
        · exact key 2 (by decide) (by simp [rrow, hrd, hm, hn, hsh]) (readRow_short A _ n c m s most l w hn h.lies hrd hm hsh (by omega) hmost)
        · obtain ⟨b, off, rfl, _⟩ := h.lies (by rw [hl0]; simp [bvs])
          have e : rowOf l 0 most = ((l.drop s).take m, l.drop (s + m), 0) := by simp [rowOf, rrow, hrd, hm, hn, hsh]
          rw [e]
          exact row_ok2 most (s + m) h (by omega) (by omega) (readRow_ok b off _ n c m s most l w hn h.lies hrd hm hsh (by omega) h.2.2.2.1 hmost)
    · have k2 : ∀ er, 0 < er → rd l top = (0, 0, er) → Calls Try.prog 83 #[.pointer (some ⟨g, 0, none⟩), .int .i64 most] w (TookRow2 w base hi g (rowOf l 0 most).1 (rowOf l 0 most).2.1 (rowOf l 0 most).2.2) :=
        fun er h1 h2 => key er h1 (by simp [rrow, h2]; omega) (readRow_bad A _ n c er most l w hn h.lies h2 h1)
      rcases h0 with h0 | h0 | h0
      · exact k2 2 (by decide) h0
      · exact k2 3 (by decide) h0
      · exact k2 6 (by decide) h0
  · have e : rowOf l er most = ([], l, er) := by simp [rowOf, her]
    rw [e]
    refine (row_bad most h (by omega)).mono ?_
    rintro e w' ⟨rfl, rfl⟩
    exact took_none2 ⟨A, n, c, h⟩ (World.grownBy.refl _ _)

end Go.Proofs.Ytbfjfidodpgohaa

/- The reader as one who is shown a frame's fields: numbers, words, ids, bytes. -/
namespace Go.Proofs.Ytbfjfidodpgohaa
open Go.RowKit Go.Sort

/-- What a reader has: the bytes before it, its error. -/
abbrev Rs := List UInt8 × Nat
def rN (most : Nat) (s : Rs) : Nat × Rs := ((rnum s.1 s.2 most).1, (rnum s.1 s.2 most).2.1, (rnum s.1 s.2 most).2.2)

theorem rN_le (most : Nat) (s : Rs) : (rN most s).1 ≤ most ∧ (rN most s).2.1.length ≤ s.1.length := by
  unfold rN
  by_cases he : s.2 = 0
  · rw [he]
    rcases rnum_cases s.1 most with h | ⟨m, h1, -, -, -, h2⟩
    · refine ⟨by rw [h.2]; omega, ?_⟩
      unfold rnum
      split
      · exact Nat.le_refl _
      split
      · exact Nat.le_refl _
      · simp
    · rw [h1]; exact ⟨h2, by simp⟩
  · have : rnum s.1 s.2 most = (0, s.1, s.2) := by simp [rnum, he]
    rw [this]
    exact ⟨Nat.zero_le _, Nat.le_refl _⟩

/-- The reader's state, kept while nothing below hi turns. -/
def RdI (base hi gr : Nat) (s : Rs) (w : World) : Prop := Rd w base hi gr s.1 s.2 ∧ s.1.length ≤ 4000

/-- What a call of the reader leaves. -/
def Read (base hi gr : Nat) (w : World) (s : Rs) (w' : World) : Prop := RdI base hi gr s w' ∧ OnlyE w w' (fun k => k = gr)

theorem RdI.below {base hi gr : Nat} {s : Rs} {w w' : World} (h : RdI base hi gr s w) (hb : RowKit.Below w.heap.size w w') : RdI base hi gr s w' := ⟨h.1.below (hb.mono h.1.lt.2.2), h.2⟩
theorem Read.behind {base hi gr : Nat} {s : Rs} {w w1 w' : World} (h : Read base hi gr w1 s w') (hb : RowKit.Below w.heap.size w w1) : Read base hi gr w s w' := ⟨h.1, (OnlyE.of_below hb).trans h.2⟩
theorem Read.trans {base hi gr : Nat} {s s' : Rs} {w w1 w' : World} (h : Read base hi gr w s w1) (k : Read base hi gr w1 s' w') : Read base hi gr w s' w' := ⟨k.1, h.2.trans k.2⟩

theorem rdNum_any {base hi gr : Nat} {s : Rs} (most : Nat) (w : World) (h : RdI base hi gr s w) :
    Calls Try.prog 44 #[.pointer (some ⟨gr, 0, none⟩), .int .u64 (most : Int)] w fun e w' => e = .returned (.int .u64 ((rN most s).1 : Int)) ∧ Read base hi gr w (rN most s).2 w' :=
  (num_any most h.1).mono fun _ _ hh => ⟨hh.1, ⟨hh.2.1, Nat.le_trans (rN_le most s).2 h.2⟩, OnlyE.of_grown hh.2.2 rfl⟩

set_option maxRecDepth 100000 in
theorem rdNumber_any {base hi gr : Nat} {s : Rs} (n : Nat) (w : World) (h : RdI base hi gr s w) :
    Calls Try.prog 79 #[.agg #[.pointer (some ⟨gr, 0, none⟩)], .int .u64 (n : Int)] w fun e w' => e = .returned (.int .u64 ((rN top s).1 : Int)) ∧ Read base hi gr w (rN top s).2 w' := by
  have hB : RowKit.Below w.heap.size w (w.alloc (.cells #[.pointer (some ⟨gr, 0, none⟩)] 52)) := (RowKit.Below.refl _ _).alloc (Nat.le_refl _) _
  have HN := Lib.hid (rdNum_any 18446744073709551615 _ (h.below hB))
  have HB := Lib.hid hB
  have ht : top = 18446744073709551615 := rfl
  rw [ht]
  clear hB h ht
  go_enter Try.func79, Try.ntmps79
  go_wp2_with fail
  refine HN.out.mono ?_
  rintro e w1 ⟨rfl, hR⟩
  have HR := Lib.hid (hR.behind HB.out)
  clear hR
  go_wp2
  go_ret
  exact ⟨rfl, HR.out⟩

set_option maxRecDepth 100000 in
theorem rdWord_any {base hi gr : Nat} {s : Rs} (n : Nat) (w : World) (h : RdI base hi gr s w) :
    Calls Try.prog 82 #[.agg #[.pointer (some ⟨gr, 0, none⟩)], .int .u32 (n : Int)] w fun e w' => e = .returned (.int .u32 ((rN 4294967295 s).1 : Int)) ∧ Read base hi gr w (rN 4294967295 s).2 w' := by
  have hB : RowKit.Below w.heap.size w (w.alloc (.cells #[.pointer (some ⟨gr, 0, none⟩)] 52)) := (RowKit.Below.refl _ _).alloc (Nat.le_refl _) _
  have HN := Lib.hid (rdNum_any 4294967295 _ (h.below hB))
  have HB := Lib.hid hB
  have hle := (rN_le 4294967295 s).1
  generalize rN 4294967295 s = r at HN hle ⊢
  clear hB h
  go_enter Try.func82, Try.ntmps82
  go_wp2_with fail
  refine HN.out.mono ?_
  rintro e w1 ⟨rfl, hR⟩
  have HR := Lib.hid (hR.behind HB.out)
  clear hR
  go_wp2
  go_ret
  exact ⟨rfl, HR.out⟩

set_option maxRecDepth 100000 in
theorem rdFrom_any {base hi gr : Nat} {s : Rs} (w : World) (h : RdI base hi gr s w) :
    Calls Try.prog 84 #[.agg #[.pointer (some ⟨gr, 0, none⟩)]] w fun e w' => e = .returned (.int .u8 ((rN 255 s).1 : Int)) ∧ Read base hi gr w (rN 255 s).2 w' := by
  have hB : RowKit.Below w.heap.size w (w.alloc (.cells #[.pointer (some ⟨gr, 0, none⟩)] 52)) := (RowKit.Below.refl _ _).alloc (Nat.le_refl _) _
  have HN := Lib.hid (rdNum_any 255 _ (h.below hB))
  have HB := Lib.hid hB
  have hle := (rN_le 255 s).1
  generalize rN 255 s = r at HN hle ⊢
  clear hB h
  go_enter Try.func84, Try.ntmps84
  go_wp2_with fail
  refine HN.out.mono ?_
  rintro e w1 ⟨rfl, hR⟩
  have HR := Lib.hid (hR.behind HB.out)
  clear hR
  go_wp2
  go_ret
  exact ⟨rfl, HR.out⟩

def rRow (s : Rs) : List UInt8 × Rs := ((rowOf s.1 s.2 65536).1, (rowOf s.1 s.2 65536).2.1, (rowOf s.1 s.2 65536).2.2)

theorem rrow_le (l : List UInt8) (most : Int) : (rrow l most).1.length ≤ l.length := by
  unfold rrow
  split
  · simp
  split
  · simp
  split
  · simp
  · simp only [List.length_take, List.length_drop]; omega

theorem rRow_le (s : Rs) : (rRow s).1.length ≤ s.1.length ∧ (rRow s).2.1.length ≤ s.1.length := by
  have h := rrow_le s.1 65536
  unfold rRow rowOf
  split
  · simp
  split
  · simp
  · exact ⟨h, by simp⟩

set_option maxRecDepth 100000 in
theorem rdData_any {base hi gr : Nat} {s : Rs} (A : Option Addr) (n c : Nat) (w : World) (h : RdI base hi gr s w) :
    Calls Try.prog 77 #[.agg #[.pointer (some ⟨gr, 0, none⟩)], .slice A n c] w fun e w' => ∃ A' c', e = .returned (.slice A' (rRow s).1.length c') ∧ (∀ D : Nat → Prop, (∀ k, D k → k < w.heap.size) → SlA w' D A' (rRow s).1.length c' (bvs (rRow s).1)) ∧ Read base hi gr w (rRow s).2 w' := by
  have hB : RowKit.Below w.heap.size w (w.alloc (.cells #[.pointer (some ⟨gr, 0, none⟩)] 52)) := (RowKit.Below.refl _ _).alloc (Nat.le_refl _) _
  have h1 := h.below hB
  have HN := Lib.hid (row_any2 65536 (by omega) h1.1 (by have := h1.2; omega))
  have HB := Lib.hid hB
  have HLE : Hid ((rowOf s.1 s.2 65536).2.1.length ≤ 4000) := Nat.le_trans (rRow_le s).2 h.2
  have HSZ : Hid (w.heap.size ≤ (w.alloc (.cells #[.pointer (some ⟨gr, 0, none⟩)] 52)).heap.size) := hB.size
  clear hB h h1
  unfold rRow
  generalize rowOf s.1 s.2 65536 = r at HN HLE ⊢
  go_enter Try.func77, Try.ntmps77
  go_wp2_with fail
  refine HN.out.mono ?_
  rintro e w1 ⟨A2, n2, c2, rfl, hn2, hc1, hc2, hA2, hL, hR, hg⟩
  have HE : Hid (∃ A' c', Ending.returned (.slice A2 n2 c2) = .returned (.slice A' r.1.length c') ∧ (∀ D : Nat → Prop, (∀ k, D k → k < w.heap.size) → SlA w1 D A' r.1.length c' (bvs r.1)) ∧ Read base hi gr w r.2 w1) := by
    have e := hn2.out
    subst e
    refine ⟨A2, c2, rfl, fun D hD => ⟨hc1, hc2, fun hne => ?_⟩, ⟨hR, HLE.out⟩, (OnlyE.of_below HB.out).trans (OnlyE.of_grown hg rfl)⟩
    obtain ⟨b, off, rfl, hb, hcell⟩ := hL hne
    refine ⟨b, off, rfl, hb, fun hd => ?_, hcell⟩
    have h0 : _ ≤ b := hA2 _ rfl
    have := hD b hd
    have := HSZ.out
    omega
  clear hn2 hL hR hg hA2
  go_wp2
  go_ret
  exact HE.out

end Go.Proofs.Ytbfjfidodpgohaa
