/- The walk of Mark: rows of bytes, with their sum behind them, in memory of the call's own. -/
import Derived.Test.YtfigdepigmacgaaCrcB
namespace Go.Proofs.Ytfigdepigmacgaa
open Go.RowKit

theorem low_byte' (j : Nat) : Value.int .u8 ((j : Int) % 256) = bv (UInt8.ofNat (j % 256)) := by
  have : (UInt8.ofNat (j % 256)).toNat = j % 256 := by simp [UInt8.toNat_ofNat']
  unfold bv; rw [this]; rfl

theorem four_take (s : BitVec 32) (k : Nat) (h : k < 4) : (four s).take (k + 1) = (four s).take k ++ [UInt8.ofNat (s.toNat / 256 ^ k % 256)] := by
  rcases k with _ | _ | _ | _ | k
  · simp [four]
  · rfl
  · rfl
  · rfl
  · omega

theorem four_div (n k : Nat) : n / 256 ^ k / 256 = n / 256 ^ (k + 1) := by rw [Nat.div_div_eq_div_mul, Nat.pow_succ]

/-- One row, in a list of its own that has just been laid. -/
theorem rows_lit (w : World) (t : TypeId) {A : Option Addr} {n c : Nat} {l : List UInt8} (hl : l.length = n) (hn : n ≤ c) (hc : c ≤ maxLen) (h : Lies w w.heap.size A (bvs l)) :
    Lies (w.alloc (.cells #[.slice A n c] t)) (w.alloc (.cells #[.slice A n c] t)).heap.size (some ⟨w.heap.size, 0, none⟩) [.slice A n c] ∧
    BytRows (w.alloc (.cells #[.slice A n c] t)) (w.alloc (.cells #[.slice A n c] t)).heap.size [.slice A n c] [l] := by
  refine ⟨(lies_new w #[.slice A n c] t).more (by simp), rfl, fun i h1 h2 => ?_⟩
  have hi : i = 0 := by simp at h1; omega
  subst hi
  exact ⟨A, n, c, rfl, hl, hn, hc, h.later ((Below.refl _ _).alloc (Nat.le_refl _) _)⟩

/-- What Mark has made when k of the sum's bytes are put. -/
def MarkRel (w : World) (xs : List UInt8) (s : BitVec 32) (k : Nat) (v : Value) (wr : World) : Prop :=
  wr.ownsRow w.heap.size 5 1 v (xs.length + k) (bvs (xs ++ (four s).take k)) ∧ Below w.heap.size w wr

theorem MarkRel.step {w wr w2 : World} {xs : List UInt8} {s : BitVec 32} {k : Nat} {v v2 : Value} {o : Obj} (h : MarkRel w xs s k v wr) (hk : k < 4)
    (hown : w2.ownsRow w.heap.size 5 1 v2 (xs.length + k + 1) (bvs (xs ++ (four s).take k) ++ [Value.int .u8 (((s.toNat / 256 ^ k : Nat) : Int) % 256)])) (hb : Below w.heap.size (wr.alloc o) w2) : MarkRel w xs s (k + 1) v2 w2 := by
  obtain ⟨_, hbr⟩ := h
  refine ⟨?_, (hbr.alloc hbr.size _).trans hb⟩
  rw [four_take s k hk, ← List.append_assoc, bvs_append]
  rw [low_byte'] at hown
  exact hown

theorem MarkRel.done {w wr : World} {xs : List UInt8} {k : Nat} {v : Value} (h : MarkRel w xs (sumOf xs) k v wr) (hk : k = 4) : Owned w w.heap.size (bvs (markOf xs)) (.returned v) wr := by
  subst hk
  exact Owned.of h.1 h.2

set_option maxHeartbeats 1600000 in
theorem mark_any (A2 : Option Addr) (m c2 : Nat) (vs : List Value) (ls : List (List UInt8)) (w : World) (hl2 : vs.length = m) (hm : m ≤ 100) (h2 : Lies w w.heap.size A2 vs) (hr : BytRows w w.heap.size vs ls) (hls : ∀ x ∈ ls, x.length ≤ 1000) :
    Calls Try.prog 12 #[.slice A2 m c2] w (Owned w w.heap.size (bvs (markOf ls.flatten))) := by
  obtain ⟨i0, hi, hz0, hz1, hz2⟩ := info_parts Try.info5
  have HL2 := Lib.hid hl2
  have HLS := Lib.hid hls
  have HR := Lib.hid hr
  clear hl2 hls hr
  go_enter Try.func12, Try.ntmps12
  go_wp2
  have hR0 : PutRel w (bvs (ls.take 0).flatten) (.slice none 0 0) w := by
    rw [List.take_zero]
    exact PutRel.of (World.ownsRow_nil _ _ _ _) (Below.refl _ _)
  go_loopw [3, 9] (fun v i wr => ∃ (k : Nat), k ≤ m ∧ i = .int .i64 k ∧ PutRel w (bvs (ls.take k).flatten) v wr) (fun _ i _ => m - (intOf i).toNat)
  case atStart => exact ⟨0, Nat.zero_le _, rfl, hR0⟩
  case round =>
    obtain ⟨k, hk, rfl, hR⟩ := hrel
    have hel := flatten_len (ls.take k) (M := 1000) (fun x hx => HLS.out x (List.mem_of_mem_take hx))
    have hxl : (bvs (ls.take k).flatten).length ≤ 100000 := by
      rw [bvs_length]
      have : (ls.take k).length ≤ 100 := by have := List.length_take_le k ls; omega
      omega
    by_cases hlt : k < m
    · have hk1 : k < vs.length := by rw [HL2.out]; exact hlt
      have hk2 : k < ls.length := by rw [← HR.out.1]; exact hk1
      obtain ⟨Ar, nr, cr, hvr, hlr, _, _, hLr⟩ := (HR.out.2 k hk1 hk2).below hR.below
      obtain ⟨b, off, rfl, hb, hc⟩ := (h2.below hR.below).at_ (List.getElem?_eq_getElem hk1)
      rw [hvr] at hc
      have hx : nr ≤ 1000 := by have := HLS.out ls[k] (List.getElem_mem hk2); omega
      have hsz : w.heap.size ≤ wr.heap.size := hR.below.size
      obtain ⟨L, hoL, hbL, hLL⟩ := id hR
      have hLx : L ≤ 100000 := by omega
      have HLR := Lib.hid hlr
      clear hR hel hxl hLL hvr hlr hR0
      go_wp2_with (at_builtin; refine wpList_append_lst rfl _ _ 28 rfl w.heap.size 5 i0 (.int .u8 0) 1 Try.underlying28 hi hz0 hz1 hz2 rfl _ _ _ rfl hoL _ _ _ _ (bvs ls[k]) rfl ?d0 hLr (bvs_one _) ?d2 ?d3 hsz ?_)
      case d0 => rw [bvs_length]; exact HLR.out
      case d2 => unfold maxLen; omega
      case d3 => omega
      intro v4 w4 hown4 hg4 hb4 _
      go_wp2
      go_roundw
      case rel =>
        refine ⟨k + 1, by omega, by go_num, ?_⟩
        rw [flatten_snoc ls k hk2, bvs_append]
        exact PutRel.of hown4 (hbL.trans hb4)
      case measure => simp [intOf]; omega
    · have : k = m := by omega
      subst this
      have hfin : (ls.take k).flatten = ls.flatten := by rw [← HL2.out, HR.out.1, List.take_length]
      rw [hfin] at hR hxl
      obtain ⟨L, hoL, hbL, hLL⟩ := hR
      obtain ⟨A1, c1, hv1, hc1, hc2⟩ := own_slice hoL
      subst hv1
      rw [bvs_length] at hxl hLL
      obtain ⟨hl1, hr1⟩ := rows_lit wr 28 hLL hc1 hc2 (Lies.of_own hoL)
      have hlen : ls.flatten.length ≤ 100000 := hxl
      have hL5 : L ≤ 100000 := by omega
      generalize hxs : ls.flatten = xs at hoL hLL hr1 hlen
      have HXS := Lib.hid hxs
      clear hxs
      have HLL := Lib.hid hLL
      have HR1 := Lib.hid hr1
      clear hfin hel hxl hLL hR0 hr1
      go_wp2_with (go_at_call 9; refine (sum_any _ 1 _ [.slice A1 L c1] [xs] _ rfl (by decide) hl1 HR1.out ?e1).mono ?_)
      case e1 => simp; omega
      rw [show [xs].flatten = xs by simp]
      rintro e w3 ⟨rfl, hb3⟩
      have hM0 : MarkRel w xs (sumOf xs) 0 (.slice A1 L c1) w3 := by
        refine ⟨?_, ?_⟩
        · have := own_below (hoL.alloc _) hb3
          rw [List.take_zero, List.append_nil, HLL.out]
          exact this
        · exact (hbL.alloc hbL.size _).trans (hb3.mono (by have := hbL.size; simp; omega))
      have hS : rv (sumOf xs) = .int .u32 (((sumOf xs).toNat / 256 ^ 0 : Nat) : Int) := by simp [rv]
      rw [hS]
      generalize hss : sumOf xs = s at hM0 hS ⊢
      have HS := Lib.hid hss
      have hslt := s.isLt
      have hmx : xs.length ≤ 100000 := hlen
      clear hss hS hb3 hoL hl1 hlen
      go_wp2
      go_loopw [3, 6, 20] (fun v r i wr => ∃ (k : Nat), k ≤ 4 ∧ i = .int .i64 k ∧ r = .int .u32 ((s.toNat / 256 ^ k : Nat) : Int) ∧ MarkRel w xs s k v wr) (fun _ _ i _ => 4 - (intOf i).toNat)
      case atStart => exact ⟨0, Nat.zero_le _, rfl, by simp, hM0⟩
      case round =>
        obtain ⟨q, hq, rfl, rfl, hM⟩ := hrel
        generalize wr = w6 at hM ⊢
        have HM := Lib.hid hM
        obtain ⟨hoM, hbM⟩ := hM
        have hle : s.toNat / 256 ^ q ≤ s.toNat := Nat.div_le_self _ _
        by_cases hq4 : q < 4
        · have HDV := Lib.hid (four_div s.toNat q)
          have hst : Hid (∀ {w2 : World} {v2 : Value} {o : Obj}, w2.ownsRow w.heap.size 5 1 v2 (xs.length + q + 1) (bvs (xs ++ (four s).take q) ++ [Value.int .u8 (((s.toNat / 256 ^ q : Nat) : Int) % 256)]) → Below w.heap.size (w6.alloc o) w2 → MarkRel w xs s (q + 1) v2 w2) := fun h1 h2 => HM.out.step hq4 h1 h2
          generalize s.toNat / 256 ^ q = z at HDV hst hle ⊢
          have hsz := hbM.size
          clear hM0
          go_wp2_with (at_builtin; refine wpList_append_lst rfl _ _ 28 rfl w.heap.size 5 i0 (.int .u8 0) 1 Try.underlying28 hi hz0 hz1 hz2 rfl _ _ _ rfl (hoM.alloc _) _ _ 1 _ _ rfl ?g0 (lies_new _ _ _) ?g1 ?g2 ?g3 ?g4 ?_)
          case g1 => rfl
          case g2 => unfold maxLen; omega
          case g3 => omega
          case g4 => simp; omega
          intro v7 w7 hown7 hg7 hb7 _
          go_wp2
          go_roundw
          case rel => exact ⟨q + 1, by omega, by go_num, by rw [← HDV.out]; go_num, hst.out hown7 hb7⟩
          case measure => simp [intOf]; omega
        · go_wp2
          go_ret
          rw [← HS.out] at HM
          rw [HXS.out]
          exact HM.out.done (by omega)

end Go.Proofs.Ytfigdepigmacgaa
