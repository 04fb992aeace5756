/- The document's Mark, Fits (picked). -/
import Derived.Test.YtbfjfidodpgohaaWcE
import Derived.Test.YtbfjfidodpgohaaT19
import Derived.Deep.RegionWith

namespace Go.Proofs.Ytbfjfidodpgohaa
open Go.RowKit

set_option maxRecDepth 100000 in
set_option maxHeartbeats 1600000 in
theorem refMark_any (A : Option Addr) (n c : Nat) (l : List UInt8) (w : World) (hl : l.length = n) (hn : n ≤ 100000) (h : Lies w w.heap.size A (bvs l)) :
    Calls Try.prog 11 #[.slice A n c] w (Owned w w.heap.size (bvs (markOf l))) := by
  obtain ⟨i0, hi, hz0, hz1, hz2⟩ := info_parts Try.info5
  have HL := Lib.hid hl
  clear hl
  go_enter Try.func11, Try.ntmps11
  go_wp2_with (at_builtin; refine wpList_append_lst rfl _ _ 22 rfl w.heap.size 5 i0 (.int .u8 0) 1 Try.underlying22 hi hz0 hz1 hz2 rfl _ 0 _ rfl (World.ownsRow_lit w #[] 0 (Nat.le_refl _) (Nat.zero_le _) rfl) _ A n c (bvs l) rfl ?c1 (h.later ((Below.refl _ _).alloc (Nat.le_refl _) _)) (bvs_one l) ?c2 ?c3 ?c4 ?_)
  case c1 => rw [bvs_length]; exact HL.out
  case c2 => unfold maxLen; omega
  case c3 => omega
  case c4 => simp
  intro v1 w1 hown1 hg1 hb1 _
  have hb : Below w.heap.size w w1 := ((Below.refl _ _).alloc (Nat.le_refl _) _).trans hb1
  have hM0 : MarkRel w l (sumOf l) 0 v1 w1 := by
    refine ⟨?_, hb⟩
    rw [List.take_zero, List.append_nil, HL.out]
    exact hown1
  clear hown1 hg1 hb1
  go_wp2_with (go_at_call 29; refine (refSum_any A n c l _ HL.out (by omega) (h.later hb)).mono ?_; rintro e w' ⟨rfl, rfl⟩)
  unfold rv
  generalize hss : sumOf l = s at hM0 ⊢
  have HS := Lib.hid hss
  have hslt := s.isLt
  have hmx : l.length ≤ 100000 := by rw [HL.out]; exact hn
  clear hss
  go_loopw [3, 4, 5] (fun v r i wr => ∃ (k : Nat), k ≤ 4 ∧ i = .int .i64 k ∧ r = .int .u32 ((s.toNat / 256 ^ k : Nat) : Int) ∧ MarkRel w l s k v wr) (fun _ _ i _ => 4 - (intOf i).toNat)
  case atStart => exact ⟨0, Nat.zero_le _, rfl, by simp, hM0⟩
  case round =>
    obtain ⟨q, hq, rfl, rfl, hM⟩ := hrel
    generalize wr = w6 at hM ⊢
    have HM := Lib.hid hM
    obtain ⟨hoM, hbM⟩ := hM
    have hle : s.toNat / 256 ^ q ≤ s.toNat := Nat.div_le_self _ _
    by_cases hq4 : q < 4
    · have HDV := Lib.hid (four_div s.toNat q)
      have hst : Hid (∀ {w2 : World} {v2 : Value} {o : Obj}, w2.ownsRow w.heap.size 5 1 v2 (l.length + q + 1) (bvs (l ++ (four s).take q) ++ [Value.int .u8 (((s.toNat / 256 ^ q : Nat) : Int) % 256)]) → Below w.heap.size (w6.alloc o) w2 → MarkRel w l s (q + 1) v2 w2) := fun h1 h2 => HM.out.step hq4 h1 h2
      generalize s.toNat / 256 ^ q = z at HDV hst hle ⊢
      have hsz := hbM.size
      clear hM0
      go_wp2_with (at_builtin; refine wpList_append_lst rfl _ _ 22 rfl w.heap.size 5 i0 (.int .u8 0) 1 Try.underlying22 hi hz0 hz1 hz2 rfl _ _ _ rfl (hoM.alloc _) _ _ 1 _ _ rfl ?g0 (lies_new _ _ _) ?g1 ?g2 ?g3 ?g4 ?_)
      case g1 => rfl
      case g2 => unfold maxLen; omega
      case g3 => omega
      case g4 => simp; omega
      intro v7 w7 hown7 hg7 hb7 _
      go_wp2
      go_roundw
      case rel => exact ⟨q + 1, by omega, by go_num, by rw [← HDV.out]; go_num, hst.out hown7 hb7⟩
      case measure => simp [intOf]; omega
    · go_wp2
      go_ret
      rw [← HS.out] at HM
      exact HM.out.done (by omega)

/-- What the document's Fits answers: it may lie in what was handed in. -/
def RefFitted (w : World) (B : Nat) (l : List UInt8) (e : Ending) (w' : World) : Prop :=
  ∃ A n c, e = .returned (.tuple #[.slice A n c, .int .i64 ((fitsOf l).2 : Int)]) ∧ Hid ((fitsOf l).1.length = n) ∧ n ≤ c ∧ Lies w' B A (bvs (fitsOf l).1) ∧ Below w.heap.size w w'

set_option maxRecDepth 100000 in
theorem refFits_short (B : Nat) (A : Option Addr) (n c : Nat) (l : List UInt8) (w : World) (hl : l.length = n) (hn : n < 4) :
    Calls Try.prog 22 #[.slice A n c] w (RefFitted w B l) := by
  have hf : fitsOf l = ([], 2) := by unfold fitsOf; rw [if_pos (by omega)]
  have HF := Lib.hid hf
  clear hf hl
  go_enter Try.func22, Try.ntmps22
  go_wp2
  go_ret2
  unfold RefFitted
  rw [HF.out]
  exact ⟨_, _, _, rfl, rfl, Nat.le_refl _, Lies.nil, (Below.refl _ _).alloc (Nat.le_refl _) _⟩

theorem str_ne {a b : List UInt8} (h : a ≠ b) : ((str a).toList == (str b).toList) = false := by
  unfold str
  rw [ByteArray.toList_mk, ByteArray.toList_mk]
  exact beq_eq_false_iff_ne.2 h

set_option maxRecDepth 100000 in
set_option maxHeartbeats 1600000 in
theorem refFits_long (B : Nat) (A : Option Addr) (m c : Nat) (l : List UInt8) (w : World) (hl : l.length = m + 4) (hm : m ≤ 10000) (hc : m + 4 ≤ c) (hcm : c ≤ maxLen) (hB : B ≤ w.heap.size) (hlB : Lies w B A (bvs l)) :
    Calls Try.prog 22 #[.slice A (m + 4 : Nat) c] w (RefFitted w B l) := by
  have h := hlB.more hB
  have hd : decide ((m : Int) + 4 < 4) = false := by simp; omega
  have hcm' := hcm
  unfold maxLen at hcm'
  have HL := Lib.hid hl
  have hLt := lies_take h m
  rw [show (bvs l).take m = bvs (l.take m) by simp [bvs]] at hLt
  have hLB := lies_take hlB m
  rw [show (bvs l).take m = bvs (l.take m) by simp [bvs]] at hLB
  have hlm : (l.take m).length = m := by simp; omega
  have HLM := Lib.hid hlm
  have hK : KeepS w A (m + 4) c l := keepS_of hl h
  unfold KeepS at hK
  have J1 : Hid (∀ W : World, Below w.heap.size w W → Calls Try.prog 11 #[.slice A m c] W (Owned W W.heap.size (bvs (markOf (l.take m))))) := fun W hW => refMark_any A m c (l.take m) W HLM.out (by omega) (hLt.later hW)
  clear hl hlm
  have hb0 : Below w.heap.size w w.drew := (Below.refl _ _).drew
  go_enter Try.func22, Try.ntmps22
  go_wp2_with fail
  by_cases hs : markOf (l.take m) = l
  · have HS := Lib.hid hs
    go_region_with (go_at_call 11; refine (J1.out _ hb0).mono ?_; rw [HS.out]; intro e w5 ho5; obtain ⟨A5, n5, c5, rfl, hn5, hL5, hb5⟩ := ho5.use; have hs5 := strs_of hn5.out hL5; unfold Strs at hs5; have hb6 := hb0.trans (hb5.mono hb0.size))
    all_goals
      go_wp2
      go_ret2
      have hf : fitsOf l = (l.take m, 0) := by
        have h1 := HL.out
        unfold fitsOf
        rw [if_neg (by omega), show l.length - 4 = m by omega, if_pos HS.out]
      unfold RefFitted
      rw [hf]
      exact ⟨A, m, c, rfl, HLM.out, by omega, hLB.below (hb6.mono hB), hb6⟩
  · have hf : fitsOf l = ([], 5) := by
      have h1 := HL.out
      unfold fitsOf
      rw [if_neg (by omega), show l.length - 4 = m by omega, if_neg hs]
    have HF := Lib.hid hf
    have hne : ((str (markOf (l.take m))).toList == (str l).toList) = false := str_ne hs
    clear hf hs
    go_region_with (go_at_call 11; refine (J1.out _ hb0).mono ?_; intro e w5 ho5; obtain ⟨A5, n5, c5, rfl, hn5, hL5, hb5⟩ := ho5.use; have hs5 := strs_of hn5.out hL5; unfold Strs at hs5; have hb6 := hb0.trans (hb5.mono hb0.size))
    all_goals
      go_wp2
      go_ret2
      unfold RefFitted
      rw [HF.out]
      exact ⟨_, _, _, rfl, rfl, Nat.le_refl _, Lies.nil, hb6.alloc hb6.size _⟩

theorem refFits_any (B : Nat) (A : Option Addr) (n c : Nat) (l : List UInt8) (w : World) (hl : l.length = n) (hm : n ≤ 10000) (hc : n ≤ c) (hcm : c ≤ maxLen) (hB : B ≤ w.heap.size) (h : Lies w B A (bvs l)) :
    Calls Try.prog 22 #[.slice A n c] w (RefFitted w B l) := by
  by_cases hn : n < 4
  · exact refFits_short B A n c l w hl hn
  · obtain ⟨m, rfl⟩ : ∃ m, n = m + 4 := ⟨n - 4, by omega⟩
    exact refFits_long B A m c l w hl (by omega) hc hcm hB h

end Go.Proofs.Ytbfjfidodpgohaa
