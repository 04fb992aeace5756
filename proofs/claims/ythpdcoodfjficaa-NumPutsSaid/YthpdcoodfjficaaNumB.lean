/- The walk of appendNumber: a number's bytes are put behind a slice that the call owns. -/
import Derived.Test.YthpdcoodfjficaaNumA
namespace Go.Proofs.Ythpdcoodfjficaa
open Go.RowKit

/-- What has been put behind xs when k of n's digits are done, j being what is left of n. -/
def AppRel (w : World) (base L : Nat) (xs : List Value) (n : Nat) (j k : Nat) (v : Value) (wr : World) : Prop :=
  k ≤ (digs n).length ∧ j ≤ n ∧ digs j = (digs n).drop k ∧ wr.ownsRow base 5 1 v (L + 1 + k) (xs ++ bvs (UInt8.ofNat (digs n).length :: (digs n).take k)) ∧ Below base w wr ∧ base ≤ wr.heap.size

theorem head_byte {k : Nat} (h : k ≤ 8) : Value.int .u8 (k : Int) = bv (UInt8.ofNat k) := by
  have : (UInt8.ofNat k).toNat = k := by simp [UInt8.toNat_ofNat']; omega
  unfold bv; rw [this]

theorem low_byte (j : Nat) : Value.int .u8 ((j : Int) % 256) = bv (UInt8.ofNat (j % 256)) := by
  unfold bv; rw [byte_toNat]; rfl

theorem take_step {l t : List UInt8} {k : Nat} {c : UInt8} (h : c :: t = l.drop k) : l.take (k + 1) = l.take k ++ [c] ∧ t = l.drop (k + 1) ∧ k < l.length := by
  have hlt : k < l.length := by
    rcases Nat.lt_or_ge k l.length with h1 | h1
    · exact h1
    · rw [List.drop_of_length_le h1] at h; cases h
  rw [List.drop_eq_getElem_cons hlt] at h
  injection h with h1 h2
  exact ⟨by rw [List.take_succ_eq_append_getElem hlt, h1], h2, hlt⟩

theorem AppRel.step {w wr w2 : World} {base L : Nat} {xs : List Value} {n j k : Nat} {v v2 : Value} {o : Obj} (h : AppRel w base L xs n j k v wr) (hj0 : 0 < j)
    (hown : w2.ownsRow base 5 1 v2 (L + 1 + k + 1) (xs ++ (bvs (UInt8.ofNat (digs n).length :: List.take k (digs n)) ++ [Value.int IntKind.u8 (↑j % 256)]))) (hb : Below base (wr.alloc o) w2) :
    AppRel w base L xs n (j / 256) (k + 1) v2 w2 := by
  obtain ⟨hk1, hj, hdj, _, hbr, hbs⟩ := h
  rw [digs_pos hj0] at hdj
  obtain ⟨h1, h2, h3⟩ := take_step hdj
  refine ⟨h3, by omega, h2, ?_, (hbr.alloc hbs _).trans hb, ?_⟩
  · rw [h1]
    rw [low_byte] at hown
    have e : bvs (UInt8.ofNat (digs n).length :: (List.take k (digs n) ++ [UInt8.ofNat (j % 256)])) = bvs (UInt8.ofNat (digs n).length :: List.take k (digs n)) ++ [bv (UInt8.ofNat (j % 256))] := by simp [bvs]
    rw [e]
    exact hown
  · have := hb.size; simp at this; omega

theorem AppRel.done {w wr : World} {base L : Nat} {xs : List Value} {n j k : Nat} {v : Value} (h : AppRel w base L xs n j k v wr) (hk : ¬ k < (digs n).length) :
    Owned w base (xs ++ bvs (enc n)) (.returned v) wr := by
  obtain ⟨hk1, _, _, hown, hbr, _⟩ := h
  have hk2 : k = (digs n).length := by omega
  subst hk2
  rw [List.take_length] at hown
  exact Owned.of hown hbr

set_option maxHeartbeats 800000 in
theorem appendNumber_any (base : Nat) (v : Value) (L : Nat) (xs : List Value) (n : Nat) (w : World) (hown : w.ownsRow base 5 1 v L xs) (hk : L ≤ 1000000) (hn : n < 18446744073709551616) (hbase : base ≤ w.heap.size) :
    Calls Try.prog 25 #[v, .int .u64 n] w (Owned w base (xs ++ bvs (enc n))) := by
  obtain ⟨i0, hi, hz0, hz1, hz2⟩ := info_parts Try.info5
  have h8 := digs_le8 hn
  go_enter Try.func25, Try.ntmps25
  go_wp2_with (first
    | (go_at_call 29; refine (byteCount_any _ _ hn).mono ?_; rintro e w' ⟨rfl, rfl⟩)
    | (at_builtin; refine wpList_append_lst rfl _ _ 22 rfl base 5 i0 (.int .u8 0) 1 Try.underlying22 hi hz0 hz1 hz2 rfl v L xs rfl (hown.alloc _) _ _ 1 _ _ rfl ?c0 (lies_new _ _ _) ?c1 ?c2 ?c3 ?c4 ?_))
  case c1 => rfl
  case c2 => unfold maxLen; omega
  case c3 => omega
  case c4 => simp; omega
  intro v1 w1 hown1 hg1 hb1 _
  have hrel0 : AppRel w base L xs n n 0 v1 w1 := by
    refine ⟨Nat.zero_le _, Nat.le_refl _, by simp, ?_, ?_, ?_⟩
    · rw [head_byte h8] at hown1; exact hown1
    · exact ((Below.refl base w).alloc hbase _).trans hb1
    · have := hb1.size; simp at this; omega
  clear hown1 hg1 hb1
  have HN := Lib.hid hn
  go_wp2
  go_loopw [0, 1, 14] (fun v m i wr => ∃ (j k : Nat), m = .int .u64 j ∧ i = .int .i64 k ∧ AppRel w base L xs n j k v wr) (fun _ _ i _ => (digs n).length - (intOf i).toNat)
  case atStart => exact ⟨n, 0, rfl, rfl, hrel0⟩
  case round =>
    obtain ⟨j, k, rfl, rfl, hR⟩ := hrel
    obtain ⟨hk1, hj, hdj, hownr, hbr, hbs⟩ := id hR
    have HD := Lib.hid hdj
    clear hdj
    have HR := Lib.hid hR
    clear hR
    by_cases hlt : k < (digs n).length
    · have hj0 : 0 < j := by
        rcases Nat.eq_zero_or_pos j with h0 | h0
        · subst h0
          have := HD.out
          rw [digs_zero] at this
          have h2 := congrArg List.length this
          simp at h2; omega
        · exact h0
      go_wp2_with (at_builtin; refine wpList_append_lst rfl _ _ 22 rfl base 5 i0 (.int .u8 0) 1 Try.underlying22 hi hz0 hz1 hz2 rfl _ _ _ rfl (hownr.alloc _) _ _ 1 _ _ rfl ?d0 (lies_new _ _ _) ?d1 ?d2 ?d3 ?d4 ?_)
      case d1 => rfl
      case d2 => unfold maxLen; omega
      case d3 => omega
      case d4 => simp; omega
      intro v2 w2 hown2 hg2 hb2 _
      go_wp2
      go_roundw
      case rel => exact ⟨j / 256, k + 1, by go_num, by go_num, HR.out.step hj0 hown2 hb2⟩
      case measure => simp [intOf]; omega
    · go_wp2
      go_ret
      exact HR.out.done hlt

end Go.Proofs.Ythpdcoodfjficaa
