/- The walks of the small functions of package num that put numbers: what each call answers, and what it does to the world. -/
import Derived.Test.YthpdcoodfjficaaRows
import Derived.Test.YthpdcoodfjficaaNumMath
import Derived.Test.YthpdcoodfjficaaMem
import Derived.WalkKit
import Derived.Lib.Hide
import Derived.WalkSpells
import Derived.WalkLawsBesides
namespace Go.Proofs.Ythpdcoodfjficaa
open Go.RowKit

set_option maxHeartbeats 400000 in
theorem byteCount_any (n : Nat) (w : World) (hn : n < 18446744073709551616) :
    Calls Try.prog 29 #[.int .u64 n] w fun e w' => e = .returned (.int .i64 ((digs n).length : Nat)) ∧ w = w' := by
  go_enter Try.func29, Try.ntmps29
  go_wp2
  go_loop [0, 3] (fun m c => ∃ (j k : Nat), j ≤ n ∧ m = .int .u64 j ∧ c = .int .i64 k ∧ k + (digs j).length = (digs n).length) (fun m _ => (intOf m).toNat)
  case atStart => exact ⟨n, 0, Nat.le_refl _, rfl, rfl, by simp⟩
  case round =>
    obtain ⟨j, k, hj, rfl, rfl, hk⟩ := hrel
    have hk8 := digs_le8 hn
    have HK : Hid (k + (digs j).length = (digs n).length) := hk
    have hkk : k ≤ 8 := by omega
    clear hk hk8
    by_cases hlt : 0 < j
    · have hd := digs_pos hlt
      have HD := Lib.hid hd
      clear hd
      go_wp2
      go_round
      case rel =>
        refine ⟨j / 256, k + 1, by omega, by go_num, by go_num, ?_⟩
        have h1 := HK.out
        rw [HD.out, List.length_cons] at h1
        omega
      case measure => simp [intOf]; omega
    · go_wp2
      go_ret
      have : j = 0 := by omega
      subst this
      have := HK.out
      rw [digs_zero] at this
      exact ⟨by rw [← this]; simp, rfl⟩

theorem Try.info5 : (Try.prog.info? 5).map (fun i => (i.zero, i.size, i.bytes)) = some (some (.int .u8 0), 1, 1) := by kernel_rfl

/-- A new slice of the call's own, that holds xs. -/
def Owned (w : World) (base : Nat) (xs : List Value) (e : Ending) (w' : World) : Prop :=
  ∃ A n c, e = .returned (.slice A n c) ∧ Hid (xs.length = n) ∧ n ≤ c ∧ c ≤ maxLen ∧ w'.ownsRow base 5 1 (.slice A n c) n xs ∧ Below base w w'

theorem Owned.of {w w' : World} {base : Nat} {xs : List Value} {v : Value} {n : Nat} (h : w'.ownsRow base 5 1 v n xs) (hb : Below base w w') : Owned w base xs (.returned v) w' := by
  obtain ⟨A, c, rfl, h1, h2⟩ := own_slice h
  exact ⟨A, n, c, rfl, own_len h, h1, h2, h, hb⟩

set_option maxHeartbeats 400000 in
theorem fresh_any (A : Option Addr) (B n c : Nat) (l : List UInt8) (w : World) (hl : l.length = n) (hn : n ≤ 1000000) (h : Lies w B A (bvs l)) :
    Calls Try.prog 24 #[.slice A n c] w (Owned w w.heap.size (bvs l)) := by
  obtain ⟨i0, hi, hz0, hz1, hz2⟩ := info_parts Try.info5
  have HL := Lib.hid hl
  clear hl
  go_enter Try.func24, Try.ntmps24
  go_wp2_with (at_builtin; refine wpList_append_lst rfl _ _ 22 rfl w.heap.size 5 i0 (.int .u8 0) 1 Try.underlying22 hi hz0 hz1 hz2 rfl _ 0 [] rfl (World.ownsRow_nil _ _ _ _) B A n c (bvs l) rfl ?c1 h (bvs_one l) ?c2 ?c3 (Nat.le_refl _) ?_)
  case c1 => rw [bvs_length]; exact HL.out
  case c2 => unfold maxLen; omega
  case c3 => omega
  intro v' w' hown hg hb _
  go_wp2
  go_ret
  exact Owned.of hown hb

end Go.Proofs.Ythpdcoodfjficaa
