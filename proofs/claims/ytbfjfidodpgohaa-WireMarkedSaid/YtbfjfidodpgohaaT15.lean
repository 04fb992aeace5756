/- The walk of fourBitSteps: what four bits do to the register, in an array. -/
import Derived.Test.YtbfjfidodpgohaaRows
import Derived.Test.YtbfjfidodpgohaaT14
import Derived.Test.YtbfjfidodpgohaaT01
import Derived.WalkKit
import Derived.Lib.Hide
import Derived.WalkSpells
import Derived.WalkLawsBesides
import Derived.Laws.BitsAllLaws

namespace Go.Proofs.Ytbfjfidodpgohaa
open Go.RowKit

/-- A register as a cell. -/
def rv (r : BitVec 32) : Value := .int .u32 (r.toNat : Int)

theorem rv_eq {r : BitVec 32} {n : Int} (h : n = (r.toNat : Int)) : Value.int .u32 n = rv r := by rw [h]; rfl

theorem and_one (n : Nat) (h : n < 4294967296) : bits .and .u32 (n : Int) 1 = ((n % 2 : Nat) : Int) := by
  rw [u32_and _ _ (by omega) (by omega) (by omega) (by omega)]
  simp [Nat.and_one_is_mod]

theorem xor_poly (n : Nat) (h : n < 4294967296) : bits .xor .u32 (n : Int) 3988292384 = ((n ^^^ 3988292384 : Nat) : Int) := by
  rw [u32_xor _ _ (by omega) (by omega) (by omega) (by omega)]
  simp

theorem down_nat (r : BitVec 32) : (down r).toNat = if r.toNat % 2 = 1 then (r.toNat / 2) ^^^ 3988292384 else r.toNat / 2 := by
  have h := down_bit_nat r false
  rw [show bit false = 0#32 from rfl, BitVec.xor_zero] at h
  rw [h]
  by_cases h1 : r.toNat % 2 = 1 <;> simp [h1]

/-- The table, when k of its sixteen rows are made. -/
def tabA (k : Nat) : Array Value := (Array.range 16).map fun i => if i < k then rv (downs 4 (BitVec.ofNat 32 i)) else .int .u32 0

theorem tabA_set (k : Nat) : (tabA k).setIfInBounds k (rv (downs 4 (BitVec.ofNat 32 k))) = tabA (k + 1) := by
  apply Array.ext
  · simp [tabA]
  · intro i h1 h2
    rw [Array.getElem_setIfInBounds]
    · by_cases he : k = i
      · subst he; simp [tabA]
      · have : i < k + 1 ↔ i < k := by omega
        simp [tabA, he, this]
    · simpa [tabA] using h2

theorem downs_last (n : Nat) (x : BitVec 32) : downs (n + 1) x = down (downs n x) := downs_add n 1 x

def tab16 : Array Value := #[.int .u32 0, .int .u32 498536548, .int .u32 997073096, .int .u32 651767980, .int .u32 1994146192, .int .u32 1802195444, .int .u32 1303535960, .int .u32 1342533948, .int .u32 3988292384, .int .u32 4027552580, .int .u32 3604390888, .int .u32 3412177804, .int .u32 2607071920, .int .u32 2262029012, .int .u32 2685067896, .int .u32 3183342108]

theorem tabA_16 : tabA 16 = tab16 := by kernel_rfl
theorem tabA_0 : tabA 0 = #[.int .u32 0, .int .u32 0, .int .u32 0, .int .u32 0, .int .u32 0, .int .u32 0, .int .u32 0, .int .u32 0, .int .u32 0, .int .u32 0, .int .u32 0, .int .u32 0, .int .u32 0, .int .u32 0, .int .u32 0, .int .u32 0] := by kernel_rfl

theorem tabA_size (k : Nat) : (tabA k).size = 16 := by simp [tabA]

set_option maxHeartbeats 800000 in
theorem steps_any (w : World) :
    Calls Try.prog 55 #[] w fun e w' => e = .returned (.agg tab16) ∧ Below w.heap.size w w' := by
  go_enter Try.func55, Try.ntmps55
  go_wp2
  have H0 := Lib.hid tabA_0
  go_loopw [5] (fun i wr => ∃ k : Nat, k ≤ 16 ∧ i = .int .i64 k ∧ wr = (w.alloc (.cells (tabA 0) 107)).alloc (.cells (tabA k) 107)) (fun i _ => 16 - (intOf i).toNat)
  case atStart => exact ⟨0, by omega, rfl, by rw [H0.out]⟩
  case round =>
    obtain ⟨k, hk, rfl, rfl⟩ := hrel
    have hsz := tabA_size k
    by_cases hlt : k < 16
    · go_wp2
      go_loop [3, 10] (fun r j => ∃ (m : Nat), m ≤ 4 ∧ j = .int .i64 m ∧ r = rv (downs m (BitVec.ofNat 32 k))) (fun _ j => 4 - (intOf j).toNat)
      case atStart =>
        refine ⟨0, by omega, rfl, rv_eq ?_⟩
        simp [downs, BitVec.toNat_ofNat]; omega
      case round =>
        obtain ⟨m, hm, rfl, rfl⟩ := hrel
        generalize hx : downs m (BitVec.ofNat 32 k) = x
        have HX := Lib.hid hx
        clear hx
        unfold rv
        have hlt2 : x.toNat < 4294967296 := x.isLt
        by_cases hm4 : m < 4
        · have ha := and_one x.toNat hlt2
          have hd := down_nat x
          have hds : downs (m + 1) (BitVec.ofNat 32 k) = down x := by rw [downs_last, HX.out]
          have HD := Lib.hid hd
          have HDS := Lib.hid hds
          clear hd hds
          by_cases hodd : x.toNat % 2 = 1
          · rw [hodd] at ha
            have HO := Lib.hid hodd
            clear hodd
            go_wp2
            go_round
            case rel =>
              refine ⟨m + 1, by omega, by go_num, ?_⟩
              rw [HDS.out, HD.out, if_pos HO.out]
              exact congrArg (Value.int IntKind.u32) (xor_poly (x.toNat / 2) (by omega))
            case measure => simp [intOf]; omega
          · have ho : x.toNat % 2 = 0 := by omega
            rw [ho] at ha
            have HO := Lib.hid ho
            clear hodd ho
            go_wp2
            go_round
            case rel =>
              refine ⟨m + 1, by omega, by go_num, ?_⟩
              have := HO.out
              rw [HDS.out, HD.out, if_neg (by omega)]
              rfl
            case measure => simp [intOf]; omega
        · go_wp2
          go_roundw
          case rel =>
            have : m = 4 := by omega
            subst this
            refine ⟨k + 1, by omega, by go_num, ?_⟩
            rw [← tabA_set k, HX.out]
            rfl
          case measure => simp [intOf]; omega
    · have : k = 16 := by omega
      subst this
      clear hsz
      rw [tabA_16, tabA_0]
      unfold tab16
      go_wp2
      exact bodyPost_ret (v := .agg tab16) (by simp [results, Try.results55, go_sem, tab16]) rfl ⟨rfl, ((Below.refl _ _).alloc (Nat.le_refl _) _).alloc (by simp) _⟩

end Go.Proofs.Ytbfjfidodpgohaa
