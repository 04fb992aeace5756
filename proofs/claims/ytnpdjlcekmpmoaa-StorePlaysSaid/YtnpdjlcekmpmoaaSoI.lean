/- Stage 14: the walks of New and Held. -/
import Derived.Test.YtnpdjlcekmpmoaaSoH
set_option maxRecDepth 20000
namespace Go.Proofs.Ytnpdjlcekmpmoaa
open Go.RowKit Go.Sort Go.Maps

theorem uvs_replicate (k : Nat) : List.replicate k (Value.int .u64 0) = uvs (List.replicate k 0) := by simp [uvs, uv]

theorem toList_madeCells_one' (z : Array Value) {v : Value} (hz : z = #[v]) (n : Nat) : (madeCells z n).toList = List.replicate n v := by
  subst hz
  exact toList_madeCells_one v n

def own3 (g mb fb : Nat) (b : Nat) : Prop := b = g ∨ b = mb ∨ b = fb

set_option maxHeartbeats 400000 in
theorem new_any (n room : Int) (hr : room ≤ 9223372036854775807) (w : World) : Calls Try.prog 9 #[.int .i64 n, .int .i64 room] w fun e w' =>
    ∃ g mb fb, e = .returned (sptr g) ∧ StAt w' w.heap.size g mb fb (Sm.new n room) (own3 g mb fb) ∧ RowKit.Below w.heap.size w w' := by
  obtain ⟨i0, hi0, e0⟩ := Option.map_eq_some_iff.1 Try.infoU
  have e1 := Prod.mk.inj e0
  have e2 := Prod.mk.inj e1.2
  have hM : max 1 (min n 64) = (inN n : Int) := by
    unfold inN
    split
    · omega
    · split <;> omega
  have hR : max 0 room = (room.toNat : Int) := by omega
  have hk := inN_le n
  have hmm := @run_makeMap Try.prog
  have HOK := Lib.hid (Sm.new_ok n room hr)
  have hfl : Hid ((Sm.new n room).fl = List.replicate (inN n) 0) := rfl
  have hnn : Hid ((Sm.new n room).n = inN n) := rfl
  have hrr : Hid ((Sm.new n room).room = room.toNat) := rfl
  have hll : Hid ((Sm.new n room).l = []) := rfl
  generalize Sm.new n room = m at HOK hfl hnn hrr hll ⊢
  generalize inN n = k at hM hk hfl hnn
  generalize room.toNat = rm at hR hrr
  go_enter Try.func9, Try.ntmps9
  go_wp2_with (at_make; refine wpList_make_full (w.alloc (.map #[] 0)) rfl (.tmp 8) (.tmp 8) 27 rfl w.heap.size 31 i0 (.int .u64 0) 1 Try.underlying27 hi0 e1.1 e2.1 .i64 .i64 _ _ k rfl rfl rfl rfl ?a3 ?a4 ?a5 ?_)
  case a3 => rw [e2.2]; omega
  case a4 => unfold maxLen; omega
  case a5 => simp
  intro w1 hown1 hg1
  have hb1 : RowKit.Below w.heap.size w w1 := ((RowKit.Below.refl _ _).alloc (Nat.le_refl _) _).grown hg1 (by simp) (fun q hq => by cases hq)
  rw [toList_madeCells_one' _ rfl, uvs_replicate, ← hfl.out] at hown1
  have hmp : w1.ownsMap Try.prog 33 slR w.heap.size 0 (.map []) := (World.ownsMap_made w Try.prog 33 slR).kept hg1 (by simp)
  have hs1 : w.heap.size + 2 ≤ w1.heap.size := by
    have := (hown1.lt _ rfl).2
    simp at this
    omega
  have HM := Lib.hid hmp
  have HO := Lib.hid hown1
  have HB := Lib.hid hb1
  clear hown1 hmp hb1 hg1 hM
  go_wp2
  go_ret
  refine ⟨w1.heap.size, w.heap.size, w.heap.size + 1, rfl, ?_, HB.out.alloc HB.out.size _⟩
  have ec : stCells w.heap.size (w.heap.size + 1) m = #[.map (some w.heap.size), .slice (some ⟨w.heap.size + 1, 0, none⟩) k k, .int .i64 (rm : Int), .int .i64 0] := by
    unfold stCells
    rw [hnn.out, hrr.out, hll.out]
    rfl
  exact {
    box := by rw [ec]; exact (MapKept.heap_alloc w1 _).1
    row := by rw [hnn.out]; exact HO.out.alloc _
    map := ⟨.map [], by rw [hll.out]; exact HM.out.alloc _, by
      rw [hll.out]
      exact ⟨Maps.tidy_empty, fun _ => rfl, rfl⟩, by
      rw [hll.out]
      intro y hy
      cases hy⟩
    dg := .inl rfl
    dm := .inr (.inl rfl)
    df := .inr (.inr rfl)
    ne := by omega
    din := fun b hb => by
      have : (w1.alloc (.cells #[.map (some w.heap.size), .slice (some ⟨w.heap.size + 1, 0, none⟩) k k, .int .i64 (rm : Int), .int .i64 0] 56)).heap.size = w1.heap.size + 1 := by simp
      rw [this]
      rcases hb with rfl | rfl | rfl <;> omega
    ok := HOK.out }

end Go.Proofs.Ytnpdjlcekmpmoaa
