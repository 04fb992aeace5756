/- Stage 11: Has; New. -/
import Derived.Test.YtjkolneonhfjnaaDoorBsB
set_option maxRecDepth 20000
namespace Go.Proofs.YtjkolneonhfjnaaDoor
open Go.RowKit Go.Sort

theorem bit_is {x k : Nat} (hx : x < 18446744073709551616) : (bits BinOp.and IntKind.u64 ((x : Int) / 2 ^ k) 1 == 1) = x.testBit k := by
  have e : (x : Int) / 2 ^ k = ((x / 2 ^ k : Nat) : Int) := by simp
  have h1 := bits_and_u64_nat (x / 2 ^ k) 1 (Nat.lt_of_le_of_lt (Nat.div_le_self _ _) hx) (by decide)
  rw [e]
  have h1' : bits BinOp.and IntKind.u64 ((x / 2 ^ k : Nat) : Int) 1 = (((x / 2 ^ k) &&& 1 : Nat) : Int) := h1
  rw [h1', Nat.and_one_is_mod, Nat.testBit_eq_decide_div_mod_eq, Bool.eq_iff_iff]
  simp only [beq_iff_eq, decide_eq_true_eq]
  omega

section
variable {w w' : World} {p q : Nat} {m : List Bool} {ws : List Nat}

set_option maxHeartbeats 800000 in
theorem has_yes (h : SetAt w p q m) (i : Nat) (hi : i < m.length) : Calls Tryd.prog 12 #[.pointer (some ⟨p, 0, none⟩), .int .i64 (i : Int)] w fun e w' => e = .returned (.bool (m.getD i false)) ∧ w' = w := by
  have hp := place_yes h i hi
  have h1M : i < 1048576 := by have := h.lt.2.2.2; omega
  obtain ⟨ws, h⟩ := h
  have hk := h.bits.idx hi
  have c0 := h.c0
  have cw := h.word hk
  have hb := h.bits.bit i hi
  have hlt := h.bits.word_lt (i / 64)
  clear h
  generalize ws.getD (i / 64) 0 = x at cw hb hlt
  generalize ws.length = n at hk c0
  have e1 : (i : Int) / 64 = ((i / 64 : Nat) : Int) := by omega
  generalize i / 64 = k at e1 hk cw
  go_enter Tryd.func12, Tryd.ntmps12
  go_wp2_with (go_at_call 20; refine hp.mono ?_; rintro e w' ⟨rfl, rfl⟩)
  go_ret
  refine ⟨?_, rfl⟩
  rw [← hb, ← bit_is hlt]
  rfl
theorem has_any (h : SetAt w p q m) (i : Int) : Calls Tryd.prog 12 #[.pointer (some ⟨p, 0, none⟩), .int .i64 i] w fun e w' => e = .returned (.bool (inS m i)) ∧ w' = w := by
  by_cases hi : 0 ≤ i ∧ i < (m.length : Int)
  · obtain ⟨k, rfl⟩ := Int.eq_ofNat_of_zero_le hi.1
    rw [show inS m ((k : Nat) : Int) = m.getD k false from inS_nat m k]
    exact has_yes h k (by omega)
  · have ho : i < 0 ∨ (m.length : Int) ≤ i := by omega
    rw [inS_out ho]
    have h2 := place_no h i ho
    clear h hi ho
    go_enter Tryd.func12, Tryd.ntmps12
    go_wp2_with (go_at_call 20; refine h2.mono ?_; rintro e w' ⟨rfl, rfl⟩)
    go_ret
    exact ⟨rfl, rfl⟩
end

/-! ### New -/
theorem Tryd.infoU : (Tryd.prog.info? 43).map (fun i => (i.zero, i.size, i.bytes)) = some (some (.int .u64 0), 1, 8) := by kernel_rfl

theorem SetW.new {w w1 : World} {n q : Nat} (hn : n ≤ 1048576) (ho : w1.ownsRow w.heap.size 43 1 (.slice (some ⟨q, 0, none⟩) ((n + 63) / 64) ((n + 63) / 64)) ((n + 63) / 64) (List.replicate ((n + 63) / 64) (.int .u64 0))) (hq : q < w1.heap.size) :
    SetW (w1.alloc (.cells #[.slice (some ⟨q, 0, none⟩) ((n + 63) / 64) ((n + 63) / 64), .int .i64 (n : Int), .int .i64 0] 42)) w1.heap.size q (List.replicate n false) (List.replicate ((n + 63) / 64) 0) :=
  { row := by
      have := heap_alloc_new w1 (.cells #[.slice (some ⟨q, 0, none⟩) ((n + 63) / 64) ((n + 63) / 64), .int .i64 (n : Int), .int .i64 0] 42 (0, 0))
      have e : cntS (List.replicate n false) = 0 := by unfold cntS; rw [List.count_replicate]; rfl
      rw [e]
      simpa using this
    own := by
      have h := own_base (base' := 0) (own_below ho ((RowKit.Below.refl _ _).alloc (Nat.le_refl _) (.cells #[.slice (some ⟨q, 0, none⟩) ((n + 63) / 64) ((n + 63) / 64), .int .i64 (n : Int), .int .i64 0] 42))) (Nat.zero_le _)
      simpa [uvs, uv] using h
    bits := BitsW.new n
    fit := by simpa using hn
    ne := by omega
    lt2 := by simp; omega }

theorem toList_madeCells_one' (z : Array Value) {v : Value} (hz : z = #[v]) (n : Nat) : (madeCells z n).toList = List.replicate n v := by
  subst hz
  exact toList_madeCells_one v n

set_option maxHeartbeats 800000 in
theorem new_any (z : Int) (n : Nat) (hz : z.toNat = n) (w : World) (hn : n ≤ 2000) : Calls Tryd.prog 8 #[.int .i64 z] w fun e w' =>
    ∃ p q, e = .returned (.pointer (some ⟨p, 0, none⟩)) ∧ SetAt w' p q (List.replicate n false) ∧ w.heap.size ≤ p ∧ w.heap.size ≤ q ∧ RowKit.Below w.heap.size w w' := by
  obtain ⟨i0, hi0, e0⟩ := Option.map_eq_some_iff.1 Tryd.infoU
  have e1 := Prod.mk.inj e0
  have e2 := Prod.mk.inj e1.2
  have hM : max 0 (min z 1048576) = (n : Int) := by omega
  have hD : ((n : Int) + 64 - 1) / 64 = (((n + 63) / 64 : Nat) : Int) := by omega
  have hk : (n + 63) / 64 ≤ 100 := by omega
  go_enter Tryd.func8, Tryd.ntmps8
  go_wp2_with (at_make; refine wpList_make_full w rfl (.tmp 10) (.tmp 10) 40 rfl w.heap.size 43 i0 (.int .u64 0) 1 Tryd.underlying40 hi0 e1.1 e2.1 .i64 .i64 _ _ ((n + 63) / 64) rfl rfl hD hD ?a3 ?a4 (Nat.le_refl _) ?_)
  case a3 => rw [e2.2]; omega
  case a4 => unfold maxLen; omega
  intro w1 hown1 hg1
  have hb1 : RowKit.Below w.heap.size w w1 := (RowKit.Below.refl _ _).grown hg1 (Nat.le_refl _) (fun q hq => by cases hq)
  rw [toList_madeCells_one' _ rfl] at hown1
  have hq := (hown1.lt w.heap.size rfl).2
  have HS := Lib.hid (SetW.new (n := n) (by omega) hown1 hq)
  have HB := Lib.hid hb1
  clear hown1 hb1 hg1 hM hD
  go_wp2
  go_ret
  exact ⟨_, _, rfl, ⟨_, HS.out⟩, HB.out.size, Nat.le_refl _, HB.out.alloc HB.out.size _⟩

end Go.Proofs.YtjkolneonhfjnaaDoor
