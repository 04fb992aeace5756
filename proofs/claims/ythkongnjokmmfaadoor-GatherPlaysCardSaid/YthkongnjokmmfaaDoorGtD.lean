/- Stage 13: a set in memory (picked out of the texts of stage 11). -/
import Derived.Test.YthkongnjokmmfaaDoorGtC
import Derived.Laws.Bits64b
namespace Go.Proofs.YthkongnjokmmfaaDoor
open Go.RowKit Go.Sort Go.ChangeShapes Go.WideShapes Go.ChangeAt

/-- Is the place in it? -/
def inS (m : List Bool) (i : Int) : Bool := decide (0 ≤ i) && m.getD i.toNat false

/-- A place is put in. -/
def addS (m : List Bool) (i : Int) : List Bool := if 0 ≤ i then m.set i.toNat true else m

/-- Places are put in. -/
def putS (m : List Bool) (l : List Int) : List Bool := l.foldl addS m

/-- How many are in it. -/
def cntS (m : List Bool) : Nat := m.count true

theorem inS_nat (m : List Bool) (i : Nat) : inS m (i : Int) = m.getD i false := by simp [inS]

theorem inS_out {m : List Bool} {i : Int} (h : i < 0 ∨ (m.length : Int) ≤ i) : inS m i = false := by
  unfold inS
  rcases h with h | h
  · simp; omega
  · have : m.length ≤ i.toNat := by omega
    simp [List.getD, List.getElem?_eq_none this]

theorem addS_nat (m : List Bool) (i : Nat) : addS m (i : Int) = m.set i true := by simp [addS]

theorem addS_out {m : List Bool} {i : Int} (h : i < 0 ∨ (m.length : Int) ≤ i) : addS m i = m := by
  unfold addS
  split
  · have : m.length ≤ i.toNat := by omega
    exact List.set_eq_of_length_le this
  · rfl

theorem set_old {m : List Bool} {i : Nat} (h : m.getD i false = true) : m.set i true = m := by
  have hi : i < m.length := by
    apply Nat.lt_of_not_le
    intro hn
    simp [List.getD, List.getElem?_eq_none hn] at h
  have e : m[i] = true := by simpa [List.getD, hi] using h
  have := List.set_getElem_self hi
  rwa [e] at this

theorem putS_snoc (m : List Bool) (l : List Int) (x : Int) : putS m (l ++ [x]) = addS (putS m l) x := by
  unfold putS
  rw [List.foldl_append]
  rfl

theorem putS_next (m : List Bool) (l : List Int) (k : Nat) (h : k < l.length) : putS m (l.take (k + 1)) = addS (putS m (l.take k)) l[k] := by
  rw [List.take_succ_eq_append_getElem h, putS_snoc]

theorem cnt_new {m : List Bool} {i : Nat} (hi : i < m.length) (h : m.getD i false = false) : cntS (m.set i true) = cntS m + 1 := by
  have e : m[i] = false := by simpa [List.getD, hi] using h
  unfold cntS
  rw [List.count_set (h := hi)]
  simp [e]

theorem cnt_le (m : List Bool) : cntS m ≤ m.length := List.count_le_length

theorem cnt_add (m : List Bool) (x : Int) : cntS m ≤ cntS (addS m x) ∧ cntS (addS m x) ≤ cntS m + 1 := by
  rcases Int.lt_or_le x 0 with h | h
  · rw [addS_out (.inl h)]; omega
  · obtain ⟨i, rfl⟩ := Int.eq_ofNat_of_zero_le h
    rcases Nat.lt_or_ge i m.length with h1 | h1
    · show cntS m ≤ cntS (addS m (i : Int)) ∧ cntS (addS m (i : Int)) ≤ _
      rw [addS_nat]
      cases hb : m.getD i false
      · rw [cnt_new h1 hb]; omega
      · rw [set_old hb]; omega
    · rw [addS_out (.inr (by omega))]; omega

theorem cnt_put (m : List Bool) (l : List Int) : cntS m ≤ cntS (putS m l) ∧ cntS (putS m l) ≤ cntS m + l.length := by
  induction l generalizing m with
  | nil => simp [putS]
  | cons x t ih =>
    have h1 := ih (addS m x)
    have h2 := cnt_add m x
    have e : putS m (x :: t) = putS (addS m x) t := rfl
    rw [e, List.length_cons]
    omega

structure BitsW (m : List Bool) (ws : List Nat) : Prop where
  len : ws.length = (m.length + 63) / 64
  lt : ∀ x ∈ ws, x < 18446744073709551616
  bit : ∀ i, i < m.length → (ws.getD (i / 64) 0).testBit (i % 64) = m.getD i false

theorem pow64 : (2 : Nat) ^ 64 = 18446744073709551616 := by decide

theorem BitsW.new (n : Nat) : BitsW (List.replicate n false) (List.replicate ((n + 63) / 64) 0) := by
  refine ⟨by simp, fun x hx => ?_, fun i hi => ?_⟩
  · rw [List.eq_of_mem_replicate hx]; decide
  · rw [List.length_replicate] at hi
    have h1 : i / 64 < (n + 63) / 64 := by omega
    simp [List.getD, h1, hi]

theorem BitsW.word_lt {m : List Bool} {ws : List Nat} (h : BitsW m ws) (k : Nat) : ws.getD k 0 < 18446744073709551616 := by
  rcases Nat.lt_or_ge k ws.length with hk | hk
  · have : ws.getD k 0 = ws[k] := by simp [List.getD, hk]
    rw [this]
    exact h.lt _ (List.getElem_mem hk)
  · simp [List.getD, List.getElem?_eq_none hk]

theorem BitsW.idx {m : List Bool} {ws : List Nat} (h : BitsW m ws) {i : Nat} (hi : i < m.length) : i / 64 < ws.length := by rw [h.len]; omega

theorem BitsW.set {m : List Bool} {ws : List Nat} (h : BitsW m ws) {i : Nat} (hi : i < m.length) : BitsW (m.set i true) (ws.set (i / 64) (ws.getD (i / 64) 0 ||| 2 ^ (i % 64))) := by
  have hk := h.idx hi
  have h64 : (2 : Nat) ^ (i % 64) < 2 ^ 64 := Nat.pow_lt_pow_right (by decide) (Nat.mod_lt _ (by decide))
  refine ⟨by simpa using h.len, fun x hx => ?_, fun j hj => ?_⟩
  · rcases List.mem_or_eq_of_mem_set hx with h1 | rfl
    · exact h.lt x h1
    · have := h.word_lt (i / 64)
      rw [← pow64] at this ⊢
      exact Nat.or_lt_two_pow this h64
  · rw [List.length_set] at hj
    have hb := h.bit j hj
    by_cases hw : i / 64 = j / 64
    · have e : (ws.set (i / 64) (ws.getD (i / 64) 0 ||| 2 ^ (i % 64))).getD (j / 64) 0 = ws.getD (i / 64) 0 ||| 2 ^ (i % 64) := by
        rw [← hw]; simp [List.getD, hk]
      rw [e, Nat.testBit_or, Nat.testBit_two_pow, hw, hb]
      by_cases hij : i = j
      · subst hij
        simp [List.getD, hi]
      · have h1 : ¬ i % 64 = j % 64 := by omega
        simp [List.getD, hij, h1]
    · have e : (ws.set (i / 64) (ws.getD (i / 64) 0 ||| 2 ^ (i % 64))).getD (j / 64) 0 = ws.getD (j / 64) 0 := by
        simp [List.getD, hw]
      have hij : i ≠ j := by rintro rfl; exact hw rfl
      rw [e, hb]
      simp [List.getD, hij]

/-- A set in memory: its box p, its words (block q). -/
structure SetW (w : World) (p q : Nat) (m : List Bool) (ws : List Nat) : Prop where
  row : w.heap[p]? = some (.cells #[.slice (some ⟨q, 0, none⟩) ws.length ws.length, .int .i64 (m.length : Int), .int .i64 (cntS m : Int)] 95 (0, 0))
  own : w.ownsRow 0 23 1 (.slice (some ⟨q, 0, none⟩) ws.length ws.length) ws.length (uvs ws)
  bits : BitsW m ws
  fit : m.length ≤ 1048576
  ne : p ≠ q
  lt2 : q < w.heap.size

def SetAt (w : World) (p q : Nat) (m : List Bool) : Prop := ∃ ws, SetW w p q m ws

/-- The blocks of a set. -/
def DS (p q : Nat) : Nat → Prop := fun k => k = p ∨ k = q

section
variable {w w' : World} {p q : Nat} {m : List Bool} {ws : List Nat}

theorem SetW.lt (h : SetW w p q m ws) : p < w.heap.size := (Array.getElem?_eq_some_iff.1 h.row).1

theorem SetW.c0 (h : SetW w p q m ws) : w.cell? ⟨p, 0, none⟩ = some (.slice (some ⟨q, 0, none⟩) ws.length ws.length) := cell_of_row w p 0 _ _ _ h.row

theorem SetW.c1 (h : SetW w p q m ws) : w.cell? ⟨p, 1, none⟩ = some (.int .i64 (m.length : Int)) := cell_of_row w p 1 _ _ _ h.row

theorem SetW.c2 (h : SetW w p q m ws) : w.cell? ⟨p, 2, none⟩ = some (.int .i64 (cntS m : Int)) := cell_of_row w p 2 _ _ _ h.row

theorem SetW.fr (h : SetW w p q m ws) (j : Nat) : w.frozen? ⟨p, j, none⟩ = false := frozen_of_row w p j _ _ h.row

theorem SetW.word (h : SetW w p q m ws) {k : Nat} (hk : k < ws.length) : w.cell? ⟨q, k, none⟩ = some (.int .u64 (ws.getD k 0 : Int)) := by
  have := h.own.cells (g := q) rfl k (.int .u64 (ws.getD k 0 : Int)) (by simp [uvs, uv, List.getD, hk])
  rwa [add_plain, Nat.zero_add] at this

theorem SetW.kept {D : Nat → Prop} (h : SetW w p q m ws) (ho : OnlyE w w' D) (hp : ¬ D p) (hq : ¬ D q) : SetW w' p q m ws :=
  { row := (ho.same p h.lt hp).trans h.row
    own := own_only h.own ho fun b hb => by injection hb with hb; subst hb; exact hq
    bits := h.bits, fit := h.fit, ne := h.ne, lt2 := Nat.lt_of_lt_of_le h.lt2 ho.size }

theorem SetAt.kept {D : Nat → Prop} (h : SetAt w p q m) (ho : OnlyE w w' D) (hp : ¬ D p) (hq : ¬ D q) : SetAt w' p q m := by
  obtain ⟨ws, h⟩ := h
  exact ⟨ws, h.kept ho hp hq⟩

theorem SetAt.on (h : SetAt w p q m) (hb : RowKit.Below w.heap.size w w') : SetAt w' p q m := h.kept (D := fun _ => False) (OnlyE.of_below hb) id id

theorem SetAt.lt (h : SetAt w p q m) : p < w.heap.size ∧ q < w.heap.size ∧ p ≠ q ∧ m.length ≤ 1048576 := by
  obtain ⟨ws, h⟩ := h
  exact ⟨h.lt, h.lt2, h.ne, h.fit⟩

theorem size_any (h : SetAt w p q m) : Calls Tryd.prog 55 #[.pointer (some ⟨p, 0, none⟩)] w fun e w' => e = .returned (.int .i64 (m.length : Int)) ∧ w' = w := by
  obtain ⟨ws, h⟩ := h
  have c1 := h.c1
  clear h
  go_enter Tryd.func55, Tryd.ntmps55
  go_wp2
  go_ret
  exact ⟨rfl, rfl⟩

theorem setCount_any (h : SetAt w p q m) : Calls Tryd.prog 54 #[.pointer (some ⟨p, 0, none⟩)] w fun e w' => e = .returned (.int .i64 (cntS m : Int)) ∧ w' = w := by
  obtain ⟨ws, h⟩ := h
  have c2 := h.c2
  clear h
  go_enter Tryd.func54, Tryd.ntmps54
  go_wp2
  go_ret
  exact ⟨rfl, rfl⟩

theorem full_any (h : SetAt w p q m) : Calls Tryd.prog 44 #[.pointer (some ⟨p, 0, none⟩)] w fun e w' => e = .returned (.bool ((cntS m : Int) == (m.length : Int))) ∧ w' = w := by
  have h1 := setCount_any h
  have h2 := size_any h
  clear h
  go_enter Tryd.func44, Tryd.ntmps44
  go_wp2_with (first
    | (go_at_call 54; refine h1.mono ?_; rintro e w' ⟨rfl, rfl⟩)
    | (go_at_call 55; refine h2.mono ?_; rintro e w' ⟨rfl, rfl⟩))
  go_ret
  exact ⟨rfl, rfl⟩

theorem place_yes (h : SetAt w p q m) (i : Nat) (hi : i < m.length) : Calls Tryd.prog 49 #[.pointer (some ⟨p, 0, none⟩), .int .i64 (i : Int)] w fun e w' => e = .returned (.bool true) ∧ w' = w := by
  have h2 := size_any h
  clear h
  go_enter Tryd.func49, Tryd.ntmps49
  go_wp2_with (go_at_call 55; refine h2.mono ?_; rintro e w' ⟨rfl, rfl⟩)
  go_ret
  exact ⟨rfl, rfl⟩

theorem place_no (h : SetAt w p q m) (i : Int) (hi : i < 0 ∨ (m.length : Int) ≤ i) : Calls Tryd.prog 49 #[.pointer (some ⟨p, 0, none⟩), .int .i64 i] w fun e w' => e = .returned (.bool false) ∧ w' = w := by
  have h2 := size_any h
  clear h
  rcases Int.lt_or_le i 0 with h0 | h0
  · clear hi
    go_enter Tryd.func49, Tryd.ntmps49
    go_wp2_with fail
    go_ret
    exact ⟨rfl, rfl⟩
  · have h1 : decide (i < (m.length : Int)) = false := by simp; omega
    clear hi
    go_enter Tryd.func49, Tryd.ntmps49
    go_wp2_with (go_at_call 55; refine h2.mono ?_; rintro e w' ⟨rfl, rfl⟩)
    go_ret
    exact ⟨rfl, rfl⟩

end

theorem bit_is {x k : Nat} (hx : x < 18446744073709551616) : (bits BinOp.and IntKind.u64 ((x : Int) / 2 ^ k) 1 == 1) = x.testBit k := by
  have e : (x : Int) / 2 ^ k = ((x / 2 ^ k : Nat) : Int) := by simp
  have h1 := bits_and_u64_nat (x / 2 ^ k) 1 (Nat.lt_of_le_of_lt (Nat.div_le_self _ _) hx) (by decide)
  rw [e]
  have h1' : bits BinOp.and IntKind.u64 ((x / 2 ^ k : Nat) : Int) 1 = (((x / 2 ^ k) &&& 1 : Nat) : Int) := h1
  rw [h1', Nat.and_one_is_mod, Nat.testBit_eq_decide_div_mod_eq, Bool.eq_iff_iff]
  simp only [beq_iff_eq, decide_eq_true_eq]
  omega

section
variable {w w' : World} {p q : Nat} {m : List Bool} {ws : List Nat}

set_option maxHeartbeats 800000 in
theorem has_yes (h : SetAt w p q m) (i : Nat) (hi : i < m.length) : Calls Tryd.prog 40 #[.pointer (some ⟨p, 0, none⟩), .int .i64 (i : Int)] w fun e w' => e = .returned (.bool (m.getD i false)) ∧ w' = w := by
  have hp := place_yes h i hi
  have h1M : i < 1048576 := by have := h.lt.2.2.2; omega
  obtain ⟨ws, h⟩ := h
  have hk := h.bits.idx hi
  have c0 := h.c0
  have cw := h.word hk
  have hb := h.bits.bit i hi
  have hlt := h.bits.word_lt (i / 64)
  clear h
  generalize ws.getD (i / 64) 0 = x at cw hb hlt
  generalize ws.length = n at hk c0
  have e1 : (i : Int) / 64 = ((i / 64 : Nat) : Int) := by omega
  generalize i / 64 = k at e1 hk cw
  go_enter Tryd.func40, Tryd.ntmps40
  go_wp2_with (go_at_call 49; refine hp.mono ?_; rintro e w' ⟨rfl, rfl⟩)
  go_ret
  refine ⟨?_, rfl⟩
  rw [← hb, ← bit_is hlt]
  rfl

theorem has_any (h : SetAt w p q m) (i : Int) : Calls Tryd.prog 40 #[.pointer (some ⟨p, 0, none⟩), .int .i64 i] w fun e w' => e = .returned (.bool (inS m i)) ∧ w' = w := by
  by_cases hi : 0 ≤ i ∧ i < (m.length : Int)
  · obtain ⟨k, rfl⟩ := Int.eq_ofNat_of_zero_le hi.1
    rw [show inS m ((k : Nat) : Int) = m.getD k false from inS_nat m k]
    exact has_yes h k (by omega)
  · have ho : i < 0 ∨ (m.length : Int) ≤ i := by omega
    rw [inS_out ho]
    have h2 := place_no h i ho
    clear h hi ho
    go_enter Tryd.func40, Tryd.ntmps40
    go_wp2_with (go_at_call 49; refine h2.mono ?_; rintro e w' ⟨rfl, rfl⟩)
    go_ret
    exact ⟨rfl, rfl⟩

end

theorem Tryd.infoU : (Tryd.prog.info? 23).map (fun i => (i.zero, i.size, i.bytes)) = some (some (.int .u64 0), 1, 8) := by kernel_rfl

theorem SetW.new {w w1 : World} {n q : Nat} (hn : n ≤ 1048576) (ho : w1.ownsRow w.heap.size 23 1 (.slice (some ⟨q, 0, none⟩) ((n + 63) / 64) ((n + 63) / 64)) ((n + 63) / 64) (List.replicate ((n + 63) / 64) (.int .u64 0))) (hq : q < w1.heap.size) :
    SetW (w1.alloc (.cells #[.slice (some ⟨q, 0, none⟩) ((n + 63) / 64) ((n + 63) / 64), .int .i64 (n : Int), .int .i64 0] 95)) w1.heap.size q (List.replicate n false) (List.replicate ((n + 63) / 64) 0) :=
  { row := by
      have := heap_alloc_new w1 (.cells #[.slice (some ⟨q, 0, none⟩) ((n + 63) / 64) ((n + 63) / 64), .int .i64 (n : Int), .int .i64 0] 95 (0, 0))
      have e : cntS (List.replicate n false) = 0 := by unfold cntS; rw [List.count_replicate]; rfl
      rw [e]
      simpa using this
    own := by
      have h := own_base (base' := 0) (own_below ho ((RowKit.Below.refl _ _).alloc (Nat.le_refl _) (.cells #[.slice (some ⟨q, 0, none⟩) ((n + 63) / 64) ((n + 63) / 64), .int .i64 (n : Int), .int .i64 0] 95))) (Nat.zero_le _)
      simpa [uvs, uv] using h
    bits := BitsW.new n
    fit := by simpa using hn
    ne := by omega
    lt2 := by simp; omega }

theorem toList_madeCells_one' (z : Array Value) {v : Value} (hz : z = #[v]) (n : Nat) : (madeCells z n).toList = List.replicate n v := by
  subst hz
  exact toList_madeCells_one v n

set_option maxHeartbeats 800000 in
theorem new_any (z : Int) (n : Nat) (hz : z.toNat = n) (w : World) (hn : n ≤ 1048576) : Calls Tryd.prog 53 #[.int .i64 z] w fun e w' =>
    ∃ p q, e = .returned (.pointer (some ⟨p, 0, none⟩)) ∧ SetAt w' p q (List.replicate n false) ∧ w.heap.size ≤ p ∧ w.heap.size ≤ q ∧ RowKit.Below w.heap.size w w' := by
  obtain ⟨i0, hi0, e0⟩ := Option.map_eq_some_iff.1 Tryd.infoU
  have e1 := Prod.mk.inj e0
  have e2 := Prod.mk.inj e1.2
  have hM : max 0 (min z 1048576) = (n : Int) := by omega
  have hD : ((n : Int) + 64 - 1) / 64 = (((n + 63) / 64 : Nat) : Int) := by omega
  have hk : (n + 63) / 64 ≤ 20000 := by omega
  go_enter Tryd.func53, Tryd.ntmps53
  go_wp2_with (at_make; refine wpList_make_full w rfl (.tmp 10) (.tmp 10) 38 rfl w.heap.size 23 i0 (.int .u64 0) 1 Tryd.underlying38 hi0 e1.1 e2.1 .i64 .i64 _ _ ((n + 63) / 64) rfl rfl hD hD ?a3 ?a4 (Nat.le_refl _) ?_)
  case a3 => rw [e2.2]; omega
  case a4 => unfold maxLen; omega
  intro w1 hown1 hg1
  have hb1 : RowKit.Below w.heap.size w w1 := (RowKit.Below.refl _ _).grown hg1 (Nat.le_refl _) (fun q hq => by cases hq)
  rw [toList_madeCells_one' _ rfl] at hown1
  have hq := (hown1.lt w.heap.size rfl).2
  have HS := Lib.hid (SetW.new (n := n) (by omega) hown1 hq)
  have HB := Lib.hid hb1
  clear hown1 hb1 hg1 hM hD
  go_wp2
  go_ret
  exact ⟨_, _, rfl, ⟨_, HS.out⟩, HB.out.size, Nat.le_refl _, HB.out.alloc HB.out.size _⟩

def zvs (l : List Int) : List Value := l.map (Value.int .i64)

theorem zvs_at {l : List Int} {k : Nat} (h : k < l.length) : (zvs l)[k]? = some (.int .i64 l[k]) := by simp [zvs, h]

theorem shl_val {k : Nat} (hk : k < 64) : IntKind.u64.wrap (2 ^ k) = ((2 ^ k : Nat) : Int) := by
  have h : (2 : Nat) ^ k < 2 ^ 64 := Nat.pow_lt_pow_right (by decide) hk
  rw [pow64] at h
  have e : (2 ^ k : Int) = ((2 ^ k : Nat) : Int) := by simp
  rw [e, IntKind.wrap_u64]
  generalize (2 : Nat) ^ k = b at h
  omega

section
variable {w w' : World} {p q : Nat} {m : List Bool} {ws : List Nat}

theorem SetW.put (h : SetW w p q m ws) {i : Nat} (hi : i < m.length) (hb : m.getD i false = false) :
    SetW ((w.setCell ⟨q, i / 64, none⟩ (.int .u64 ((ws.getD (i / 64) 0 ||| 2 ^ (i % 64) : Nat) : Int))).setCell ⟨p, 2, none⟩ (.int .i64 ((cntS m : Int) + 1))) p q (m.set i true) (ws.set (i / 64) (ws.getD (i / 64) 0 ||| 2 ^ (i % 64))) := by
  have hk := h.bits.idx hi
  have h1 := h.own.stored (i / 64) (.int .u64 ((ws.getD (i / 64) 0 ||| 2 ^ (i % 64) : Nat) : Int))
  have hrow : (w.setCell ⟨q, i / 64, none⟩ (.int .u64 ((ws.getD (i / 64) 0 ||| 2 ^ (i % 64) : Nat) : Int))).heap[p]? = w.heap[p]? := h1.2.block p h.lt (by intro e; injection e with e; exact h.ne e)
  have h2 : ((w.setCell ⟨q, i / 64, none⟩ (.int .u64 ((ws.getD (i / 64) 0 ||| 2 ^ (i % 64) : Nat) : Int))).setCell ⟨p, 2, none⟩ (.int .i64 ((cntS m : Int) + 1))).heap[p]? = some (.cells #[.slice (some ⟨q, 0, none⟩) ws.length ws.length, .int .i64 (m.length : Int), .int .i64 ((cntS m : Int) + 1)] 95 (0, 0)) := heap_setCell_same _ p 2 _ _ _ (hrow.trans h.row)
  have e : (uvs ws).set (i / 64) (.int .u64 ((ws.getD (i / 64) 0 ||| 2 ^ (i % 64) : Nat) : Int)) = uvs (ws.set (i / 64) (ws.getD (i / 64) 0 ||| 2 ^ (i % 64))) := by simp [uvs, uv, List.map_set]
  rw [e] at h1
  exact
  { row := by
      refine h2.trans ?_
      rw [cnt_new hi hb, List.length_set, List.length_set]
      rfl
    own := by
      have := own_only h1.1 (onlyE_set (D := fun k => k = p) rfl 2 (.int .i64 ((cntS m : Int) + 1))) (fun b hb hp => by injection hb with hb; subst hb; exact h.ne hp.symm)
      rwa [List.length_set]
    bits := h.bits.set hi
    fit := by rw [List.length_set]; exact h.fit
    ne := h.ne
    lt2 := by simpa [World.setCell] using h.lt2 }

theorem putOnly (w : World) (p q i x : Nat) (y : Int) : OnlyE w ((w.setCell ⟨q, i, none⟩ (.int .u64 (x : Int))).drew.setCell ⟨p, 2, none⟩ (.int .i64 y)) (DS p q) :=
  (onlyE_set (D := DS p q) (.inr rfl) i _).trans ((onlyE_drew _ _).trans (onlyE_set (D := DS p q) (.inl rfl) 2 _))

theorem SetW.drewn {w : World} {v u : Value} {a b : Addr} (h : SetW ((w.setCell a v).setCell b u) p q m ws) : SetW ((w.setCell a v).drew.setCell b u) p q m ws :=
  ⟨h.row, h.own, h.bits, h.fit, h.ne, h.lt2⟩

set_option maxHeartbeats 1600000 in
theorem put_any (h : SetAt w p q m) (A : Option Addr) (n c : Nat) (l : List Int) (hl : l.length = n) (hn : n ≤ 1000) (hA : LiesX w (DS p q) A (zvs l)) :
    Calls Tryd.prog 43 #[.pointer (some ⟨p, 0, none⟩), .slice A n c] w fun e w' => e = .returned (.int .i64 ((cntS (putS m l) - cntS m : Nat) : Int)) ∧ SetAt w' p q (putS m l) ∧ OnlyE w w' (DS p q) := by
  have H := Lib.hid h
  have HA := Lib.hid hA
  have HL := Lib.hid hl
  clear h hA
  go_enter Tryd.func43, Tryd.ntmps43
  go_wp2_with fail
  go_loopw [5, 10] (fun s5 s10 wr => ∃ k : Nat, k ≤ n ∧ s10 = .int .i64 (k : Int) ∧ s5 = .int .i64 ((cntS (putS m (l.take k)) - cntS m : Nat) : Int) ∧ SetAt wr p q (putS m (l.take k)) ∧ OnlyE w wr (DS p q)) (fun _ s10 _ => n - (Lib.intOf s10).toNat)
  case atStart => exact ⟨0, Nat.zero_le _, rfl, by simp [putS], H.out, OnlyE.refl _ _⟩
  case round =>
    obtain ⟨k, hk, rfl, rfl, hS, hO⟩ := hrel
    have HS := Lib.hid hS
    have HO := Lib.hid hO
    clear hS hO
    by_cases hkn : k < n
    · have hkl : k < l.length := by have := HL.out; omega
      obtain ⟨b, off, eA, hlt, hc⟩ := (HA.out.kept HO.out).lies.at_ (zvs_at hkl)
      subst eA
      have HN := Lib.hid (putS_next m l k hkl)
      generalize hx : l[k] = x at hc HN
      clear hlt hx
      have hcb : cntS (putS m (l.take k)) - cntS m ≤ 1000 := by
        have := (cnt_put m (l.take k)).2
        have h2 : (l.take k).length ≤ k := by rw [List.length_take]; omega
        omega
      have HNext : cntS (addS (putS m (l.take k)) x) - cntS m = (cntS (putS m (l.take k)) - cntS m) + (cntS (addS (putS m (l.take k)) x) - cntS (putS m (l.take k))) := by
        have h1 := (cnt_put m (l.take k)).1
        have h2 := (cnt_add (putS m (l.take k)) x).1
        omega
      have HN2 := Lib.hid HNext
      clear HNext
      generalize hC : cntS (putS m (l.take k)) - cntS m = C at hcb HN2
      clear hC
      generalize hM : putS m (l.take k) = M at HS HN HN2
      clear hM
      have hlt0 := HS.out.lt
      have hlen := hlt0.2.2.2
      by_cases hi : 0 ≤ x ∧ x < (M.length : Int)
      · obtain ⟨i, rfl⟩ := Int.eq_ofNat_of_zero_le hi.1
        have hiM : i < M.length := by omega
        clear hi
        have hp := place_yes HS.out i hiM
        have hh := has_yes HS.out i hiM
        cases hv : M.getD i false
        · rw [hv] at hh
          have HE := Lib.hid (show cntS (addS M (i : Int)) - cntS M = 1 by rw [addS_nat, cnt_new hiM hv]; omega)
          obtain ⟨ws, hS⟩ := HS.out
          have hkw := hS.bits.idx hiM
          have c0 := hS.c0
          have c2 := hS.c2
          have cw := hS.word hkw
          have f2 := hS.fr 2
          have fw : wr.frozen? ⟨q, i / 64, none⟩ = false := by have := hS.own.frozenAt (g := q) (i / 64); exact this
          have HP := Lib.hid (hS.put hiM hv).drewn
          have cp : (wr.setCell ⟨q, i / 64, none⟩ (.int .u64 ((ws.getD (i / 64) 0 ||| 2 ^ (i % 64) : Nat) : Int))).cell? ⟨p, 2, none⟩ = some (.int .i64 (cntS M : Int)) :=
            (World.cell?_of_block ((onlyE_set (D := fun k => k = q) rfl (i / 64) _).same p hS.lt hS.ne)).trans c2
          have fp : (wr.setCell ⟨q, i / 64, none⟩ (.int .u64 ((ws.getD (i / 64) 0 ||| 2 ^ (i % 64) : Nat) : Int))).frozen? ⟨p, 2, none⟩ = false :=
            frozen_of_row _ p 2 _ _ (((onlyE_set (D := fun k => k = q) rfl (i / 64) _).same p hS.lt hS.ne).trans hS.row)
          have hxlt := hS.bits.word_lt (i / 64)
          have hcM : cntS M ≤ 1048576 := Nat.le_trans (cnt_le M) hlen
          have e1 : (i : Int) / 64 = ((i / 64 : Nat) : Int) := by omega
          have e2 : IntKind.u64.wrap (2 ^ (i % 64)) = ((2 ^ (i % 64) : Nat) : Int) := shl_val (Nat.mod_lt _ (by decide))
          have e3 : bits BinOp.or .u64 (ws.getD (i / 64) 0 : Int) ((2 ^ (i % 64) : Nat) : Int) = ((ws.getD (i / 64) 0 ||| 2 ^ (i % 64) : Nat) : Int) :=
            bits_or_u64_nat _ _ hxlt (by rw [← pow64]; exact Nat.pow_lt_pow_right (by decide) (Nat.mod_lt _ (by decide)))
          have HO2 := Lib.hid (putOnly wr p q (i / 64) (ws.getD (i / 64) 0 ||| 2 ^ (i % 64)) ((cntS M : Int) + 1))
          have hiB : i < 1048576 := by omega
          clear hv hiM hlt0 hlen hxlt
          clear HS hS
          generalize ws.getD (i / 64) 0 ||| 2 ^ (i % 64) = y at HP HO2 e3 cp fp
          generalize ws.getD (i / 64) 0 = xw at cw e3
          generalize ws.set (i / 64) y = ws2 at HP
          generalize ws.length = nw at c0 hkw
          generalize (2 : Nat) ^ (i % 64) = zz at e2 e3
          generalize i / 64 = kk at e1 hkw cw fw HP HO2 cp fp
          go_wp2_with (first
            | (go_at_call 49; refine hp.mono ?_; rintro e w' ⟨rfl, rfl⟩)
            | (go_at_call 40; refine hh.mono ?_; rintro e w' ⟨rfl, rfl⟩))
          all_goals go_region
          all_goals go_wp2
          all_goals
            refine ⟨⟨k + 1, by omega, rfl, ?_, ?_, HO.out.trans HO2.out⟩, ?_⟩
            · rw [HN.out, HN2.out, HE.out]; simp
            · rw [HN.out, addS_nat]; exact ⟨_, HP.out⟩
            · simp [Lib.intOf]; omega
        · rw [hv] at hh
          have HE := Lib.hid (show addS M (i : Int) = M by rw [addS_nat, set_old hv])
          clear hv hiM hlt0 hlen
          go_wp2_with (first
            | (go_at_call 49; refine hp.mono ?_; rintro e w' ⟨rfl, rfl⟩)
            | (go_at_call 40; refine hh.mono ?_; rintro e w' ⟨rfl, rfl⟩))
          refine ⟨⟨k + 1, by omega, rfl, ?_, ?_, HO.out⟩, ?_⟩
          · rw [HN.out, HN2.out, HE.out]; simp
          · rw [HN.out, HE.out]; exact HS.out
          · simp [Lib.intOf]; omega
      · have hp := place_no HS.out x (by omega)
        have HE := Lib.hid (addS_out (m := M) (i := x) (by omega))
        clear hi hlt0 hlen
        go_wp2_with (go_at_call 49; refine hp.mono ?_; rintro e w' ⟨rfl, rfl⟩)
        refine ⟨⟨k + 1, by omega, rfl, ?_, ?_, HO.out⟩, ?_⟩
        · rw [HN.out, HN2.out, HE.out]; simp
        · rw [HN.out, HE.out]; exact HS.out
        · simp [Lib.intOf]; omega
    · obtain rfl : n = k := by omega
      have HE := Lib.hid (show l.take n = l from List.take_of_length_le (by have := HL.out; omega))
      clear hkn
      go_wp2_with fail
      go_ret
      rw [HE.out] at HS ⊢
      exact ⟨rfl, HS.out, HO.out⟩

end

end Go.Proofs.YthkongnjokmmfaaDoor
