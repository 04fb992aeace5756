/- Walks of what only reads: New, Len, Lost, has, free, copyOf, Look. -/
import Derived.Test.YtjecphjdmjoeiaaBgB
namespace Go.Proofs.Ytjecphjdmjoeiaa
open Go.RowKit Go.Sort

def ptr (p : Nat) : Value := .pointer (some ⟨p, 0, none⟩)

/-! ### A nil bag -/
theorem len_nil (w : World) : Calls Try.prog 12 #[.pointer none] w fun e w' => e = .returned (.int .i64 0) ∧ w' = w := by
  go_enter Try.func12, Try.ntmps12
  go_wp2
  go_ret
  exact ⟨rfl, rfl⟩
theorem lost_nil (w : World) : Calls Try.prog 13 #[.pointer none] w fun e w' => e = .returned (.int .i64 0) ∧ w' = w := by
  go_enter Try.func13, Try.ntmps13
  go_wp2
  go_ret
  exact ⟨rfl, rfl⟩
theorem has_nil (i : Int) (w : World) : Calls Try.prog 25 #[.pointer none, .int .i64 i] w fun e w' => e = .returned (.bool false) ∧ w' = w := by
  by_cases h : 0 ≤ i
  · have hd : decide (i < 0) = false := by simp; omega
    go_enter Try.func25, Try.ntmps25
    go_wp2_with (go_at_call 12; refine (len_nil _).mono ?_; rintro e w' ⟨rfl, rfl⟩)
    go_ret
    exact ⟨rfl, rfl⟩
  · go_enter Try.func25, Try.ntmps25
    go_wp2_with (go_at_call 12; refine (len_nil _).mono ?_; rintro e w' ⟨rfl, rfl⟩)
    go_ret
    exact ⟨rfl, rfl⟩
theorem look_nil (i : Int) (w : World) : Calls Try.prog 14 #[.pointer none, .int .i64 i] w fun e w' => e = .returned (.tuple #[.slice none 0 0, .bool false]) ∧ w' = w := by
  go_enter Try.func14, Try.ntmps14
  go_wp2_with (go_at_call 25; refine (has_nil _ _).mono ?_; rintro e w' ⟨rfl, rfl⟩)
  go_ret2
  exact ⟨rfl, rfl⟩
theorem take_nil (i : Int) (w : World) : Calls Try.prog 17 #[.pointer none, .int .i64 i] w fun e w' => e = .returned (.tuple #[.slice none 0 0, .bool false]) ∧ w' = w := by
  go_enter Try.func17, Try.ntmps17
  go_wp2_with (go_at_call 14; refine (look_nil _ _).mono ?_; rintro e w' ⟨rfl, rfl⟩)
  go_ret2
  exact ⟨rfl, rfl⟩
theorem put_nil (A : Option Addr) (n c : Nat) (w : World) : Calls Try.prog 15 #[.pointer none, .slice A n c] w fun e w' => e = .returned (.int .i64 0) ∧ w' = w := by
  go_enter Try.func15, Try.ntmps15
  go_wp2
  go_ret
  exact ⟨rfl, rfl⟩
theorem twice_nil (i : Int) (w : World) : Calls Try.prog 16 #[.pointer none, .int .i64 i] w fun e w' => e = .returned (.bool false) ∧ w' = w := by
  go_enter Try.func16, Try.ntmps16
  go_wp2_with (go_at_call 25; refine (has_nil _ _).mono ?_; rintro e w' ⟨rfl, rfl⟩)
  go_ret
  exact ⟨rfl, rfl⟩
theorem turn_nil (i at_ b : Int) (w : World) : Calls Try.prog 19 #[.pointer none, .int .i64 i, .int .i64 at_, .int .u32 b] w fun e w' => e = .returned (.bool false) ∧ w' = w := by
  go_enter Try.func19, Try.ntmps19
  go_wp2_with (go_at_call 25; refine (has_nil _ _).mono ?_; rintro e w' ⟨rfl, rfl⟩)
  go_ret
  exact ⟨rfl, rfl⟩

/-! ### A bag -/
section
variable {w : World} {base p : Nat} {T : Value} {room lost : Nat} {l : List Th} {D : Nat → Prop}

theorem len_any (h : BagAt w base p T room lost l D) : Calls Try.prog 12 #[.pointer (some ⟨p, 0, none⟩)] w fun e w' => e = .returned (.int .i64 (l.length : Int)) ∧ w' = w := by
  obtain ⟨A, c, rfl, _⟩ := h.slice
  have c0 := h.c0
  clear h
  go_enter Try.func12, Try.ntmps12
  go_wp2
  go_ret
  exact ⟨rfl, rfl⟩
theorem lost_any (h : BagAt w base p T room lost l D) : Calls Try.prog 13 #[.pointer (some ⟨p, 0, none⟩)] w fun e w' => e = .returned (.int .i64 (lost : Int)) ∧ w' = w := by
  have c2 := h.c2
  clear h
  go_enter Try.func13, Try.ntmps13
  go_wp2
  go_ret
  exact ⟨rfl, rfl⟩
theorem has_any (h : BagAt w base p T room lost l D) (i : Int) : Calls Try.prog 25 #[.pointer (some ⟨p, 0, none⟩), .int .i64 i] w fun e w' => e = .returned (.bool (decide (0 ≤ i ∧ i < l.length))) ∧ w' = w := by
  have hl := len_any h
  clear h
  by_cases h0 : 0 ≤ i
  · by_cases h1 : i < (l.length : Int)
    · have hd : decide (0 ≤ i ∧ i < (l.length : Int)) = true := decide_eq_true ⟨h0, h1⟩
      rw [hd]
      generalize (l.length : Int) = n at hl h1
      clear hd
      go_enter Try.func25, Try.ntmps25
      go_wp2_with (go_at_call 12; refine hl.mono ?_; rintro e w' ⟨rfl, rfl⟩)
      go_ret
      exact ⟨rfl, rfl⟩
    · have hd : decide (0 ≤ i ∧ i < (l.length : Int)) = false := decide_eq_false fun h => h1 h.2
      rw [hd]
      generalize (l.length : Int) = n at hl h1
      clear hd
      have hd : decide (i < n) = false := by simp; omega
      go_enter Try.func25, Try.ntmps25
      go_wp2_with (go_at_call 12; refine hl.mono ?_; rintro e w' ⟨rfl, rfl⟩)
      go_ret
      exact ⟨rfl, rfl⟩
  · have hd : decide (0 ≤ i ∧ i < (l.length : Int)) = false := decide_eq_false fun h => h0 h.1
    rw [hd]
    clear hd
    go_enter Try.func25, Try.ntmps25
    go_wp2_with fail
    go_ret
    exact ⟨rfl, rfl⟩

theorem free_any (h : BagAt w base p T room lost l D) : Calls Try.prog 27 #[.pointer (some ⟨p, 0, none⟩)] w fun e w' => e = .returned (.int .i64 ((room - l.length : Nat) : Int)) ∧ RowKit.Below w.heap.size w w' := by
  obtain ⟨A, c, rfl, _⟩ := h.slice
  have c0 := h.c0
  have c1 := h.c1
  have hf := h.fit
  have h2 := h.room2
  have HE : Hid (((room - l.length : Nat) : Int) = (room : Int) - (l.length : Int)) := by show _ = _; omega
  rw [HE.out]
  generalize l.length = n at c0 hf
  clear h HE
  go_enter Try.func27, Try.ntmps27
  go_wp2_with fail
  go_quiet (fail)
  go_wp2
  go_ret
  refine ⟨rfl, ?_⟩
  exact ⟨rfl, rfl, rfl, Nat.le_refl _, fun _ _ => rfl⟩

theorem copyOf_any (A : Option Addr) (n c : Nat) (b : List UInt8) (W : World) (hn : n ≤ 1000) (hb : b.length = n) (h : Lies W W.heap.size A (bvs b)) :
    Calls Try.prog 26 #[.slice A n c] W (Owned W W.heap.size (bvs b)) := by
  obtain ⟨i0, hi, hz0, hz1, hz2⟩ := info_parts Try.info5
  have HB := Lib.hid hb
  clear hb
  go_enter Try.func26, Try.ntmps26
  go_wp2_with (at_builtin; refine wpList_append_lst rfl _ _ 30 rfl W.heap.size 5 i0 (.int .u8 0) 1 Try.underlying30 hi hz0 hz1 hz2 rfl _ 0 [] rfl (World.ownsRow_nil _ _ _ _) _ _ _ _ (bvs b) rfl ?d0 h (bvs_one _) ?d2 ?d3 (Nat.le_refl _) ?_)
  case d0 => rw [bvs_length]; exact HB.out
  case d2 => unfold maxLen; omega
  case d3 => omega
  intro v1 w1 hown hg hb _
  go_wp2
  go_ret
  exact Owned.of hown hb

/-- Look's answer, where there is a thing: a new slice that has its bytes. -/
def Looked (w : World) (b : List UInt8) (e : Ending) (w' : World) : Prop :=
  ∃ A n c, e = .returned (.tuple #[.slice A n c, .bool true]) ∧ Hid (b.length = n) ∧ n ≤ c ∧ c ≤ maxLen ∧ w'.ownsRow w.heap.size 5 1 (.slice A n c) n (bvs b) ∧ RowKit.Below w.heap.size w w'

theorem look_any (h : BagAt w base p T room lost l D) (i : Nat) (hi : i < l.length) : Calls Try.prog 14 #[.pointer (some ⟨p, 0, none⟩), .int .i64 (i : Int)] w (Looked w l[i].b) := by
  have hh := has_any h (i : Int)
  rw [decide_eq_true (by omega : 0 ≤ (i : Int) ∧ (i : Int) < l.length)] at hh
  obtain ⟨g, c, rfl, -, -, d0, -, -⟩ := h.thing hi
  obtain ⟨A, c1, hv, -, -, hL⟩ := h.body hi
  rw [hv] at d0
  have hc := copyOf_any A l[i].b.length c1 l[i].b w (h.bm _ (List.getElem_mem hi)) rfl hL
  have c0 := h.c0
  clear h hv hL
  generalize l[i].b = b at hc d0 ⊢
  generalize l.length = n at c0 hi
  go_enter Try.func14, Try.ntmps14
  go_wp2_with (first | (go_at_call 25; refine hh.mono ?_; rintro e w' ⟨rfl, rfl⟩) | (go_at_call 26; refine hc.mono ?_; rintro e w1 ⟨A1, n1, c1, rfl, hn, h1, h2, ho, hb⟩))
  go_ret2
  rw [bvs_length] at hn
  exact ⟨A1, n1, _, rfl, hn, h1, h2, ho, hb⟩

theorem look_none (h : BagAt w base p T room lost l D) (i : Int) (hi : ¬ (0 ≤ i ∧ i < l.length)) : Calls Try.prog 14 #[.pointer (some ⟨p, 0, none⟩), .int .i64 i] w fun e w' => e = .returned (.tuple #[.slice none 0 0, .bool false]) ∧ w' = w := by
  have hh := has_any h i
  rw [decide_eq_false hi] at hh
  clear h
  go_enter Try.func14, Try.ntmps14
  go_wp2_with (go_at_call 25; refine hh.mono ?_; rintro e w' ⟨rfl, rfl⟩)
  go_ret2
  exact ⟨rfl, rfl⟩
end

end Go.Proofs.Ytjecphjdmjoeiaa
