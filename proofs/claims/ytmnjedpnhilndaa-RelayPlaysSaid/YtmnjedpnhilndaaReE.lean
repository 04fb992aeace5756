/- Stage 16: the walks of New, Len, Lost, there; a nil queue; is a byte among some; the document's in. -/
import Derived.Test.YtmnjedpnhilndaaReD
set_option maxRecDepth 20000
namespace Go.Proofs.Ytmnjedpnhilndaa
open Go.RowKit Go.Sort Go.Maps Go.Lib

theorem alloc_below (w : World) (o : Obj) : RowKit.Below w.heap.size w (w.alloc o) := (RowKit.Below.refl _ _).alloc (Nat.le_refl _) o

/-! ### Is a byte among some? -/
def inB (l : List UInt8) (f : Nat) : Bool := l.any fun c => decide (f = c.toNat)
theorem inB_next {l : List UInt8} {f k : Nat} (hk : k < l.length) : inB (l.take (k + 1)) f = (inB (l.take k) f || decide (f = l[k].toNat)) := by
  unfold inB
  rw [List.take_succ_eq_append_getElem hk, List.any_append]
  simp
theorem inB_first {l : List UInt8} {f k : Nat} (hk : k < l.length) (h : f = l[k].toNat) : inB l f = true := by
  unfold inB
  rw [List.any_eq_true]
  exact ⟨_, List.getElem_mem hk, by rw [decide_eq_true_iff]; exact h⟩

section
variable {w : World}
theorem indexB_any (A : Option Addr) (n c : Nat) (l : List UInt8) (x : Nat) (w : World) (hl : l.length = n) (hn : n ≤ 1000) (hL : Lies w w.heap.size A (bvs l)) :
    Calls Try.prog 36 #[.slice A n c, .int .u8 (x : Int)] w fun e w' => ∃ r : Int, e = .returned (.int .i64 r) ∧ Hid (decide (0 ≤ r) = inB l x) ∧ w = w' := by
  have HL := Lib.hid hl
  have H := Lib.hid hL
  clear hl hL
  go_enter Try.func36, Try.ntmps36
  go_wp2
  go_loopw [5, 8] (fun _ s8 wr => ∃ k : Nat, k ≤ n ∧ s8 = .int .i64 (k : Int) ∧ Hid (inB (l.take k) x = false) ∧ wr = w) (fun _ s8 _ => n - (Lib.intOf s8).toNat)
  case atStart => exact ⟨0, Nat.zero_le _, rfl, (by show _ = _; simp [inB]), rfl⟩
  case round =>
    obtain ⟨k, hk, rfl, hK, rfl⟩ := hrel
    by_cases hlt : k < n
    · have hkl : k < l.length := by rw [HL.out]; exact hlt
      obtain ⟨b, off, rfl, hbl, hc⟩ := H.out.at_ (bvs_at hkl)
      have HF := Lib.hid (fun h => inB_first (f := x) hkl h)
      have HN := Lib.hid (inB_next (f := x) hkl)
      unfold bv at hc
      generalize l[k].toNat = y at hc HF HN
      by_cases hq : x = y
      · have hq' : ((x : Int) == (y : Int)) = true := by simp; omega
        have HF2 := Lib.hid (HF.out hq)
        clear hkl hbl hq HF HN
        go_wp2
        go_ret
        exact ⟨_, rfl, by show _ = _; rw [HF2.out]; simp, rfl⟩
      · have hq' : ((x : Int) == (y : Int)) = false := by simp; omega
        have HN2 : Hid (inB (l.take (k + 1)) x = false) := by show _ = _; rw [HN.out, hK.out, decide_eq_false hq]; rfl
        clear hkl hbl hq HF HN
        go_wp2
        exact ⟨⟨k + 1, by omega, by go_num, HN2, trivial⟩, by simp [Lib.intOf]; omega⟩
    · have hkn : Hid (inB l x = false) := by
        show _ = _
        have := hK.out
        rwa [List.take_of_length_le (by rw [HL.out]; omega)] at this
      go_wp2
      go_ret
      exact ⟨_, rfl, by show _ = _; rw [hkn.out]; rfl, rfl⟩

theorem containsB_any (A : Option Addr) (n c : Nat) (l : List UInt8) (x : Nat) (w : World) (hl : l.length = n) (hn : n ≤ 1000) (hL : Lies w w.heap.size A (bvs l)) :
    Calls Try.prog 24 #[.slice A n c, .int .u8 (x : Int)] w fun e w' => e = .returned (.bool (inB l x)) ∧ w = w' := by
  have hi := indexB_any A n c l x w hl hn hL
  clear hl hL
  go_enter Try.func24, Try.ntmps24
  go_wp2_with fail
  refine hi.mono ?_
  rintro e w' ⟨r, rfl, hr, rfl⟩
  go_wp2
  go_ret
  exact ⟨by rw [← hr.out]; rfl, rfl⟩

theorem refIn_any (A : Option Addr) (n c : Nat) (l : List UInt8) (x : Nat) (w : World) (hl : l.length = n) (hn : n ≤ 1000) (hL : Lies w w.heap.size A (bvs l)) :
    Calls Try.prog 22 #[.slice A n c, .int .u8 (x : Int)] w fun e w' => e = .returned (.bool (inB l x)) ∧ w = w' := by
  have HL := Lib.hid hl
  have H := Lib.hid hL
  clear hl hL
  go_enter Try.func22, Try.ntmps22
  go_wp2
  go_loopw [5, 8] (fun _ s8 wr => ∃ k : Nat, k ≤ n ∧ s8 = .int .i64 (k : Int) ∧ Hid (inB (l.take k) x = false) ∧ wr = w) (fun _ s8 _ => n - (Lib.intOf s8).toNat)
  case atStart => exact ⟨0, Nat.zero_le _, rfl, (by show _ = _; simp [inB]), rfl⟩
  case round =>
    obtain ⟨k, hk, rfl, hK, rfl⟩ := hrel
    by_cases hlt : k < n
    · have hkl : k < l.length := by rw [HL.out]; exact hlt
      obtain ⟨b, off, rfl, hbl, hc⟩ := H.out.at_ (bvs_at hkl)
      have HF := Lib.hid (fun h => inB_first (f := x) hkl h)
      have HN := Lib.hid (inB_next (f := x) hkl)
      unfold bv at hc
      generalize l[k].toNat = y at hc HF HN
      by_cases hq : x = y
      · have hq' : ((y : Int) == (x : Int)) = true := by simp; omega
        have HF2 := Lib.hid (HF.out hq)
        clear hkl hbl hq HF HN
        go_wp2
        go_ret
        exact ⟨by rw [HF2.out]; rfl, rfl⟩
      · have hq' : ((y : Int) == (x : Int)) = false := by simp; omega
        have HN2 : Hid (inB (l.take (k + 1)) x = false) := by show _ = _; rw [HN.out, hK.out, decide_eq_false hq]; rfl
        clear hkl hbl hq HF HN
        go_wp2
        exact ⟨⟨k + 1, by omega, by go_num, HN2, trivial⟩, by simp [Lib.intOf]; omega⟩
    · have hkn : Hid (inB l x = false) := by
        show _ = _
        have := hK.out
        rwa [List.take_of_length_le (by rw [HL.out]; omega)] at this
      go_wp2
      go_ret
      exact ⟨by rw [hkn.out]; rfl, rfl⟩
end

/-! ### A nil queue -/
theorem len_nil (w : World) : Calls Try.prog 18 #[.pointer none] w fun e w' => e = .returned (.int .i64 0) ∧ w = w' := by
  go_enter Try.func18, Try.ntmps18
  go_wp2
  go_ret
  exact ⟨rfl, rfl⟩
theorem lost_nil (w : World) : Calls Try.prog 19 #[.pointer none] w fun e w' => e = .returned (.int .i64 0) ∧ w = w' := by
  go_enter Try.func19, Try.ntmps19
  go_wp2
  go_ret
  exact ⟨rfl, rfl⟩
theorem put_nil (A : Option Addr) (n c : Nat) (w : World) : Calls Try.prog 12 #[.pointer none, .slice A n c] w fun e w' => e = .returned (.int .i64 0) ∧ w = w' := by
  go_enter Try.func12, Try.ntmps12
  go_wp2
  go_ret
  exact ⟨rfl, rfl⟩
theorem take_nil (m : Int) (A : Option Addr) (n c : Nat) (w : World) : Calls Try.prog 15 #[.pointer none, .int .i64 m, .slice A n c] w fun e w' => e = .returned (.slice none 0 0) ∧ w = w' := by
  go_enter Try.func15, Try.ntmps15
  go_wp2
  go_ret
  exact ⟨rfl, rfl⟩
theorem release_nil (f : Value) (w : World) : Calls Try.prog 27 #[.pointer none, f] w fun e w' => e = .returned (.int .i64 0) ∧ RowKit.Below w.heap.size w w' := by
  go_enter Try.func27, Try.ntmps27
  go_wp2
  go_ret
  exact ⟨rfl, alloc_below _ _⟩
theorem drop_nil (A : Option Addr) (n c : Nat) (w : World) : Calls Try.prog 17 #[.pointer none, .slice A n c] w fun e w' => e = .returned (.int .i64 0) ∧ RowKit.Below w.heap.size w w' := by
  go_enter Try.func17, Try.ntmps17
  go_wp2_with (go_at_call 27; refine (release_nil _ _).mono ?_; rintro e w' ⟨rfl, hb⟩)
  go_ret
  exact ⟨rfl, (alloc_below _ _).trans (hb.mono (by simp))⟩

/-! ### A queue -/
def roomN (r : Int) : Nat := (max 1 (min r 4096)).toNat

theorem new_any (r : Int) (w : World) (base : Nat) (hb : base ≤ w.heap.size) : Calls Try.prog 8 #[.int .i64 r] w fun e w' =>
    ∃ g mb, e = .returned (qptr g) ∧ QueS w' base g mb (.slice none 0 0) (roomN r) 0 [] [] (fun k => k = g ∨ k = mb) ∧ w.heap.size ≤ g ∧ w.heap.size ≤ mb ∧ RowKit.Below w.heap.size w w' := by
  have HM : Hid (max 1 (min r 4096) = (roomN r : Int)) := by show _ = _; unfold roomN; omega
  generalize hN : roomN r = N at HM ⊢
  have hmm := @run_makeMap Try.prog
  clear hN
  go_enter Try.func8, Try.ntmps8
  go_wp2
  go_ret
  rw [HM.out]
  have hs0 : (w.alloc (.map #[] 0)).heap.size = w.heap.size + 1 := by simp
  refine ⟨w.heap.size + 1, w.heap.size, rfl, ?_, by omega, Nat.le_refl _, (alloc_below _ _).trans ((alloc_below _ _).mono (by simp))⟩
  exact {
    box := by
      have := (MapKept.heap_alloc (w.alloc (.map #[] 0)) (.cells (quCells w.heap.size (.slice none 0 0) N 0) 63)).1
      rw [hs0] at this
      exact this
    row := World.ownsRow_nil _ _ _ _
    map := ⟨.map [], (World.ownsMap_made w Try.prog 69 frR).alloc _, HasE.nil⟩
    frs := by simp
    oks := by simp
    own := fun b hb' => by
      rcases hb' with rfl | rfl | hb'
      · exact .inl rfl
      · exact .inr rfl
      · simp [Value.ownBlock] at hb'
    din := fun b hb' => by
      simp only [World.alloc, Array.size_push]
      rcases hb' with rfl | rfl <;> omega }

section
variable {w : World} {base g mb : Nat} {T : Value} {room lost : Nat} {lr : List Pl} {lm : List Pf} {D : Nat → Prop}
theorem len_any (h : QueS w base g mb T room lost lr lm D) : Calls Try.prog 18 #[qptr g] w fun e w' => e = .returned (.int .i64 (lr.length : Int)) ∧ w = w' := by
  have c1 := h.c1
  obtain ⟨A, c, rfl, -, -⟩ := h.slice
  clear h
  unfold qptr
  go_enter Try.func18, Try.ntmps18
  go_wp2
  go_ret
  exact ⟨rfl, rfl⟩
theorem lost_any (h : QueS w base g mb T room lost lr lm D) : Calls Try.prog 19 #[qptr g] w fun e w' => e = .returned (.int .i64 (lost : Int)) ∧ w = w' := by
  have c3 := h.c3
  clear h
  unfold qptr
  go_enter Try.func19, Try.ntmps19
  go_wp2
  go_ret
  exact ⟨rfl, rfl⟩
end

end Go.Proofs.Ytmnjedpnhilndaa
