/- Stage 17: grants in memory; nil grants; has, Of, Tell, Limit, May, Left. -/
import Derived.Test.YtenaoinkjdaoeaaGrB
set_option maxRecDepth 20000
namespace Go.Proofs.Ytenaoinkjdaoeaa
open Go.RowKit Go.Sort

def gptr (g : Nat) : Value := .pointer (some ⟨g, 0, none⟩)
/-- Grants in memory: a box, and the row of what each process told. -/
structure GrAt (w : World) (base g q me : Nat) (l : List Wd) : Prop where
  box : w.heap[g]? = some (.cells #[.slice (some ⟨q, 0, none⟩) l.length l.length, .int .i64 (me : Int)] 50 (0, 0))
  row : w.ownsRow base 55 2 (.slice (some ⟨q, 0, none⟩) l.length l.length) l.length (flat encW l)
  gb : base ≤ g

section
variable {w w' : World} {base g q me : Nat} {l : List Wd}
theorem GrAt.glt (h : GrAt w base g q me l) : g < w.heap.size := (Array.getElem?_eq_some_iff.1 h.box).1
theorem GrAt.qlt (h : GrAt w base g q me l) : base ≤ q ∧ q < w.heap.size := h.row.lt q rfl
theorem GrAt.heap (h : GrAt w base g q me l) : ∃ cur, w.heap[q]? = some (.cells cur 55 (0, 0)) := by
  rcases h.row.2 with ⟨h1, _⟩ | ⟨g', c, cur, h1, _, h2, _⟩
  · cases h1
  · injection h1 with h1
    injection h1 with h1
    injection h1 with h1
    subst h1
    exact ⟨cur, h2⟩
theorem GrAt.ne (h : GrAt w base g q me l) : g ≠ q := fun e => by
  obtain ⟨cur, hc⟩ := h.heap
  rw [← e, h.box] at hc
  injection hc with hc
  injection hc with _ hc
  exact absurd hc (by decide)
theorem GrAt.kept {D : Nat → Prop} (h : GrAt w base g q me l) (ho : OnlyE w w' D) (hg : ¬ D g) (hq : ¬ D q) : GrAt w' base g q me l :=
  ⟨(ho.same g h.glt hg).trans h.box, own_only h.row ho fun b hb => by cases hb; exact hq, h.gb⟩
theorem GrAt.on (h : GrAt w base g q me l) (hb : RowKit.Below w.heap.size w w') : GrAt w' base g q me l :=
  h.kept (D := fun _ => False) (OnlyE.of_below hb) (fun h => h) (fun h => h)
theorem GrAt.c0 (h : GrAt w base g q me l) : w.cell? ⟨g, 0, none⟩ = some (.slice (some ⟨q, 0, none⟩) l.length l.length) := cell_of_row w g 0 _ _ _ h.box
theorem GrAt.c1 (h : GrAt w base g q me l) : w.cell? ⟨g, 1, none⟩ = some (.int .i64 (me : Int)) := cell_of_row w g 1 _ _ _ h.box
theorem GrAt.t (h : GrAt w base g q me l) {k : Nat} (hk : k < l.length) : w.cell? ⟨q, k * 2, none⟩ = some (.int .u64 ((wat l k).t : Int)) := by rw [h.row.cellAt _ (by omega)]; exact wd_t hk
theorem GrAt.h (h : GrAt w base g q me l) {k : Nat} (hk : k < l.length) : w.cell? ⟨q, k * 2 + 1, none⟩ = some (.bool (wat l k).h) := by rw [h.row.cellAt _ (by omega)]; exact wd_h hk
theorem GrAt.fr (h : GrAt w base g q me l) (j : Nat) : w.frozen? ⟨q, j, none⟩ = false := h.row.frozenAt j
theorem GrAt.setRow (h : GrAt w base g q me l) {l' : List Wd} (hl : l'.length = l.length) (j : Nat) (u : Value) (he : (flat encW l).set j u = flat encW l') : GrAt (w.setCell ⟨q, j, none⟩ u) base g q me l' := by
  have h1 := (h.row.stored j u).1
  have ho := onlyE_set (w := w) (D := fun b => b = q) rfl j u
  refine ⟨?_, ?_, h.gb⟩
  · rw [hl]; exact (ho.same g h.glt h.ne).trans h.box
  · rw [hl, ← he]; exact h1
theorem GrAt.setT (h : GrAt w base g q me l) {k : Nat} (hk : k < l.length) (u : Nat) : GrAt (w.setCell ⟨q, k * 2, none⟩ (.int .u64 (u : Int))) base g q me (l.set k ⟨u, (wat l k).h⟩) := h.setRow (by simp) _ _ (set_t hk u)
theorem GrAt.setH (h : GrAt w base g q me l) {k : Nat} (hk : k < l.length) (b : Bool) : GrAt (w.setCell ⟨q, k * 2 + 1, none⟩ (.bool b)) base g q me (l.set k ⟨(wat l k).t, b⟩) := h.setRow (by simp) _ _ (set_h hk b)
end

/-! ### Nil grants -/
theorem has_nil (P : Int) (w : World) : Calls Try.prog 21 #[.pointer none, .int .i64 P] w fun e w' => e = .returned (.bool false) ∧ w = w' := by
  go_enter Try.func21, Try.ntmps21
  go_wp2
  go_ret
  exact ⟨rfl, rfl⟩
theorem tell_nil (P : Int) (u : Int) (w : World) : Calls Try.prog 13 #[.pointer none, .int .i64 P, .int .u64 u] w fun e w' => e = .returned (.bool false) ∧ w = w' := by
  go_enter Try.func13, Try.ntmps13
  go_wp2_with (go_at_call 21; refine (has_nil _ _).mono ?_; rintro e w' ⟨rfl, rfl⟩)
  go_ret
  exact ⟨rfl, rfl⟩
theorem of_nil (P : Int) (w : World) : Calls Try.prog 14 #[.pointer none, .int .i64 P] w fun e w' => e = .returned (.int .u64 0) ∧ w = w' := by
  go_enter Try.func14, Try.ntmps14
  go_wp2_with (go_at_call 21; refine (has_nil _ _).mono ?_; rintro e w' ⟨rfl, rfl⟩)
  go_ret
  exact ⟨rfl, rfl⟩
theorem limit_nil (w : World) : Calls Try.prog 15 #[.pointer none] w fun e w' => e = .returned (.int .u64 0) ∧ w = w' := by
  go_enter Try.func15, Try.ntmps15
  go_wp2
  go_ret
  exact ⟨rfl, rfl⟩
theorem may_nil (u : Nat) (w : World) : Calls Try.prog 17 #[.pointer none, .int .u64 (u : Int)] w fun e w' => e = .returned (.bool false) ∧ w = w' := by
  have hl : ∀ W, Calls Try.prog 15 #[.pointer none] W fun e w' => e = .returned (.int .u64 0) ∧ W = w' := limit_nil
  rcases Nat.eq_zero_or_pos u with rfl | h
  · go_enter Try.func17, Try.ntmps17
    go_wp2
    go_ret
    exact ⟨rfl, rfl⟩
  · have h1 : (1 : Int) ≤ (u : Int) := by omega
    have h2 : ¬ (u : Int) ≤ 0 := by omega
    go_enter Try.func17, Try.ntmps17
    go_wp2_with (go_at_call 15; refine (hl _).mono ?_; rintro e w' ⟨rfl, rfl⟩)
    go_ret
    exact ⟨by simp; omega, rfl⟩
theorem left_nil (u : Nat) (w : World) : Calls Try.prog 18 #[.pointer none, .int .u64 (u : Int)] w fun e w' => e = .returned (.int .u64 0) ∧ w = w' := by
  have hm : min (u : Int) 0 = 0 := by omega
  go_enter Try.func18, Try.ntmps18
  go_wp2_with (go_at_call 15; refine (limit_nil _).mono ?_; rintro e w' ⟨rfl, rfl⟩)
  go_ret
  exact ⟨rfl, rfl⟩

/-! ### Grants -/
section
variable {w : World} {base g q me : Nat} {l : List Wd}
theorem has_any (h : GrAt w base g q me l) (P : Int) : Calls Try.prog 21 #[gptr g, .int .i64 P] w fun e w' => e = .returned (.bool (hasB l P)) ∧ w = w' := by
  have c0 := h.c0
  clear h
  unfold gptr hasB
  generalize l.length = n at c0 ⊢
  by_cases hp : 0 ≤ P
  · obtain ⟨k, rfl⟩ : ∃ k : Nat, P = (k : Int) := ⟨P.toNat, by omega⟩
    have HE : Hid ((decide (0 ≤ (k : Int)) && decide ((k : Int).toNat < n)) = decide ((k : Int) < (n : Int))) := by show _ = _; simp
    go_enter Try.func21, Try.ntmps21
    go_wp2
    go_ret
    exact ⟨by rw [HE.out]; simp, rfl⟩
  · have HE : Hid ((decide (0 ≤ P) && decide (P.toNat < n)) = false) := by show _ = _; simp [hp]
    go_enter Try.func21, Try.ntmps21
    go_wp2
    go_ret
    exact ⟨by rw [HE.out]; rfl, rfl⟩
theorem of_any (h : GrAt w base g q me l) (P : Int) : Calls Try.prog 14 #[gptr g, .int .i64 P] w fun e w' => e = .returned (.int .u64 (ofN l P : Int)) ∧ w = w' := by
  have hh := has_any h P
  by_cases hp : hasB l P = true
  · obtain ⟨k, rfl, hk⟩ := hasB_iff.1 hp
    have HE : Hid (ofN l (k : Int) = (wat l k).t) := by show _ = _; unfold ofN; rw [if_pos hp, Int.toNat_natCast]
    rw [hp] at hh
    have c0 := h.c0
    have ct := h.t hk
    generalize l.length = n at c0 hk
    clear h hp
    unfold gptr at hh ⊢
    go_enter Try.func14, Try.ntmps14
    go_wp2_with (go_at_call 21; refine hh.mono ?_; rintro e w' ⟨rfl, rfl⟩)
    go_ret
    exact ⟨by rw [HE.out]; rfl, rfl⟩
  · have HE : Hid (ofN l P = 0) := by show _ = _; unfold ofN; rw [if_neg hp]
    rw [Bool.not_eq_true] at hp
    rw [hp] at hh
    clear h hp
    unfold gptr at hh ⊢
    go_enter Try.func14, Try.ntmps14
    go_wp2_with (go_at_call 21; refine hh.mono ?_; rintro e w' ⟨rfl, rfl⟩)
    go_ret
    exact ⟨by rw [HE.out]; rfl, rfl⟩
theorem tell_any (h : GrAt w base g q me l) (P : Int) (u : Nat) : Calls Try.prog 13 #[gptr g, .int .i64 P, .int .u64 (u : Int)] w fun e w' => e = .returned (.bool (tellB l P u)) ∧ GrAt w' base g q me (tellL l P u) ∧ OnlyE w w' (fun b => b = q) := by
  have hh := has_any h P
  by_cases hp : hasB l P = true
  · obtain ⟨k, rfl, hk⟩ := hasB_iff.1 hp
    have HE : Hid (tellB l (k : Int) u = decide ((wat l k).t < u)) := by show _ = _; unfold tellB; rw [hp, Bool.true_and, Int.toNat_natCast]
    rw [hp] at hh
    have c0 := h.c0
    have ct := h.t hk
    have f0 := h.fr (k * 2)
    have H := Lib.hid h
    have HK := Lib.hid hk
    by_cases hu : (wat l k).t < u
    · have HB : Hid (tellB l (k : Int) u = true) := by show _ = _; rw [HE.out, decide_eq_true hu]
      have HL : Hid (tellL l (k : Int) u = l.set k ⟨u, (wat l k).h⟩) := by show _ = _; unfold tellL; rw [if_pos HB.out, Int.toNat_natCast]
      generalize l.length = n at c0 hk
      generalize (wat l k).t = t at ct hu
      have hu' : decide (u ≤ t) = false := by simp; omega
      clear h hp hu
      unfold gptr at hh ⊢
      go_enter Try.func13, Try.ntmps13
      go_wp2_with (go_at_call 21; refine hh.mono ?_; rintro e w' ⟨rfl, rfl⟩)
      go_ret
      exact ⟨by rw [HB.out]; rfl, by rw [HL.out]; exact H.out.setT HK.out u, onlyE_set (D := fun b => b = q) rfl _ _⟩
    · have HB : Hid (tellB l (k : Int) u = false) := by show _ = _; rw [HE.out, decide_eq_false hu]
      have HL : Hid (tellL l (k : Int) u = l) := by show _ = _; unfold tellL; rw [HB.out]; rfl
      generalize l.length = n at c0 hk
      generalize (wat l k).t = t at ct hu
      have hu' : decide (u ≤ t) = true := by simp; omega
      clear h hp hu
      unfold gptr at hh ⊢
      go_enter Try.func13, Try.ntmps13
      go_wp2_with (go_at_call 21; refine hh.mono ?_; rintro e w' ⟨rfl, rfl⟩)
      go_ret
      exact ⟨by rw [HB.out]; rfl, by rw [HL.out]; exact H.out, OnlyE.refl _ _⟩
  · rw [Bool.not_eq_true] at hp
    have HB : Hid (tellB l P u = false) := by show _ = _; unfold tellB; rw [hp]; rfl
    have HL : Hid (tellL l P u = l) := by show _ = _; unfold tellL; rw [HB.out]; rfl
    rw [hp] at hh
    have H := Lib.hid h
    clear h hp
    unfold gptr at hh ⊢
    go_enter Try.func13, Try.ntmps13
    go_wp2_with (go_at_call 21; refine hh.mono ?_; rintro e w' ⟨rfl, rfl⟩)
    go_ret
    exact ⟨by rw [HB.out]; rfl, by rw [HL.out]; exact H.out, OnlyE.refl _ _⟩
end

end Go.Proofs.Ytenaoinkjdaoeaa
