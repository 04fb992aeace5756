/- The walk of the statements' own example (awake), and what is read of numbers that were put. -/
import Derived.Test.YthpdcoodfjficaaNumF
import Derived.Test.YthpdcoodfjficaaStr
namespace Go.Proofs.Ythpdcoodfjficaa
open Go.RowKit

theorem encs_example : encs [258, 0] = [2, 2, 1, 0] := by
  have h0 : digs 0 = [] := digs_zero
  have h1 : digs 1 = [1] := by rw [digs_pos (by decide)]; simp [h0]
  have h258 : digs 258 = [2, 1] := by rw [digs_pos (by decide)]; simp [h1]
  simp [encs, enc, h0, h258]

theorem rnum_example1 : rnum [2, 2, 1, 0] 0 258 = (258, [0], 0) := by decide
theorem rnum_example2 : rnum [0] 0 0 = (0, [], 0) := by decide

theorem below_of_grown {w w' : World} {B g : Nat} (h : w.grownBy w' (some g)) (hg : B ≤ g) (hB : B ≤ w.heap.size) : Below B w w' :=
  (Below.refl B w).grown h hB (fun k hk => by injection hk with hk; omega)

/-- string(b) gives such a string, wherever b lies. -/
def Strs (W : World) (A : Option Addr) (n : Nat) (l : List UInt8) : Prop := ∀ c, (convert 22 9 (.slice A n c)).run Try.prog W = .ok (.string (str l)) W

theorem strs_of {W : World} {A : Option Addr} {B n : Nat} {l : List UInt8} (hl : l.length = n) (h : Lies W B A (bvs l)) : Strs W A n l := fun c =>
  run_string_lst _ _ 5 Try.underlying22 Try.underlying5 Try.underlying9 A _ n c _ hl h

set_option maxHeartbeats 800000 in
theorem awake_any (w : World) : Calls Try.prog 9 #[] w fun e w' => e = .returned (.bool true) ∧ Below w.heap.size w w' := by
  go_enter Try.func9, Try.ntmps9
  go_wp2_with (go_at_call 12; refine (put_any none _ 0 0 2 2 [] [258, 0] _ rfl (by decide) Lies.nil rfl (by decide) ?h1 ?h2).mono ?_)
  case h1 => exact (lies_new _ _ _).more (by simp)
  case h2 => decide
  rintro e w1 ⟨A1, n1, c1, rfl, hn1, _, _, ho1, hb1⟩
  rw [encs_example] at ho1 hn1
  have hb1' : Below w.heap.size w w1 := ((Below.refl _ _).alloc (Nat.le_refl _) _).trans (hb1.mono (by simp))
  have hL := Lies.of_own ho1
  have HN : Hid ([2, 2, 1, 0].length = n1) := by have := hn1.out; rw [bvs_length] at this; exact this
  have hn4 : n1 ≤ 4 := Nat.le_of_eq HN.out.symm
  clear ho1 hn1 hb1
  go_wp2_with (first
    | (go_at_call 15; refine (new_any A1 n1 c1 [2, 2, 1, 0] _ HN.out (by omega) hL).mono ?_; rintro e w2 ⟨g, rfl, hR2, hb2⟩; have hstr := strs_of HN.out (hL.below hb2); unfold Strs str at hstr)
    | (go_at_call 19; refine (num_any 258 hR2).mono ?_; rw [rnum_example1]; rintro e w3 ⟨rfl, hR3, hg3⟩; clear hR2 hstr))
  go_wp2_with (go_at_call 19; refine (num_any 0 hR3).mono ?_; rw [rnum_example2]; rintro e w4 ⟨rfl, hR4, hg4⟩; clear hR3)
  obtain ⟨A4, n4, c4, hR5⟩ := hR4
  have HE : Hid (endOf 0 n4 = 0) := by have := hR5.2.2.1.out; simp at this; subst this; rfl
  have hgb : w1.heap.size ≤ g := hR5.2.1
  clear hL
  refine (end_any hR5).mono ?_
  rw [HE.out]
  rintro e w5 ⟨rfl, rfl⟩
  go_wp2
  go_ret
  have hs2 := hb2.size
  have hs1 := hb1'.size
  have hs3 := hg3.size
  have k1 := hb1'.trans (hb2.mono hs1)
  have k2 := k1.trans (below_of_grown hg3 (by omega) (by omega))
  exact ⟨rfl, k2.trans (below_of_grown hg4 (by omega) (by omega))⟩

end Go.Proofs.Ythpdcoodfjficaa
