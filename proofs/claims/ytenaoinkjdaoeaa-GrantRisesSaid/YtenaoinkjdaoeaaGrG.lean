/- Stage 17: what GrantRises keeps. -/
import Derived.Test.YtenaoinkjdaoeaaGrF
set_option maxRecDepth 20000
namespace Go.Proofs.Ytenaoinkjdaoeaa
open Go.RowKit Go.Sort

theorem Try.infoBo : (Try.prog.info? 4).map (fun i => (i.zero, i.size, i.bytes)) = some (some (.bool false), 1, 1) := by kernel_rfl
def bls (l : List Bool) : List Value := l.map Value.bool
theorem bls_at {l : List Bool} {k : Nat} (h : k < l.length) : (bls l)[k]? = some (.bool (l.getD k false)) := by simp [bls, h]
theorem bls_set (l : List Bool) (k : Nat) (b : Bool) : (bls l).set k (.bool b) = bls (l.set k b) := by simp [bls]
theorem made_bls (z : Array Value) (hz : z = #[.bool false]) (m : Nat) : (madeCells z m).toList = bls (List.replicate m false) := by
  subst hz
  rw [toList_madeCells_one]
  simp [bls]

/-- The grants, and who is gone as GrantRises has it. -/
structure RiS (w : World) (g q r me N : Nat) (l : List Wd) (G : List Bool) (V : World) : Prop where
  below : RowKit.Below w.heap.size w V
  gr : GrAt V w.heap.size g q me l
  gn : V.ownsRow w.heap.size 4 1 (.slice (some ⟨r, 0, none⟩) 64 64) 64 (bls G)
  ok : Gok me l
  len : l.length = N
  glen : G.length = 64
  same : ∀ j, j < l.length → G.getD j false = (wat l j).h

section
variable {w V V' : World} {g q r me N : Nat} {l : List Wd} {G : List Bool}
theorem RiS.on (h : RiS w g q r me N l G V) (hb : RowKit.Below V.heap.size V V') : RiS w g q r me N l G V' :=
  ⟨h.below.trans (hb.mono h.below.size), h.gr.on hb, own_below h.gn hb, h.ok, h.len, h.glen, h.same⟩
theorem RiS.rne (h : RiS w g q r me N l G V) : r ≠ q := fun e => by
  obtain ⟨cur, hc⟩ := h.gr.heap
  rcases h.gn.2 with ⟨h1, _⟩ | ⟨g', c, cur', h1, _, h2, _⟩
  · cases h1
  · injection h1 with h1
    injection h1 with h1
    injection h1 with h1
    subst h1
    rw [e, hc] at h2
    injection h2 with h2
    injection h2 with _ h2
    exact absurd h2 (by decide)
theorem RiS.rneg (h : RiS w g q r me N l G V) : r ≠ g := fun e => by
  have hc := h.gr.box
  rcases h.gn.2 with ⟨h1, _⟩ | ⟨g', c, cur', h1, _, h2, _⟩
  · cases h1
  · injection h1 with h1
    injection h1 with h1
    injection h1 with h1
    subst h1
    rw [e, hc] at h2
    injection h2 with h2
    injection h2 with _ h2
    exact absurd h2 (by decide)
theorem RiS.cell (h : RiS w g q r me N l G V) {k : Nat} (hk : k < 64) : V.cell? ⟨r, k, none⟩ = some (.bool (G.getD k false)) := by
  rw [h.gn.cellAt k (by omega)]
  exact bls_at (by rw [h.glen]; exact hk)
theorem RiS.fr (h : RiS w g q r me N l G V) (k : Nat) : V.frozen? ⟨r, k, none⟩ = false := h.gn.frozenAt k
theorem RiS.below_q (h : RiS w g q r me N l G V) (ho : OnlyE V V' (fun b => b = q)) : RowKit.Below w.heap.size w V' :=
  h.below.trans (ho.below (fun b hb => by subst hb; exact h.gr.qlt.1) h.below.size)
/-- One tells. -/
theorem RiS.tell (h : RiS w g q r me N l G V) (P : Int) {u : Nat} (hu : u < 18446744073709551616) {e : Ending} (hc : e = .returned (.bool (tellB l P u)) ∧ GrAt V' w.heap.size g q me (tellL l P u) ∧ OnlyE V V' (fun b => b = q)) : RiS w g q r me N (tellL l P u) G V' := by
  obtain ⟨-, h1, h2⟩ := hc
  refine ⟨h.below_q h2, h1, own_only h.gn h2 fun b hb e => ?_, h.ok.tell P hu, by rw [tellL_len, h.len], h.glen, fun j hj => ?_⟩
  · cases hb; exact h.rne e
  · rw [tellL_len] at hj
    rw [tellL_at l P u j hj, h.same j hj]
    split <;> rfl
/-- One is to go that isn't there, or is me, or was gone. -/
theorem RiS.stay (h : RiS w g q r me N l G V) (P : Int) (hB : goneB l me P = false) (h1 : GrAt V' w.heap.size g q me (goneL l me P)) (h2 : OnlyE V V' (fun b => b = q)) : RiS w g q r me N (goneL l me P) G V' := by
  have e : goneL l me P = l := by unfold goneL; rw [hB]; rfl
  rw [e] at h1 ⊢
  exact ⟨h.below_q h2, h1, own_only h.gn h2 fun b hb e => by cases hb; exact h.rne e, h.ok, h.len, h.glen, h.same⟩
/-- One goes, and is noted. -/
theorem RiS.goes (h : RiS w g q r me N l G V) (k : Nat) (hB : goneB l me (k : Int) = true) (h1 : GrAt V' w.heap.size g q me (goneL l me (k : Int))) (h2 : OnlyE V V' (fun b => b = q)) (hk : k < l.length) :
    RiS w g q r me N (goneL l me (k : Int)) (G.set k true) (V'.setCell ⟨r, k, none⟩ (.bool true)) ∧ V'.cell? ⟨r, k, none⟩ = some (.bool (G.getD k false)) ∧ V'.frozen? ⟨r, k, none⟩ = false := by
  have hk64 : k < 64 := Nat.lt_of_lt_of_le hk h.ok.len
  have hgn := own_only h.gn h2 fun b hb e => by cases hb; exact h.rne e
  have hst := (hgn.stored k (.bool true)).1
  have ho := onlyE_set (w := V') (D := fun b => b = r) rfl k (.bool true)
  refine ⟨⟨?_, ?_, ?_, h.ok.gone _, by rw [goneL_len, h.len], by rw [List.length_set, h.glen], fun j hj => ?_⟩, ?_, hgn.frozenAt k⟩
  · exact (h.below_q h2).trans (ho.below (fun b hb => by subst hb; exact (h.gn.lt b rfl).1) (h.below_q h2).size)
  · exact h1.kept ho (fun e => h.rneg e.symm) (fun e => h.rne e.symm)
  · rw [← bls_set]; exact hst
  · rw [goneL_len] at hj
    rw [goneL_at l me (k : Int) j hj]
    have hkm : k ≠ me := by
      intro e
      unfold goneB at hB
      rw [Int.toNat_natCast, decide_eq_false (by simpa using e)] at hB
      simp at hB
    rw [List.getD_eq_getElem?_getD, List.getElem?_set]
    by_cases e : k = j
    · subst e
      rw [if_pos rfl, if_pos (by rw [h.glen]; exact hk64), if_pos ⟨rfl, hkm⟩]
      rfl
    · rw [if_neg e, if_neg (fun h => e (by have := h.1; omega)), ← List.getD_eq_getElem?_getD]
      exact h.same j hj
  · rw [hgn.cellAt k (by omega)]
    exact bls_at (by rw [h.glen]; exact hk64)
theorem goneB_at {P : Int} (h : goneB l me P = true) : ∃ k : Nat, P = (k : Int) ∧ k < l.length ∧ k ≠ me := by
  unfold goneB at h
  rw [Bool.and_eq_true, Bool.and_eq_true] at h
  obtain ⟨⟨h1, h2⟩, -⟩ := h
  obtain ⟨k, rfl, hk⟩ := hasB_iff.1 h1
  rw [Int.toNat_natCast, decide_eq_true_iff] at h2
  exact ⟨k, rfl, hk, h2⟩
end
/-- Who is not me, and is there, isn't the number that I was made with. -/
theorem clampM_ne {n me : Int} {k : Nat} (hk : k < clampN n) (h : k ≠ clampM n me) : (k : Int) ≠ me := by
  unfold clampM at h
  omega

end Go.Proofs.Ytenaoinkjdaoeaa
