/- Stage 17: in which order acts come plays no part; two grants side by side. -/
import Derived.Test.YtenaoinkjdaoeaaGrF
set_option maxRecDepth 20000
namespace Go.Proofs.Ytenaoinkjdaoeaa
open Go.RowKit Go.Sort

/-- What an act makes of process j. -/
def aw (me : Nat) (y : Ac) (j : Nat) (x : Wd) : Wd := if y.P = (j : Int) then (if y.g then (if j ≠ me then ⟨x.t, true⟩ else x) else (if x.t < y.u then ⟨y.u, x.h⟩ else x)) else x
theorem actL_at (l : List Wd) (me : Nat) (y : Ac) (j : Nat) (hj : j < l.length) : wat (actL l me y) j = aw me y j (wat l j) := by
  unfold actL aw
  by_cases hg : y.g = true
  · rw [if_pos hg, goneL_at l me y.P j hj]
    by_cases hp : y.P = (j : Int)
    · rw [if_pos hp, if_pos hg]
      by_cases hm : j ≠ me
      · rw [if_pos ⟨hp, hm⟩, if_pos hm]
      · rw [if_neg (fun h => hm h.2), if_neg hm]
    · rw [if_neg hp, if_neg (fun h => hp h.1)]
  · rw [if_neg hg, tellL_at l y.P y.u j hj]
    by_cases hp : y.P = (j : Int)
    · rw [if_pos hp, if_neg hg]
      by_cases hm : (wat l j).t < y.u
      · rw [if_pos ⟨hp, hm⟩, if_pos hm]
      · rw [if_neg (fun h => hm h.2), if_neg hm]
    · rw [if_neg hp, if_neg (fun h => hp h.1)]
theorem aw_comm (me : Nat) (y z : Ac) (j : Nat) (x : Wd) : aw me y j (aw me z j x) = aw me z j (aw me y j x) := by
  obtain ⟨yg, yP, yu⟩ := y
  obtain ⟨zg, zP, zu⟩ := z
  obtain ⟨t, h⟩ := x
  unfold aw
  dsimp only
  by_cases hy : yP = (j : Int)
  · by_cases hz : zP = (j : Int)
    · simp only [if_pos hy, if_pos hz]
      cases yg <;> cases zg
      · simp only [Bool.false_eq_true, if_false]
        by_cases h1 : t < yu
        · by_cases h2 : t < zu
          · simp only [if_pos h1, if_pos h2]
            by_cases h3 : zu < yu
            · rw [if_pos h3, if_neg (by omega)]
            · by_cases h4 : yu < zu
              · rw [if_neg h3, if_pos h4]
              · rw [if_neg h3, if_neg h4, show yu = zu by omega]
          · simp only [if_pos h1, if_neg h2]
            rw [if_neg (by omega)]
        · by_cases h2 : t < zu
          · simp only [if_neg h1, if_pos h2]
            rw [if_neg (by omega)]
          · simp only [if_neg h1, if_neg h2]
      · simp only [Bool.false_eq_true, if_false, if_true]
        by_cases hm : j ≠ me
        · simp only [if_pos hm]
          split <;> rfl
        · simp only [if_neg hm]
      · simp only [Bool.false_eq_true, if_false, if_true]
        by_cases hm : j ≠ me
        · simp only [if_pos hm]
          split <;> rfl
        · simp only [if_neg hm]
      · rfl
    · simp only [if_pos hy, if_neg hz]
  · simp only [if_neg hy]
theorem act_comm (l : List Wd) (me : Nat) (y z : Ac) : actL (actL l me z) me y = actL (actL l me y) me z := by
  refine wat_ext (by simp only [actL_len]) fun j hj => ?_
  simp only [actL_len] at hj
  rw [actL_at _ me y j (by rw [actL_len]; exact hj), actL_at _ me z j hj, actL_at _ me z j (by rw [actL_len]; exact hj), actL_at _ me y j hj]
  exact aw_comm me y z j _

/-- The grants behind acts. -/
def runL (me : Nat) (l : List Wd) (ys : List Ac) : List Wd := ys.foldl (fun l y => actL l me y) l
theorem runL_nil (me : Nat) (l : List Wd) : runL me l [] = l := rfl
theorem runL_snoc (me : Nat) (l : List Wd) (ys : List Ac) (y : Ac) : runL me l (ys ++ [y]) = actL (runL me l ys) me y := by
  unfold runL
  rw [List.foldl_append]
  rfl
theorem runL_cons (me : Nat) : ∀ (ys : List Ac) (l : List Wd) (y : Ac), runL me l (y :: ys) = actL (runL me l ys) me y
  | [], _, _ => rfl
  | z :: ys, l, y => by
    show runL me (actL (actL l me y) me z) ys = actL (runL me (actL l me z) ys) me y
    rw [act_comm l me z y]
    exact runL_cons me ys (actL l me z) y
theorem runL_reverse (me : Nat) (l : List Wd) : ∀ ys, runL me l ys.reverse = runL me l ys
  | [] => rfl
  | y :: ys => by rw [List.reverse_cons, runL_snoc, runL_reverse me l ys, runL_cons]
theorem runL_next (me : Nat) (l : List Wd) {ys : List Ac} {k : Nat} (h : k < ys.length) : runL me l (ys.take (k + 1)) = actL (runL me l (ys.take k)) me ys[k] := by
  rw [List.take_succ_eq_append_getElem h, runL_snoc]
theorem runL_len (me : Nat) : ∀ (ys : List Ac) (l : List Wd), (runL me l ys).length = l.length
  | [], _ => rfl
  | y :: ys, l => by rw [runL_cons, actL_len, runL_len me ys l]

/-- Two grants side by side. -/
structure TwS (w : World) (g q h s me N : Nat) (l k : List Wd) (V : World) : Prop where
  below : RowKit.Below w.heap.size w V
  g : GrAt V w.heap.size g q me l
  h : GrAt V w.heap.size h s me k
  ne : q ≠ s
  lg : l.length = N
  lh : k.length = N

section
variable {w V V' : World} {g q h s me N : Nat} {l k : List Wd}
theorem TwS.on (H : TwS w g q h s me N l k V) (hb : RowKit.Below V.heap.size V V') : TwS w g q h s me N l k V' :=
  ⟨H.below.trans (hb.mono H.below.size), H.g.on hb, H.h.on hb, H.ne, H.lg, H.lh⟩
theorem GrAt.not_row {b b' : Nat} {q' me' : Nat} {l' : List Wd} (h1 : GrAt V b g q me l) (h2 : GrAt V b' h q' me' l') : h ≠ q := fun e => by
  obtain ⟨cur, hc⟩ := h1.heap
  have := h2.box
  rw [e, hc] at this
  injection this with this
  injection this with _ this
  exact absurd this (by decide)
theorem TwS.gact (H : TwS w g q h s me N l k V) (y : Ac) (h1 : GrAt V' w.heap.size g q me (actL l me y)) (h2 : OnlyE V V' (fun b => b = q)) : TwS w g q h s me N (actL l me y) k V' :=
  ⟨H.below.trans (h2.below (fun b hb => by subst hb; exact H.g.qlt.1) H.below.size), h1, H.h.kept h2 (H.g.not_row H.h) (fun e => H.ne e.symm), H.ne, by rw [actL_len, H.lg], H.lh⟩
theorem TwS.hact (H : TwS w g q h s me N l k V) (y : Ac) (h1 : GrAt V' w.heap.size h s me (actL k me y)) (h2 : OnlyE V V' (fun b => b = s)) : TwS w g q h s me N l (actL k me y) V' :=
  ⟨H.below.trans (h2.below (fun b hb => by subst hb; exact H.h.qlt.1) H.below.size), H.g.kept h2 (H.h.not_row H.g) H.ne, h1, H.ne, H.lg, by rw [actL_len, H.lh]⟩
end

/-- An act in a box. -/
def ABox (p : Nat) (y : Ac) (V : World) : Prop := V.heap[p]? = some (.cells (encAc y).toArray 32 (0, 0))
section
variable {V V' : World} {p b g q me : Nat} {l : List Wd} {y : Ac}
theorem ABox.lt (h : ABox p y V) : p < V.heap.size := (Array.getElem?_eq_some_iff.1 h).1
theorem ABox.ne (h : ABox p y V) (hg : GrAt V b g q me l) : p ≠ q := fun e => by
  obtain ⟨cur, hc⟩ := hg.heap
  unfold ABox at h
  rw [e, hc] at h
  injection h with h
  injection h with _ h
  exact absurd h (by decide)
theorem ABox.only {D : Nat → Prop} (h : ABox p y V) (ho : OnlyE V V' D) (hp : ¬ D p) : ABox p y V' := (ho.same p h.lt hp).trans h
theorem ABox.on (h : ABox p y V) (hb : RowKit.Below V.heap.size V V') : ABox p y V' := (hb.block p h.lt).trans h
theorem ABox.c0 (h : ABox p y V) : V.cell? ⟨p, 0, none⟩ = some (.bool y.g) := cell_of_row V p 0 _ _ _ h
theorem ABox.c1 (h : ABox p y V) : V.cell? ⟨p, 1, none⟩ = some (.int .i64 y.P) := cell_of_row V p 1 _ _ _ h
theorem ABox.c2 (h : ABox p y V) : V.cell? ⟨p, 2, none⟩ = some (.int .u64 (y.u : Int)) := cell_of_row V p 2 _ _ _ h
end

/-- Two acts in boxes of their own. -/
theorem two_acts (wr : World) (y z : Ac) : RowKit.Below wr.heap.size wr ((wr.alloc (.cells #[.bool y.g, .int .i64 y.P, .int .u64 (y.u : Int)] 32)).alloc (.cells #[.bool z.g, .int .i64 z.P, .int .u64 (z.u : Int)] 32)).drew ∧
    ABox wr.heap.size y ((wr.alloc (.cells #[.bool y.g, .int .i64 y.P, .int .u64 (y.u : Int)] 32)).alloc (.cells #[.bool z.g, .int .i64 z.P, .int .u64 (z.u : Int)] 32)).drew ∧
    ABox (wr.heap.size + 1) z ((wr.alloc (.cells #[.bool y.g, .int .i64 y.P, .int .u64 (y.u : Int)] 32)).alloc (.cells #[.bool z.g, .int .i64 z.P, .int .u64 (z.u : Int)] 32)).drew := by
  have h1 := alloc_below wr (.cells #[.bool y.g, .int .i64 y.P, .int .u64 (y.u : Int)] 32)
  have h2 := alloc_below (wr.alloc (.cells #[.bool y.g, .int .i64 y.P, .int .u64 (y.u : Int)] 32)) (.cells #[.bool z.g, .int .i64 z.P, .int .u64 (z.u : Int)] 32)
  refine ⟨(h1.trans (h2.mono h1.size)).drew, ?_, alloc2_new wr _ _⟩
  exact (h2.block _ (by simp)).trans (heap_alloc_new wr _)

/-! The calls of one act: one that goes (the list is built for the call), one that tells. -/
section
variable {w : World} {base g q me : Nat} {l : List Wd}
theorem gone_act (h : GrAt w base g q me l) {y : Ac} (hg : y.g = true) : Calls Try.prog 11 #[gptr g, .slice (some ⟨w.heap.size, 0, none⟩) 1 1] (w.alloc (.cells #[.int .i64 y.P] 3)) fun e w' => e = .returned (.int .i64 (goneN l me y.P : Int)) ∧ GrAt w' base g q me (actL l me y) ∧ OnlyE w w' (fun b => b = q) := by
  have : actL l me y = goneL l me y.P := by unfold actL; rw [if_pos hg]
  rw [this]
  exact gone_one h y.P
theorem tell_act (h : GrAt w base g q me l) {y : Ac} (hg : y.g = false) : Calls Try.prog 13 #[gptr g, .int .i64 y.P, .int .u64 (y.u : Int)] w fun e w' => e = .returned (.bool (tellB l y.P y.u)) ∧ GrAt w' base g q me (actL l me y) ∧ OnlyE w w' (fun b => b = q) := by
  have : actL l me y = tellL l y.P y.u := by unfold actL; rw [hg]; rfl
  rw [this]
  exact tell_any h y.P y.u
end

end Go.Proofs.Ytenaoinkjdaoeaa
