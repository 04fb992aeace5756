/- Stage 11: a set and the document's row of flags side by side. -/
import Derived.Test.YtjkolneonhfjnaaDoorBsJ
set_option maxRecDepth 20000
namespace Go.Proofs.YtjkolneonhfjnaaDoor
open Go.RowKit Go.Sort

/-- A set of the call's own, and a row of flags that lies outside of it. -/
structure OneS (w : World) (p q : Nat) (m m2 : List Bool) (A : Option Addr) (n : Nat) (W : World) : Prop where
  below : RowKit.Below w.heap.size w W
  set : SetAt W p q m
  row : LiesX W (DS p q) A (bls m2)
  len : m.length = n
  len2 : m2.length = n
  hp : w.heap.size ≤ p
  hq : w.heap.size ≤ q

theorem own_outside {W' : World} {p q base : Nat} {m : List Bool} {A : Option Addr} {n c : Nat} (hp : p < base) (hq : q < base) (h : W'.ownsRow base 4 1 (.slice A n c) n (bls m)) : LiesX W' (DS p q) A (bls m) :=
  LiesX.of_own h fun b hb => by
    have := (h.lt b hb).1
    rintro (e | e) <;> omega

section
variable {w W W' : World} {p q : Nat} {m m2 : List Bool} {A : Option Addr} {n : Nat}

theorem OneS.start {w1 w2 : World} {c : Nat} (h1 : SetAt w1 p q m) (hp : w.heap.size ≤ p) (hq : w.heap.size ≤ q) (hb1 : RowKit.Below w.heap.size w w1) (hl : m.length = n)
    (h2 : OwnedF w1 w1.heap.size m A n c w2) : OneS w p q m m A n w2 := by
  obtain ⟨_, _, _, ho, hb⟩ := h2
  have hlt := h1.lt
  exact ⟨hb1.trans (hb.mono hb1.size), h1.on hb, own_outside hlt.1 hlt.2.1 ho, hl, hl, hp, hq⟩
theorem OneS.on (h : OneS w p q m m2 A n W) (hb : RowKit.Below W.heap.size W W') : OneS w p q m m2 A n W' :=
  ⟨h.below.trans (hb.mono h.below.size), h.set.on hb, h.row.kept (OnlyE.of_below hb), h.len, h.len2, h.hp, h.hq⟩
theorem OneS.tab (h : OneS w p q m m2 A n W) (hT : Tab w) : Tab W := hT.on h.below
theorem OneS.lies (h : OneS w p q m m2 A n W) : Lies W W.heap.size A (bls m2) := h.row.lies
/-- What was handed in lies outside of it. -/
theorem OneS.put (h : OneS w p q m m2 A n W) (A1 : Option Addr) (k c : Nat) (l : List Int) (hl : l.length = k) (hk : k ≤ 1000) (hA : LiesX W (DS p q) A1 (zvs l)) :
    Calls Tryd.prog 11 #[.pointer (some ⟨p, 0, none⟩), .slice A1 k c] W fun e W' => e = .returned (.int .i64 ((cntS (putS m l) - cntS m : Nat) : Int)) ∧ OneS w p q (putS m l) m2 A n W' ∧ OnlyE W W' (DS p q) :=
  (put_any h.set A1 k c l hl hk hA).mono fun _ _ ⟨e, hs, ho⟩ => ⟨e,
    ⟨h.below.trans (ho.below (B := w.heap.size) (by rintro k (e | e) <;> subst e; exact h.hp; exact h.hq) h.below.size), hs, h.row.kept ho, (putS_len m l).trans h.len, h.len2, h.hp, h.hq⟩, ho⟩
/-- The places of a list that was just built. -/
theorem OneS.new (h : OneS w p q m m2 A n W) (cs : Array Value) (t : TypeId) : LiesX (W.alloc (.cells cs t)) (DS p q) (some ⟨W.heap.size, 0, none⟩) cs.toList :=
  LiesX.of_new cs t (by have := h.set.lt; rintro (e | e) <;> omega)
theorem inS_addS {x : Int} (h : 0 ≤ x ∧ x < (m.length : Int)) : inS (addS m x) x = true := by
  obtain ⟨k, rfl⟩ := Int.eq_ofNat_of_zero_le h.1
  have hk : k < m.length := by omega
  rw [show inS (addS m ((k : Nat) : Int)) ((k : Nat) : Int) = (addS m ((k : Nat) : Int)).getD k false from inS_nat _ k, addS_at m _ k hk]
  simp
/-- The document's own Put: what it leaves, and whether it was new. -/
theorem OneS.ref (h : OneS w p q m m2 A n W) (hn : n ≤ 2000) (c : Nat) (x : Int) :
    Calls Tryd.prog 10 #[.slice A n c, .int .i64 x] W fun e W' => ∃ A' c', e = .returned (.tuple #[.slice A' n c', .int .i64 ((cntS (addS m2 x) - cntS m2 : Nat) : Int)]) ∧ OneS w p q m (addS m2 x) A' n W' := by
  by_cases hx : 0 ≤ x ∧ x < (m2.length : Int)
  · obtain ⟨k, rfl⟩ := Int.eq_ofNat_of_zero_le hx.1
    have hk : k < m2.length := by omega
    cases hv : m2.getD k false
    · refine (refPut_new (m := m2) A n c k h.len2 h.lies hn hk hv).mono ?_
      rintro e W' ⟨A', c', rfl, ho⟩
      obtain ⟨h1, h2, h3, h4, h5⟩ := ho
      have hlt := h.set.lt
      refine ⟨A', c', ?_, h.below.trans (h5.mono h.below.size), h.set.on h5, ?_, h.len, ?_, h.hp, h.hq⟩
      · have : cntS (addS m2 ((k : Nat) : Int)) - cntS m2 = 1 := by
          rw [show addS m2 ((k : Nat) : Int) = m2.set k true from addS_nat m2 k, cnt_new hk hv]; omega
        rw [this]; rfl
      · rw [show addS m2 ((k : Nat) : Int) = m2.set k true from addS_nat m2 k]
        exact own_outside hlt.1 hlt.2.1 h4
      · rw [addS_len]; exact h.len2
    · have e : addS m2 ((k : Nat) : Int) = m2 := by rw [show addS m2 ((k : Nat) : Int) = m2.set k true from addS_nat m2 k, set_old hv]
      refine (refPut_old (m := m2) A n c ((k : Nat) : Int) h.len2 h.lies (.inr (.inr ?_))).mono ?_
      · rw [show inS m2 ((k : Nat) : Int) = m2.getD k false from inS_nat m2 k]; exact hv
      · rintro e' W' ⟨rfl, rfl⟩
        rw [e, Nat.sub_self]
        exact ⟨A, c, rfl, h⟩
  · have e : addS m2 x = m2 := addS_out (by omega)
    refine (refPut_old (m := m2) A n c x h.len2 h.lies (by omega)).mono ?_
    rintro e' W' ⟨rfl, rfl⟩
    rw [e, Nat.sub_self]
    exact ⟨A, c, rfl, h⟩
end

theorem miss_lenM (m : List Bool) (f : Nat) (t : Int) : (missL m f t).length ≤ m.length := by
  unfold missL
  rw [List.length_take]
  exact Nat.le_trans (Nat.min_le_right _ _) (upTo_le m f _)

end Go.Proofs.YtjkolneonhfjnaaDoor
