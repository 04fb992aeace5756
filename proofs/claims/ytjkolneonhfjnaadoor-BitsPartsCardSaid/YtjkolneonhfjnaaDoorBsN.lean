/- Stage 11: two sets side by side. -/
import Derived.Test.YtjkolneonhfjnaaDoorBsJ
set_option maxRecDepth 20000
namespace Go.Proofs.YtjkolneonhfjnaaDoor
open Go.RowKit Go.Sort

/-- Two sets of the call's own. -/
structure TwoS (w : World) (p q p2 q2 : Nat) (m1 m2 : List Bool) (W : World) : Prop where
  below : RowKit.Below w.heap.size w W
  a : SetAt W p q m1
  b : SetAt W p2 q2 m2
  hp : w.heap.size ≤ p
  hq : w.heap.size ≤ q
  hp2 : w.heap.size ≤ p2
  hq2 : w.heap.size ≤ q2
  ne : p2 ≠ p ∧ p2 ≠ q ∧ q2 ≠ p ∧ q2 ≠ q

section
variable {w W W' : World} {p q p2 q2 : Nat} {m1 m2 : List Bool}

theorem TwoS.start {w1 w2 : World} (h1 : SetAt w1 p q m1) (hp : w.heap.size ≤ p) (hq : w.heap.size ≤ q) (hb1 : RowKit.Below w.heap.size w w1)
    (h2 : SetAt w2 p2 q2 m2) (hp2 : w1.heap.size ≤ p2) (hq2 : w1.heap.size ≤ q2) (hb2 : RowKit.Below w1.heap.size w1 w2) : TwoS w p q p2 q2 m1 m2 w2 := by
  have hlt := h1.lt
  have hs := hb1.size
  exact ⟨hb1.trans (hb2.mono hb1.size), h1.on hb2, h2, hp, hq, by omega, by omega, by omega⟩
theorem TwoS.on (h : TwoS w p q p2 q2 m1 m2 W) (hb : RowKit.Below W.heap.size W W') : TwoS w p q p2 q2 m1 m2 W' :=
  ⟨h.below.trans (hb.mono h.below.size), h.a.on hb, h.b.on hb, h.hp, h.hq, h.hp2, h.hq2, h.ne⟩
theorem TwoS.tab (h : TwoS w p q p2 q2 m1 m2 W) (hT : Tab w) : Tab W := hT.on h.below
theorem TwoS.one (h : TwoS w p q p2 q2 m1 m2 W) {m : List Bool} (hs : SetAt W' p q m) (ho : OnlyE W W' (DS p q)) : TwoS w p q p2 q2 m m2 W' :=
  ⟨h.below.trans (ho.below (B := w.heap.size) (by rintro k (e | e) <;> subst e; exact h.hp; exact h.hq) h.below.size), hs,
    h.b.kept ho (by rintro (e | e); exact h.ne.1 e; exact h.ne.2.1 e) (by rintro (e | e); exact h.ne.2.2.1 e; exact h.ne.2.2.2 e), h.hp, h.hq, h.hp2, h.hq2, h.ne⟩
theorem TwoS.two (h : TwoS w p q p2 q2 m1 m2 W) {m : List Bool} (hs : SetAt W' p2 q2 m) (ho : OnlyE W W' (DS p2 q2)) : TwoS w p q p2 q2 m1 m W' :=
  ⟨h.below.trans (ho.below (B := w.heap.size) (by rintro k (e | e) <;> subst e; exact h.hp2; exact h.hq2) h.below.size),
    h.a.kept ho (by rintro (e | e); exact h.ne.1 e.symm; exact h.ne.2.2.1 e.symm) (by rintro (e | e); exact h.ne.2.1 e.symm; exact h.ne.2.2.2 e.symm), hs, h.hp, h.hq, h.hp2, h.hq2, h.ne⟩
/-- What was handed in lies outside of both. -/
theorem TwoS.argA (h : TwoS w p q p2 q2 m1 m2 W) {A : Option Addr} {xs : List Value} (hL : Lies w w.heap.size A xs) : LiesX W (DS p q) A xs :=
  LiesX.of_lies (hL.below h.below) h.below.size (by rintro k (e | e) <;> subst e; exact h.hp; exact h.hq)
theorem TwoS.argB (h : TwoS w p q p2 q2 m1 m2 W) {A : Option Addr} {xs : List Value} (hL : Lies w w.heap.size A xs) : LiesX W (DS p2 q2) A xs :=
  LiesX.of_lies (hL.below h.below) h.below.size (by rintro k (e | e) <;> subst e; exact h.hp2; exact h.hq2)
theorem TwoS.put1 (h : TwoS w p q p2 q2 m1 m2 W) (A : Option Addr) (n c : Nat) (l : List Int) (hl : l.length = n) (hn : n ≤ 1000) (hA : LiesX W (DS p q) A (zvs l)) :
    Calls Tryd.prog 11 #[.pointer (some ⟨p, 0, none⟩), .slice A n c] W fun e W' => e = .returned (.int .i64 ((cntS (putS m1 l) - cntS m1 : Nat) : Int)) ∧ TwoS w p q p2 q2 (putS m1 l) m2 W' :=
  (put_any h.a A n c l hl hn hA).mono fun _ _ ⟨e, hs, ho⟩ => ⟨e, h.one hs ho⟩
theorem TwoS.put2 (h : TwoS w p q p2 q2 m1 m2 W) (A : Option Addr) (n c : Nat) (l : List Int) (hl : l.length = n) (hn : n ≤ 1000) (hA : LiesX W (DS p2 q2) A (zvs l)) :
    Calls Tryd.prog 11 #[.pointer (some ⟨p2, 0, none⟩), .slice A n c] W fun e W' => e = .returned (.int .i64 ((cntS (putS m2 l) - cntS m2 : Nat) : Int)) ∧ TwoS w p q p2 q2 m1 (putS m2 l) W' ∧ OnlyE W W' (DS p2 q2) :=
  (put_any h.b A n c l hl hn hA).mono fun _ _ ⟨e, hs, ho⟩ => ⟨e, h.two hs ho, ho⟩
/-- The places of a list that was just built. -/
theorem TwoS.new2 (h : TwoS w p q p2 q2 m1 m2 W) (cs : Array Value) (t : TypeId) : LiesX (W.alloc (.cells cs t)) (DS p2 q2) (some ⟨W.heap.size, 0, none⟩) cs.toList :=
  LiesX.of_new cs t (by have := h.b.lt; rintro (e | e) <;> omega)
end

theorem miss_len (m : List Bool) (f : Nat) : (missL m f 2000).length ≤ 2000 := by
  unfold missL
  rw [List.length_take]
  exact Nat.min_le_left _ _

end Go.Proofs.YtjkolneonhfjnaaDoor
