/- Words for slices that the call owns, and for what string(..) reads of slices of bytes; rows joined. -/
import Derived.Test.YtmnjedpnhilndaaRows
import Derived.Test.YtmnjedpnhilndaaMem
import Derived.Test.YtmnjedpnhilndaaOpen
import Derived.Test.YtmnjedpnhilndaaStr
import Derived.WalkKit
import Derived.Lib.Hide
import Derived.WalkSpells
import Derived.WalkLawsBesides
namespace Go.Proofs.Ytmnjedpnhilndaa
open Go.RowKit

theorem Try.info5 : (Try.prog.info? 5).map (fun i => (i.zero, i.size, i.bytes)) = some (some (.int .u8 0), 1, 1) := by kernel_rfl

/-- A new slice of the call's own, that holds xs. -/
def Owned (w : World) (base : Nat) (xs : List Value) (e : Ending) (w' : World) : Prop :=
  ∃ A n c, e = .returned (.slice A n c) ∧ Hid (xs.length = n) ∧ n ≤ c ∧ c ≤ maxLen ∧ w'.ownsRow base 5 1 (.slice A n c) n xs ∧ Below base w w'

theorem Owned.of {w w' : World} {base : Nat} {xs : List Value} {v : Value} {n : Nat} (h : w'.ownsRow base 5 1 v n xs) (hb : Below base w w') : Owned w base xs (.returned v) w' := by
  obtain ⟨A, c, rfl, h1, h2⟩ := own_slice h
  exact ⟨A, n, c, rfl, own_len h, h1, h2, h, hb⟩

/-- What Put, and Rows, have made so far. -/
def PutRel (w : World) (xs : List Value) (v : Value) (wr : World) : Prop :=
  ∃ n, wr.ownsRow w.heap.size 5 1 v n xs ∧ Below w.heap.size w wr ∧ xs.length = n

theorem Owned.rel {w wr w' : World} {xs : List Value} {v : Value} (h : PutRel w xs v wr) {ys : List Value} {e : Ending} (ho : Owned wr w.heap.size ys e w') : ∃ A n c, e = .returned (.slice A n c) ∧ PutRel w ys (.slice A n c) w' := by
  obtain ⟨A, n, c, rfl, h0, _, _, h1, h2⟩ := ho
  obtain ⟨_, _, hb, _⟩ := h
  exact ⟨A, n, c, rfl, n, h1, hb.trans h2, h0.out⟩

theorem PutRel.below {w wr : World} {xs : List Value} {v : Value} (h : PutRel w xs v wr) : Below w.heap.size w wr := by
  obtain ⟨_, _, hb, _⟩ := h
  exact hb

theorem PutRel.owned {w wr : World} {xs : List Value} {v : Value} (h : PutRel w xs v wr) : Owned w w.heap.size xs (.returned v) wr := by
  obtain ⟨_, ho, hb, _⟩ := h
  exact Owned.of ho hb

theorem PutRel.of {w wr : World} {xs : List Value} {v : Value} {n : Nat} (h : wr.ownsRow w.heap.size 5 1 v n xs) (hb : Below w.heap.size w wr) : PutRel w xs v wr := ⟨n, h, hb, own_len h⟩

theorem Byt.below {w w' : World} {B : Nat} {v : Value} {l : List UInt8} (h : Byt w B v l) (hb : Below B w w') : Byt w' B v l := by
  obtain ⟨A, n, c, rfl, h1, h2, h3, h4⟩ := h
  exact ⟨A, n, c, rfl, h1, h2, h3, h4.below hb⟩

theorem below_of_grown {w w' : World} {B g : Nat} (h : w.grownBy w' (some g)) (hg : B ≤ g) (hB : B ≤ w.heap.size) : Below B w w' :=
  (Below.refl B w).grown h hB (fun k hk => by injection hk with hk; omega)

/-- string(b) gives such a string, wherever b lies. -/
def Strs (W : World) (A : Option Addr) (n : Nat) (l : List UInt8) : Prop := ∀ c, (convert 38 9 (.slice A n c)).run Try.prog W = .ok (.string (str l)) W

theorem strs_of {W : World} {A : Option Addr} {B n : Nat} {l : List UInt8} (hl : l.length = n) (h : Lies W B A (bvs l)) : Strs W A n l := fun c =>
  run_string_lst _ _ 5 Try.underlying38 Try.underlying5 Try.underlying9 A _ n c _ hl h

theorem Lies.later {w w' : World} {A : Option Addr} {xs : List Value} (h : Lies w w.heap.size A xs) (hb : Below w.heap.size w w') : Lies w' w'.heap.size A xs := (h.below hb).more hb.size
theorem Byt.later {w w' : World} {v : Value} {l : List UInt8} (h : Byt w w.heap.size v l) (hb : Below w.heap.size w w') : Byt w' w'.heap.size v l := by
  obtain ⟨A, n, c, rfl, h1, h2, h3, h4⟩ := h
  exact ⟨A, n, c, rfl, h1, h2, h3, h4.later hb⟩
theorem BytRows.later {w w' : World} {vs : List Value} {ls : List (List UInt8)} (h : BytRows w w.heap.size vs ls) (hb : Below w.heap.size w w') : BytRows w' w'.heap.size vs ls :=
  ⟨h.1, fun i h1 h2 => (h.2 i h1 h2).later hb⟩

/-- Put's and Rows' answer, as the next call wants it. -/
theorem Owned.use {w w' : World} {l : List UInt8} {e : Ending} (h : Owned w w.heap.size (bvs l) e w') : ∃ A n c, e = .returned (.slice A n c) ∧ Hid (l.length = n) ∧ Lies w' w'.heap.size A (bvs l) ∧ Below w.heap.size w w' := by
  obtain ⟨A, n, c, rfl, hn, _, _, ho, hb⟩ := h
  exact ⟨A, n, c, rfl, by have := hn.out; rw [bvs_length] at this; exact this, Lies.of_own ho, hb⟩

/-- string(..) of this slice gives these bytes in every world that has only grown. -/
def KeepS (w : World) (A : Option Addr) (n c : Nat) (l : List UInt8) : Prop := ∀ W : World, Below w.heap.size w W → (convert 38 9 (.slice A n c)).run Try.prog W = .ok (.string (str l)) W

theorem keepS_of {w : World} {A : Option Addr} {n c : Nat} {l : List UInt8} (hl : l.length = n) (h : Lies w w.heap.size A (bvs l)) : KeepS w A n c l := fun _ hb => strs_of hl (h.below hb) c

theorem keepS_later {w w' : World} {A : Option Addr} {n c : Nat} {l : List UInt8} (h : KeepS w A n c l) (hb : Below w.heap.size w w') : KeepS w' A n c l := fun W hW => h W (hb.trans (hW.mono hb.size))

theorem flatten_snoc (ls : List (List UInt8)) (k : Nat) (h : k < ls.length) : (ls.take (k + 1)).flatten = (ls.take k).flatten ++ ls[k] := by
  rw [List.take_succ_eq_append_getElem h, List.flatten_append, List.flatten_cons, List.flatten_nil, List.append_nil]

theorem flatten_len (ls : List (List UInt8)) {M : Nat} (h : ∀ x ∈ ls, x.length ≤ M) : ls.flatten.length ≤ M * ls.length := by
  induction ls with
  | nil => simp
  | cons x t ih =>
    have h1 := h x (by simp)
    have h2 := ih (fun y hy => h y (by simp [hy]))
    simp only [List.flatten_cons, List.length_append, List.length_cons]
    rw [Nat.mul_succ]; omega

theorem Lies.drew {w : World} {B : Nat} {A : Option Addr} {xs : List Value} (h : Lies w B A xs) : Lies w.drew B A xs := h

end Go.Proofs.Ytmnjedpnhilndaa
