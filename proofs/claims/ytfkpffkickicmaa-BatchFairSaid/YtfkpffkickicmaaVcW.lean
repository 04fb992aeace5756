/- Words for vectors: a slice of numbers, rows of such slices, new slices of the call's own; rows that have just been laid for a call. -/
import Derived.Test.YtfkpffkickicmaaRows
import Derived.Test.YtfkpffkickicmaaMem
import Derived.Test.YtfkpffkickicmaaOpen
import Derived.WalkKit
import Derived.Lib.Hide
import Derived.WalkSpells
import Derived.WalkLawsBesides
import Derived.Shelf.Abstract
namespace Go.Proofs.Ytfkpffkickicmaa
open Go.RowKit

theorem Try.infoU : (Try.prog.info? 40).map (fun i => (i.zero, i.size, i.bytes)) = some (some (.int .u64 0), 1, 8) := by kernel_rfl
theorem Try.infoV : (Try.prog.info? 22).map (fun i => (i.zero, i.size, i.bytes)) = some (some (.slice none 0 0), 1, 24) := by kernel_rfl

theorem uvs_length (l : List Nat) : (uvs l).length = l.length := List.length_map _
theorem uvs_append (a b : List Nat) : uvs (a ++ b) = uvs a ++ uvs b := List.map_append
theorem uvs_at {l : List Nat} {k : Nat} (h : k < l.length) : (uvs l)[k]? = some (.int .u64 (l[k] : Int)) := by simp [uvs, uv, h]
theorem uvs_one (l : List Nat) : ∀ u ∈ uvs l, u.oneCell' = true := by
  intro u hu
  simp only [uvs, List.mem_map] at hu
  obtain ⟨c, _, rfl⟩ := hu
  rfl

theorem Lies.later {w w' : World} {A : Option Addr} {xs : List Value} (h : Lies w w.heap.size A xs) (hb : Below w.heap.size w w') : Lies w' w'.heap.size A xs := (h.below hb).more hb.size

theorem lies_take {w : World} {B : Nat} {A : Option Addr} {xs : List Value} (h : Lies w B A xs) (m : Nat) : Lies w B A (xs.take m) := fun hn => by
  obtain ⟨b, off, e, hb, hc⟩ := h (by intro h0; rw [h0] at hn; simp at hn)
  refine ⟨b, off, e, hb, fun i u hu => hc i u ?_⟩
  rw [List.getElem?_take] at hu
  split at hu
  · exact hu
  · cases hu

theorem lies_drop {w : World} {B b off : Nat} {xs : List Value} (h : Lies w B (some ⟨b, off, none⟩) xs) (m : Nat) : Lies w B (some ⟨b, off + m, none⟩) (xs.drop m) := fun hn => by
  obtain ⟨b', off', e, hb, hc⟩ := h (by intro h0; rw [h0] at hn; simp at hn)
  injection e with e
  injection e with e1 e2
  subst e1 e2
  refine ⟨_, _, rfl, hb, fun i u hu => ?_⟩
  rw [List.getElem?_drop] at hu
  rw [Nat.add_assoc]
  exact hc _ u hu

/-- A value that is a slice of just these numbers, below block B. -/
def Vec (w : World) (B : Nat) (v : Value) (l : List Nat) : Prop := ∃ A n c, v = .slice A n c ∧ l.length = n ∧ n ≤ c ∧ c ≤ maxLen ∧ Lies w B A (uvs l)

theorem Vec.below {w w' : World} {B : Nat} {v : Value} {l : List Nat} (h : Vec w B v l) (hb : Below B w w') : Vec w' B v l := by
  obtain ⟨A, n, c, rfl, h1, h2, h3, h4⟩ := h
  exact ⟨A, n, c, rfl, h1, h2, h3, h4.below hb⟩

theorem Vec.later {w w' : World} {v : Value} {l : List Nat} (h : Vec w w.heap.size v l) (hb : Below w.heap.size w w') : Vec w' w'.heap.size v l := by
  obtain ⟨A, n, c, rfl, h1, h2, h3, h4⟩ := h
  exact ⟨A, n, c, rfl, h1, h2, h3, h4.later hb⟩

theorem Vec.more {w : World} {B B' : Nat} {v : Value} {l : List Nat} (h : Vec w B v l) (hB : B ≤ B') : Vec w B' v l := by
  obtain ⟨A, n, c, rfl, h1, h2, h3, h4⟩ := h
  exact ⟨A, n, c, rfl, h1, h2, h3, h4.more hB⟩

/-- A slice of rows of numbers: its cells, and of each what it reads as. -/
def VecRows (w : World) (B : Nat) (vs : List Value) (ls : List (List Nat)) : Prop := vs.length = ls.length ∧ ∀ i, (h : i < vs.length) → (h' : i < ls.length) → Vec w B vs[i] ls[i]

theorem VecRows.below {w w' : World} {B : Nat} {vs : List Value} {ls : List (List Nat)} (h : VecRows w B vs ls) (hb : Below B w w') : VecRows w' B vs ls :=
  ⟨h.1, fun i h1 h2 => (h.2 i h1 h2).below hb⟩
theorem VecRows.later {w w' : World} {vs : List Value} {ls : List (List Nat)} (h : VecRows w w.heap.size vs ls) (hb : Below w.heap.size w w') : VecRows w' w'.heap.size vs ls :=
  ⟨h.1, fun i h1 h2 => (h.2 i h1 h2).later hb⟩
theorem VecRows.drop {w : World} {B : Nat} {vs : List Value} {ls : List (List Nat)} (h : VecRows w B vs ls) (m : Nat) : VecRows w B (vs.drop m) (ls.drop m) :=
  ⟨by simp [h.1], fun i h1 h2 => by
    rw [List.getElem_drop, List.getElem_drop]
    exact h.2 _ _ _⟩
theorem VecRows.take {w : World} {B : Nat} {vs : List Value} {ls : List (List Nat)} (h : VecRows w B vs ls) (m : Nat) : VecRows w B (vs.take m) (ls.take m) :=
  ⟨by simp [h.1], fun i h1 h2 => by
    rw [List.getElem_take, List.getElem_take]
    exact h.2 _ _ _⟩
theorem VecRows.nil {w : World} {B : Nat} : VecRows w B [] [] := ⟨rfl, fun i h => absurd h (by simp)⟩
theorem VecRows.cons {w : World} {B : Nat} {v : Value} {l : List Nat} {vs : List Value} {ls : List (List Nat)} (h : Vec w B v l) (t : VecRows w B vs ls) : VecRows w B (v :: vs) (l :: ls) :=
  ⟨by simp [t.1], fun i h1 h2 => by
    rcases i with _ | i
    · exact h
    · exact t.2 i (by simpa using h1) (by simpa using h2)⟩
theorem VecRows.append {w : World} {B : Nat} {vs vs' : List Value} {ls ls' : List (List Nat)} (h : VecRows w B vs ls) (t : VecRows w B vs' ls') : VecRows w B (vs ++ vs') (ls ++ ls') := by
  refine ⟨by simp [h.1, t.1], fun i h1 h2 => ?_⟩
  by_cases hi : i < vs.length
  · rw [List.getElem_append_left hi, List.getElem_append_left (by rw [← h.1]; exact hi)]
    exact h.2 _ _ _
  · rw [List.getElem_append_right (by omega), List.getElem_append_right (by rw [← h.1]; omega)]
    have e : vs.length = ls.length := h.1
    have := t.2 (i - vs.length) (by simp at h1; omega) (by simp at h2; omega)
    simpa [e] using this

/-- A new slice of the call's own, that holds these numbers. -/
def OwnedV (w : World) (base : Nat) (l : List Nat) (e : Ending) (w' : World) : Prop :=
  ∃ A n c, e = .returned (.slice A n c) ∧ Hid (l.length = n) ∧ n ≤ c ∧ c ≤ maxLen ∧ w'.ownsRow base 40 1 (.slice A n c) n (uvs l) ∧ Below base w w'

theorem OwnedV.of {w w' : World} {base : Nat} {l : List Nat} {v : Value} {n : Nat} (h : w'.ownsRow base 40 1 v n (uvs l)) (hb : Below base w w') : OwnedV w base l (.returned v) w' := by
  obtain ⟨A, c, rfl, h1, h2⟩ := own_slice h
  exact ⟨A, n, c, rfl, by have := own_len h; rw [uvs_length] at this; exact this, h1, h2, h, hb⟩

/-- What a call that makes a vector answers, as the next call wants it. -/
theorem OwnedV.use {w w' : World} {l : List Nat} {e : Ending} (h : OwnedV w w.heap.size l e w') : ∃ A n c, e = .returned (.slice A n c) ∧ Hid (l.length = n) ∧ n ≤ c ∧ c ≤ maxLen ∧ Lies w' w'.heap.size A (uvs l) ∧ Below w.heap.size w w' := by
  obtain ⟨A, n, c, rfl, hn, h1, h2, ho, hb⟩ := h
  exact ⟨A, n, c, rfl, hn, h1, h2, Lies.of_own ho, hb⟩

/-- What has been made so far: numbers in memory of the call's own. -/
def Mk (w : World) (l : List Nat) (v : Value) (wr : World) : Prop := ∃ n, wr.ownsRow w.heap.size 40 1 v n (uvs l) ∧ Below w.heap.size w wr ∧ Hid (l.length = n)

theorem Mk.of {w wr : World} {l : List Nat} {v : Value} {n : Nat} (h : wr.ownsRow w.heap.size 40 1 v n (uvs l)) (hb : Below w.heap.size w wr) : Mk w l v wr :=
  ⟨n, h, hb, by have := own_len h; rw [uvs_length] at this; exact this⟩
theorem Mk.owned {w wr : World} {l : List Nat} {v : Value} (h : Mk w l v wr) : OwnedV w w.heap.size l (.returned v) wr := by
  obtain ⟨_, ho, hb, _⟩ := h
  exact OwnedV.of ho hb
theorem Mk.below {w wr : World} {l : List Nat} {v : Value} (h : Mk w l v wr) : Below w.heap.size w wr := by
  obtain ⟨_, _, hb, _⟩ := h
  exact hb

/-- append(owned, y). -/
theorem wpList_push {wb : World} {ops : Array Oper} {rest : List Oper} {o : Oper} {a : Act} {Q : Exit → Act → World → Prop} (hgd : o.guard = none) (s x : Operand)
    (ho : o.op = .call { callee := .builtin .append, args := #[s, x], argTypes := #[22, 22] }) (base n : Nat) (l : List Nat) (y : Nat) (v : Value) (hs : a.eval s = v) (hx : a.eval x = .slice (some ⟨wb.heap.size, 0, none⟩) 1 1)
    (hown : wb.ownsRow base 40 1 v n (uvs l)) (hn : n ≤ 1000) (hbase : base ≤ wb.heap.size)
    (h : ∀ v' w', w'.ownsRow base 40 1 v' (n + 1) (uvs (l ++ [y])) → Below base wb w' → wpList Try.prog ops Q rest (a.put o.dst v') w') :
    wpList Try.prog ops Q (o :: rest) a (wb.alloc (.cells #[.int .u64 (y : Int)] 40)) := by
  obtain ⟨i0, hi, hz0, hz1, hz2⟩ := info_parts Try.infoU
  refine wpList_append_lst hgd s x 22 ho base 40 i0 (.int .u64 0) 8 Try.underlying22 hi hz0 hz1 hz2 rfl v n (uvs l) hs (hown.alloc _) _ _ 1 1 [.int .u64 (y : Int)] hx rfl (lies_new wb #[.int .u64 (y : Int)] 40) (by simp [Value.oneCell']) (by unfold maxLen; omega) (by omega) (by simp; omega) ?_
  intro v' w' hown' _ hb' _
  refine h v' w' ?_ (((Below.refl base wb).alloc hbase _).trans hb')
  rw [uvs_append]
  exact hown'

/-- The rows of a list that has just been laid for a call. -/
theorem rows_laid {w : World} (t : TypeId) {cs : Array Value} {vs : List Value} {ls : List (List Nat)} (hv : cs.toList = vs) (h : VecRows w w.heap.size vs ls) :
    Lies (w.alloc (.cells cs t)) (w.alloc (.cells cs t)).heap.size (some ⟨w.heap.size, 0, none⟩) vs ∧ VecRows (w.alloc (.cells cs t)) (w.alloc (.cells cs t)).heap.size vs ls ∧ Below w.heap.size w (w.alloc (.cells cs t)) := by
  subst hv
  exact ⟨(lies_new w cs t).more (by simp), h.later ((Below.refl _ _).alloc (Nat.le_refl _) _), (Below.refl _ _).alloc (Nat.le_refl _) _⟩

theorem vec_lit (w : World) (t : TypeId) (cs : Array Value) (l : List Nat) (n : Nat) (he : cs.toList = uvs l) (hn : l.length = n) (hm : n ≤ 1000) :
    Vec (w.alloc (.cells cs t)) (w.alloc (.cells cs t)).heap.size (.slice (some ⟨w.heap.size, 0, none⟩) n n) l ∧ Below w.heap.size w (w.alloc (.cells cs t)) :=
  ⟨⟨_, _, _, rfl, hn, Nat.le_refl _, by unfold maxLen; omega, by rw [← he]; exact (lies_new w cs t).more (by simp)⟩, (Below.refl _ _).alloc (Nat.le_refl _) _⟩

/-- The number of a process. -/
def num (l : List Nat) (k : Nat) : Nat := l.getD k 0
theorem num_in {l : List Nat} {k : Nat} (h : k < l.length) : num l k = l[k] := by simp [num, h]
theorem num_out {l : List Nat} {k : Nat} (h : l.length ≤ k) : num l k = 0 := by unfold num; rw [List.getD_eq_getElem?_getD, List.getElem?_eq_none h]; rfl
theorem num_ext {a b : List Nat} (hl : a.length = b.length) (h : ∀ k, num a k = num b k) : a = b := by
  refine List.ext_getElem hl fun i h1 h2 => ?_
  rw [← num_in h1, ← num_in h2]
  exact h i

section
open Go.ChangeShapes Go.WideShapes Go.ChangeAt
variable {H : Type} {enc : TypeId × Value → H} {P : Program} {w : World} {base : Nat} {spare : Nat → Bool} {held : Bool}

theorem open_numRows {t e e' : TypeId} {fuel : Nat} {v : Value} {x : DataW H × List MemPlace} (ht : P.underlying t = some (.slice e)) (hc : P.cellsOf e = 1) (he : P.underlying e = some (.slice e')) (he' : P.underlying e' = some (.int .u64)) (hc' : P.cellsOf e' = 1)
    (h : DataW.trod enc P w base spare held fuel t [v] = some x) : ∃ ls vs A n c, v = .slice A n c ∧ vs.length = n ∧ n ≤ c ∧ c ≤ maxLen ∧ Lies w w.heap.size A vs ∧ VecRows w w.heap.size vs ls := by
  rcases Deep.open_slice1 ht hc h with ⟨hcs, _⟩ | ⟨a, len, cap, m, n, V, D, Pl, hcs, _, hl, hm, hmm, _, hx⟩
  · injection hcs with hcs
    subst hcs
    exact ⟨[], [], none, 0, 0, rfl, rfl, Nat.le_refl _, Nat.zero_le _, Lies.nil, rfl, by simp⟩
  · injection hcs with hcs
    subst hcs
    have hlm : len ≤ m := by rw [hmm]; split <;> omega
    obtain ⟨L, hL⟩ := Deep.choose_lt (α := List Nat) (n := len) (p := fun i l => Vec w w.heap.size (V i) l) (fun i hi => by
      obtain ⟨l, A, n, c, h1, h2, h3, h4, h5, _⟩ := open_nums he he' hc' (hx i (by omega)).2
      exact ⟨l, A, n, c, h1, h2, h3, h4, h5⟩)
    refine ⟨(List.range len).map L, (List.range len).map V, some a, len, cap, rfl, by simp, hl, hm, ?_, by simp, ?_⟩
    · intro hn
      have hp : 0 < len := by
        rcases Nat.eq_zero_or_pos len with h0 | h0
        · subst h0; simp at hn
        · exact h0
      have h0 := (hx 0 (by omega)).1
      obtain ⟨b, off, spot⟩ := a
      have hspot : spot = none := by simpa [Addr.add] using World.cell?_spot h0
      subst hspot
      refine ⟨b, off, rfl, ?_, fun i u hu => ?_⟩
      · have := World.block_lt_of_cell? w _ h0
        rwa [Go.Proofs.Ytfkpffkickicmaa.add_plain] at this
      · rw [List.getElem?_map, Option.map_eq_some_iff] at hu
        obtain ⟨j, hj, rfl⟩ := hu
        obtain ⟨hi, rfl⟩ := List.getElem?_eq_some_iff.1 hj
        have := (hx i (by simp at hi; omega)).1
        rw [Go.Proofs.Ytfkpffkickicmaa.add_plain] at this
        simpa using this
    · intro i h1 _
      have := hL i (by simpa using h1)
      simpa using this
end

end Go.Proofs.Ytfkpffkickicmaa
