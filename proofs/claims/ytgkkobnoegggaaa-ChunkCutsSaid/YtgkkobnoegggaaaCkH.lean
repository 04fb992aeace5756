/- Stage 12: a row of frames of the call's own that is made, and written frame by frame; the frames of all chunks, plain. -/
import Derived.Test.YtgkkobnoegggaaaCkG
set_option maxRecDepth 20000
namespace Go.Proofs.Ytgkkobnoegggaaa
open Go.RowKit Go.Sort

def zeroFr : Fr := ⟨0, 0, 0, zid, 0, 0, 0, 0, 0, 0, [], [], [], [], []⟩
def zeroP : Pf := ⟨zeroFr, fun _ => (none, 0)⟩
theorem zeroP_own (w : World) (base : Nat) : zeroP.Own w base := ⟨World.ownsRow_nil _ _ _ _, World.ownsRow_nil _ _ _ _, World.ownsRow_nil _ _ _ _, World.ownsRow_nil _ _ _ _, World.ownsRow_nil _ _ _ _⟩

theorem made_frames (m : Nat) : (madeCells zeroF (m * 16)).toList = flat encPf (List.replicate m zeroP) := by
  refine List.ext_getElem? fun j => ?_
  by_cases h : j < m * 16
  · obtain ⟨q, r, hr, rfl⟩ : ∃ q r, r < 16 ∧ j = q * 16 + r := ⟨j / 16, j % 16, by omega, by omega⟩
    have hi : q < (List.replicate m zeroP).length := by simp; omega
    rw [flat_at encPf_len _ q r hr hi, List.getElem_replicate]
    have hs : (q * 16 + r) % 16 = r := by omega
    simp only [madeCells, Array.toList_map, List.getElem?_map, Array.toList_range, List.getElem?_range h, Option.map_some]
    show some (zeroF[(q * 16 + r) % 16]!) = _
    rw [hs]
    rcases (show r = 0 ∨ r = 1 ∨ r = 2 ∨ r = 3 ∨ r = 4 ∨ r = 5 ∨ r = 6 ∨ r = 7 ∨ r = 8 ∨ r = 9 ∨ r = 10 ∨ r = 11 ∨ r = 12 ∨ r = 13 ∨ r = 14 ∨ r = 15 by omega) with rfl | rfl | rfl | rfl | rfl | rfl | rfl | rfl | rfl | rfl | rfl | rfl | rfl | rfl | rfl | rfl <;> rfl
  · rw [List.getElem?_eq_none (by simp [madeCells]; omega), List.getElem?_eq_none (by rw [flat_length encPf_len]; simp; omega)]

/-- Cells written one behind the other. -/
def setL : List Value → Nat → List Value → List Value
  | xs, _, [] => xs
  | xs, o, v :: r => setL (xs.set o v) (o + 1) r
theorem setL_at : ∀ (vs : List Value) (xs : List Value) (o i : Nat), o + vs.length ≤ xs.length → (setL xs o vs)[i]? = if o ≤ i ∧ i < o + vs.length then vs[i - o]? else xs[i]?
  | [], xs, o, i, _ => by
    rw [if_neg (by rw [List.length_nil]; omega)]; rfl
  | v :: r, xs, o, i, h => by
    rw [List.length_cons] at h
    show (setL (xs.set o v) (o + 1) r)[i]? = _
    rw [setL_at r (xs.set o v) (o + 1) i (by rw [List.length_set]; omega), List.length_cons]
    by_cases h1 : i = o
    · subst h1
      rw [if_neg (by omega), if_pos (by omega), Nat.sub_self, List.getElem?_set_self (by omega)]
      rfl
    · by_cases h2 : o + 1 ≤ i ∧ i < o + 1 + r.length
      · rw [if_pos h2, if_pos (by omega), show i - o = (i - (o + 1)) + 1 by omega, List.getElem?_cons_succ]
      · rw [if_neg h2, if_neg (by omega), List.getElem?_set_ne (by omega)]
theorem own_setL {base k g n c : Nat} {e : TypeId} : ∀ (vs : List Value) (o : Nat) (w : World) (xs : List Value), w.ownsRow base e k (.slice (some ⟨g, 0, none⟩) n c) n xs →
    (w.setCells g o vs).ownsRow base e k (.slice (some ⟨g, 0, none⟩) n c) n (setL xs o vs) ∧ OnlyE w (w.setCells g o vs) (fun b => b = g)
  | [], _, w, _, h => ⟨h, OnlyE.of_below (RowKit.Below.refl _ _)⟩
  | v :: r, o, w, xs, h => by
    obtain ⟨h1, -⟩ := h.stored o v
    obtain ⟨h3, h5⟩ := own_setL r (o + 1) _ _ h1
    exact ⟨h3, (OnlyE.of_grownO (h.stored o v).2 |>.mono fun b hb => by injection hb with hb; exact hb.symm).trans h5⟩
theorem flat_set (ys : List Pf) (j : Nat) (hj : j < ys.length) (y : Pf) : setL (flat encPf ys) (j * 16) (encPf y) = flat encPf (ys.set j y) := by
  refine List.ext_getElem? fun i => ?_
  have hl : (flat encPf ys).length = ys.length * 16 := flat_length encPf_len ys
  rw [setL_at _ _ _ _ (by rw [hl, encPf_len]; have : (j + 1) * 16 ≤ ys.length * 16 := Nat.mul_le_mul_right _ hj; omega), encPf_len]
  by_cases h : i < ys.length * 16
  · obtain ⟨q, r, hr, rfl⟩ : ∃ q r, r < 16 ∧ i = q * 16 + r := ⟨i / 16, i % 16, by omega, by omega⟩
    have hq : q < ys.length := by omega
    rw [flat_at encPf_len (ys.set j y) q r hr (by rw [List.length_set]; exact hq), List.getElem_set]
    by_cases e : j = q
    · subst e
      rw [if_pos (by omega), if_pos rfl, show j * 16 + r - j * 16 = r by omega]
    · rw [if_neg (by omega), if_neg e, flat_at encPf_len ys q r hr hq]
  · rw [if_neg (by omega), List.getElem?_eq_none (by omega), List.getElem?_eq_none (by rw [flat_length encPf_len, List.length_set]; omega)]
/-- A frame of the row is written. -/
theorem row_set {w : World} {base g n c : Nat} {ys : List Pf} (h : w.ownsRow base 42 16 (.slice (some ⟨g, 0, none⟩) n c) n (flat encPf ys)) {j : Nat} (hj : j < ys.length) (y : Pf) :
    (w.setCells g (j * 16) (encPf y)).ownsRow base 42 16 (.slice (some ⟨g, 0, none⟩) n c) n (flat encPf (ys.set j y)) ∧ OnlyE w (w.setCells g (j * 16) (encPf y)) (fun b => b = g) ∧ w.there g (j * 16) 16 := by
  obtain ⟨h1, h2⟩ := own_setL (encPf y) (j * 16) w _ h
  rw [flat_set ys j hj y] at h1
  refine ⟨h1, h2, fun i hi => ⟨?_, h.frozenAt _⟩⟩
  have hl : (flat encPf ys).length = ys.length * 16 := flat_length encPf_len ys
  have hn : ys.length * 16 = n * 16 := by have := h.1; omega
  have hji : (j + 1) * 16 ≤ ys.length * 16 := Nat.mul_le_mul_right _ hj
  rw [h.cellAt _ (by omega), List.getElem?_eq_getElem (by omega)]
  rfl

section
variable {ops : Array Oper} {rest : List Oper} {ty : TypeId} {pos : String} {aft : Array Edge} {a : Act} {w : World} {Q : Exit → Act → World → Prop}
/-- .. as an operation. -/
theorem store_elem (x y : Operand) {g j : Nat} {p : Pf} (hx : a.eval x = .pointer (some ⟨g, j * 16, none⟩)) (hy : a.eval y = .agg p.cs) (ht : w.there g (j * 16) 16)
    (h : wpList Try.prog ops Q rest (a.put none undef) (w.setCells g (j * 16) (encPf p))) : wpList Try.prog ops Q (⟨none, .store 42 x y, ty, pos, aft, none⟩ :: rest) a w :=
  wpList_store_mid rfl _ x y rfl g (j * 16) p.cs hx hy ht infoFr p.one h
end

/-! ### The frames of all chunks -/
def frAt (id : Id) (l : List UInt8) (k N i : Nat) : Fr := ⟨0, 0, 0, id, 0, i, N, l.length, 0, 0, [], [], [], [], chL l k i⟩
def allF (id : Id) (l : List UInt8) (k N : Nat) : List Fr := (List.range N).map (frAt id l k N)
theorem allF_len (id : Id) (l : List UInt8) (k N : Nat) : (allF id l k N).length = N := by simp [allF]
theorem allF_at (id : Id) (l : List UInt8) (k N i : Nat) (h : i < (allF id l k N).length) : (allF id l k N)[i] = frAt id l k N i := by simp [allF]

/-- The row when j frames are written. -/
def Filled (id : Id) (l : List UInt8) (k N j : Nat) (ys : List Pf) : Prop := ys.length = N ∧ ∀ i, (h : i < ys.length) → i < j → ys[i].F = frAt id l k N i
theorem Filled.start (id : Id) (l : List UInt8) (k N : Nat) : Filled id l k N 0 (List.replicate N zeroP) := ⟨by simp, fun i _ h => absurd h (by omega)⟩
theorem Filled.next {id : Id} {l : List UInt8} {k N j : Nat} {ys : List Pf} (h : Filled id l k N j ys) {y : Pf} (hy : y.F = frAt id l k N j) : Filled id l k N (j + 1) (ys.set j y) := by
  refine ⟨by simp [h.1], fun i hi hij => ?_⟩
  rw [List.getElem_set]
  by_cases e : j = i
  · subst e
    rw [if_pos rfl]
    exact hy
  · rw [if_neg e]
    exact h.2 i (by simpa using hi) (by omega)
theorem Filled.done {id : Id} {l : List UInt8} {k N : Nat} {ys : List Pf} (h : Filled id l k N N ys) : ys.map Pf.F = allF id l k N := by
  refine List.ext_getElem (by rw [List.length_map, allF_len, h.1]) fun i h1 h2 => ?_
  rw [List.getElem_map, allF_at]
  exact h.2 i _ (by rw [allF_len] at h2; exact h2)

/-- The frame of a chunk, and where its bytes lie. -/
def chP (id : Id) (l : List UInt8) (k N j : Nat) (A : Option Addr) (c : Nat) : Pf := ⟨frAt id l k N j, fun i => match i with | 4 => (A, c) | _ => (none, 0)⟩
theorem chP_own {w : World} {base : Nat} (id : Id) {l : List UInt8} {k : Nat} (N : Nat) {j : Nat} {A : Option Addr} {c : Nat} (h : w.ownsRow base 5 1 (.slice A (chL l k j).length c) (chL l k j).length (bvs (chL l k j))) : (chP id l k N j A c).Own w base :=
  ⟨World.ownsRow_nil _ _ _ _, World.ownsRow_nil _ _ _ _, World.ownsRow_nil _ _ _ _, World.ownsRow_nil _ _ _ _, h⟩

def idCells (id : Id) : Array Value := #[.int .u8 (id.f : Int), .int .u64 (id.s : Int)]
/-- How All's memory stands when j frames are written: w at the call's entry, w1 behind the box. -/
structure AllS (w w1 : World) (id : Id) (l : List UInt8) (k N j : Nat) (ys : List Pf) (W : World) : Prop where
  below : RowKit.Below w.heap.size w W
  box : W.heap[w.heap.size]? = some (.cells (idCells id) 28 (0, 0))
  row : W.ownsRow w.heap.size 42 16 (.slice (some ⟨w1.heap.size, 0, none⟩) N N) N (flat encPf ys)
  own : ∀ y ∈ ys, y.Own W (w1.heap.size + 1)
  fill : Filled id l k N j ys
  lt : w.heap.size < w1.heap.size
  size : w1.heap.size + 1 ≤ W.heap.size
section
variable {w w1 W W' : World} {id : Id} {l : List UInt8} {k N j : Nat} {ys : List Pf}
theorem AllS.on (h : AllS w w1 id l k N j ys W) (hb : RowKit.Below W.heap.size W W') : AllS w w1 id l k N j ys W' :=
  { below := h.below.trans (hb.mono h.below.size)
    box := (hb.block _ (by have := h.lt; have := h.size; omega)).trans h.box
    row := own_below h.row hb
    own := fun y hy => (h.own y hy).on hb
    fill := h.fill, lt := h.lt, size := Nat.le_trans h.size hb.size }
theorem AllS.c0 (h : AllS w w1 id l k N j ys W) : W.cell? ⟨w.heap.size, 0, none⟩ = some (.int .u8 (id.f : Int)) := cell_of_row W _ 0 _ _ _ h.box
theorem AllS.c1 (h : AllS w w1 id l k N j ys W) : W.cell? ⟨w.heap.size, 1, none⟩ = some (.int .u64 (id.s : Int)) := cell_of_row W _ 1 _ _ _ h.box
theorem AllS.set (h : AllS w w1 id l k N j ys W) (hj : j < N) {A : Option Addr} {c : Nat} (hd : W.ownsRow (w1.heap.size + 1) 5 1 (.slice A (chL l k j).length c) (chL l k j).length (bvs (chL l k j))) :
    AllS w w1 id l k N (j + 1) (ys.set j (chP id l k N j A c)) (W.setCells w1.heap.size (j * 16) (encPf (chP id l k N j A c))) ∧ W.there w1.heap.size (j * 16) 16 := by
  have hjy : j < ys.length := by rw [h.fill.1]; exact hj
  obtain ⟨r1, r2, r3⟩ := row_set h.row hjy (chP id l k N j A c)
  have hlt := h.lt
  have hsz := h.size
  refine ⟨⟨h.below.trans (r2.below (fun q hq => by subst hq; omega) h.below.size), ?_, r1, ?_, h.fill.next rfl, hlt, Nat.le_trans hsz r2.size⟩, r3⟩
  · exact (r2.same _ (by omega) (by omega)).trans h.box
  · intro y hy
    have key : ∀ y : Pf, y.Own W (w1.heap.size + 1) → y.Own (W.setCells w1.heap.size (j * 16) (encPf (chP id l k N j A c))) (w1.heap.size + 1) := fun y hy => hy.only r2 fun q hq => by subst hq; omega
    rcases List.mem_or_eq_of_mem_set hy with h1 | h1
    · exact key y (h.own y h1)
    · rw [h1]; exact key _ (chP_own id N hd)
end

/-- What All answers. -/
def FrsOut (w : World) (Fs : List Fr) (e : Ending) (w' : World) : Prop := ∃ A n c, e = .returned (.slice A n c) ∧ Hid (Fs.length = n) ∧ FrsOwn w' w.heap.size Fs (.slice A n c) ∧ RowKit.Below w.heap.size w w'
theorem AllS.done {w w1 W : World} {id : Id} {l : List UInt8} {k N : Nat} {ys : List Pf} (h : AllS w w1 id l k N N ys W) : FrsOut w (allF id l k N) (.returned (.slice (some ⟨w1.heap.size, 0, none⟩) N N)) W := by
  have hlt := h.lt
  refine ⟨_, _, _, rfl, allF_len id l k N, ⟨ys, h.fill.done, ?_, fun y hy => (h.own y hy).base (by omega)⟩, h.below⟩
  rw [allF_len]
  exact h.row

end Go.Proofs.Ytgkkobnoegggaaa
