/- Stage 13: what stands in GatherWhole's loop (the plain seat alone). -/
import Derived.Test.YthkongnjokmmfaaGaO
set_option maxRecDepth 20000
namespace Go.Proofs.Ythkongnjokmmfaa
open Go.ChangeShapes Go.WideShapes Go.ChangeAt Go.RowKit Go.Sort

/-- No parts: no ids. -/
theorem ids_empty {w : World} {base gp : Nat} {T : Value} {g : Gm} {D : Nat → Prop} (h : GtAt w base gp T [] g D) : Calls Try.prog 12 #[.pointer (some ⟨gp, 0, none⟩)] w fun e w' => e = .returned (.slice none 0 0) ∧ w = w' := by
  obtain ⟨A, c, rfl, hn, hc, -, -⟩ := h.slice
  have hall := all_any h
  clear h
  go_enter Try.func12, Try.ntmps12
  go_wp2_with (go_at_call 17; refine hall.mono ?_; rintro e w' ⟨rfl, rfl⟩)
  go_loopw [3, 5, 9] (fun s3 _ s9 w1 => s3 = .slice none 0 0 ∧ s9 = .int .i64 0 ∧ w1 = w) (fun _ _ _ _ => 0)
  case atStart => exact ⟨rfl, rfl, rfl⟩
  case round =>
    obtain ⟨rfl, rfl, rfl⟩ := hrel
    go_wp2
    go_ret
    exact ⟨rfl, rfl⟩

def bvz (has : List Bool) : Array Value := (has.map Value.bool).toArray

/-- The id's box, the row of what came (block hb), the gatherer (box gp), which holds a payload's chunks. -/
structure WhS (w : World) (gp hb : Nat) (x : Id) (p : List UInt8) (k i : Nat) (has : List Bool) (V : World) : Prop where
  below : RowKit.Below w.heap.size w V
  c0 : V.cell? ⟨w.heap.size, 0, none⟩ = some (.int .u8 (x.f : Int))
  c1 : V.cell? ⟨w.heap.size, 1, none⟩ = some (.int .u64 (x.s : Int))
  row : V.heap[hb]? = some (.cells (bvz has) 4 (0, 0))
  ids : w.heap.size < gp
  hbp : gp < hb
  len : has.length = cntN p.length k
  g : ∃ T L g D, GtAt V gp gp T L g D ∧ ¬ D hb ∧ g.weight ≤ 2 * i ∧ g.Ok ∧ (0 < has.count false → Whl g x p k has) ∧ (has.count false = 0 → g.l = [])
section
variable {w V V' : World} {gp hb : Nat} {x : Id} {p : List UInt8} {k i : Nat} {has : List Bool}
theorem WhS.only {X : Nat → Prop} (h : WhS w gp hb x p k i has V) (ho : OnlyE V V' X) (hX : ∀ b, X b → V.heap.size ≤ b) : WhS w gp hb x p k i has V' := by
  obtain ⟨T, L, g, D, k1, k2, k3, k4, k5, k6⟩ := h.g
  have hlt := k1.lt
  have hids := h.ids
  have hrl : hb < V.heap.size := (Array.getElem?_eq_some_iff.1 h.row).1
  have hnX : ∀ b, b < V.heap.size → ¬ X b := fun b hb e => by have := hX b e; omega
  exact
  { below := h.below.trans (ho.below (B := w.heap.size) (fun b hb => by have := hX b hb; have := h.below.size; omega) h.below.size)
    c0 := (ho.cell (by omega) (hnX _ (by omega))).trans h.c0
    c1 := (ho.cell (by omega) (hnX _ (by omega))).trans h.c1
    row := (ho.same hb hrl (hnX _ hrl)).trans h.row
    ids := h.ids, hbp := h.hbp, len := h.len
    g := ⟨T, L, g, D, k1.kept ho fun b hb => hnX b (k1.din b hb).2, k2, k3, k4, k5, k6⟩ }
theorem WhS.on (h : WhS w gp hb x p k i has V) (hb' : RowKit.Below V.heap.size V V') : WhS w gp hb x p k i has V' := h.only (X := fun _ => False) (OnlyE.of_below hb') fun _ h => h.elim
theorem count_set {l : List Bool} {a : Nat} (h : a < l.length) (hf : l.getD a false = false) : (l.set a true).count false + 1 = l.count false := by
  induction l generalizing a with
  | nil => simp at h
  | cons b r ih =>
    cases a with
    | zero =>
      have : b = false := by simpa using hf
      subst this
      simp
    | succ a =>
      rw [List.set_cons_succ, List.count_cons, List.count_cons]
      have := ih (by simpa using h) (by simpa using hf)
      omega
theorem count_all (l : List Bool) : (l.all fun b => b) = decide (l.count false = 0) := by
  rw [Bool.eq_iff_iff, List.all_eq_true, decide_eq_true_eq]
  constructor
  · intro h
    rw [List.count_eq_zero]
    intro hm
    have := h _ hm
    simp at this
  · intro h b hb
    rw [List.count_eq_zero] at h
    cases b with
    | true => rfl
    | false => exact absurd hb h
/-- A chunk came; it isn't noted in the row yet. The blocks from lo on, below hi, are the chunk's own. -/
structure WhT (w : World) (gp hb : Nat) (x : Id) (p : List UInt8) (k i : Nat) (has has' : List Bool) (vp : Value) (d : List UInt8) (lo hi : Nat) (V : World) : Prop where
  below : RowKit.Below w.heap.size w V
  c0 : V.cell? ⟨w.heap.size, 0, none⟩ = some (.int .u8 (x.f : Int))
  c1 : V.cell? ⟨w.heap.size, 1, none⟩ = some (.int .u64 (x.s : Int))
  row : V.heap[hb]? = some (.cells (bvz has) 4 (0, 0))
  ids : w.heap.size < gp
  hbp : gp < hb
  low : hb < lo
  len : has.length = cntN p.length k
  g : ∃ T L g D, GtAt V gp gp T L g D ∧ ¬ D hb ∧ g.weight ≤ 2 * i ∧ g.Ok ∧ (0 < has'.count false → Whl g x p k has') ∧ (has'.count false = 0 → g.l = []) ∧ Told V gp D vp d ∧ (∀ b, lo ≤ b → b < hi → ¬ D b)
theorem WhT.only {has' : List Bool} {vp : Value} {d : List UInt8} {lo hi : Nat} {X : Nat → Prop} (h : WhT w gp hb x p k i has has' vp d lo hi V) (ho : OnlyE V V' X) (hX : ∀ b, X b → lo ≤ b ∧ b < hi) : WhT w gp hb x p k i has has' vp d lo hi V' := by
  obtain ⟨T, L, g, D, k1, k2, k3, k4, k5, k6, k7, k8⟩ := h.g
  have hids := h.ids
  have hhb := h.hbp
  have hlow := h.low
  have hrl : hb < V.heap.size := (Array.getElem?_eq_some_iff.1 h.row).1
  have hnX : ∀ b, b < lo → ¬ X b := fun b hb e => by have := (hX b e).1; omega
  exact
  { below := h.below.trans (ho.below (B := w.heap.size) (fun b hb => by have := (hX b hb).1; omega) h.below.size)
    c0 := (ho.cell (by omega) (hnX _ (by omega))).trans h.c0
    c1 := (ho.cell (by omega) (hnX _ (by omega))).trans h.c1
    row := (ho.same hb hrl (hnX _ hlow)).trans h.row
    ids := h.ids, hbp := h.hbp, low := h.low, len := h.len
    g := ⟨T, L, g, D, k1.kept ho fun b hb e => k8 b (hX b e).1 (hX b e).2 hb, k2, k3, k4, k5, k6, by
      obtain ⟨A, n, c, e, h1, h2, h3, h4⟩ := k7
      exact ⟨A, n, c, e, h1, h2, h3, h4.kept (ho.mono fun b hb => .inr (k8 b (hX b hb).1 (hX b hb).2))⟩, k8⟩ }
/-- What is made of a chunk. -/
def madeW (has : List Bool) (a : Nat) : Nat := if has.getD a false = true then 2 else if (has.set a true).count false = 0 then 5 else 4
def toldW (p : List UInt8) (has : List Bool) (a : Nat) : List UInt8 := if madeW has a = 5 then p else []
theorem set_there {l : List Bool} {a : Nat} (h : l.getD a false = true) : l.set a true = l := by
  refine List.ext_getElem? fun j => ?_
  by_cases e : a = j
  · subst e
    rw [List.getD_eq_getElem?_getD] at h
    rcases hj : l[a]? with _ | b
    · rw [hj] at h; simp at h
    · rw [hj] at h
      have hlt := (List.getElem?_eq_some_iff.1 hj).1
      rw [List.getElem?_set_self hlt]
      simp at h
      rw [h]
  · rw [List.getElem?_set_ne e]
theorem wh_put {W2 : World} {y : Pf} {a : Nat} (h : WhS w gp hb x p k i has V) (hmay : mayB x = true) (hp : p.length ≤ 300) (ha : a < cntN p.length k) (hl : 0 < has.count false) (hi : i ≤ 1000) (hb2 : RowKit.Below V.heap.size V W2) (hy : y.F = frAt x p k (cntN p.length k) a) (hown : y.Own W2 V.heap.size) :
    Calls Try.prog 10 #[.pointer (some ⟨gp, 0, none⟩), .agg y.cs] W2 fun e w' => ∃ vp, e = .returned (.tuple #[vp, .int .u8 (madeW has a : Int)]) ∧ WhT w gp hb x p k (i + 1) has (has.set a true) vp (toldW p has a) V.heap.size W2.heap.size w' ∧ OnlyE W2 w' (fun b => b < V.heap.size) := by
  have h2 := h.on hb2
  obtain ⟨T, L, g, D, k1, k2, k3, k4, k5, k6⟩ := h.g
  have hrl : hb < V.heap.size := (Array.getElem?_eq_some_iff.1 h.row).1
  have hN := cntN_le p.length k
  have hput := put_new k1 k4 (by omega) hy hb2 hown (frAt_wf' x p k _ a (by omega) (by omega) ha) (d := toldW p has a) (mk := madeW has a) (by
    show (g.put (mayB x) _).2 = _
    rw [hmay]
    unfold toldW madeW
    by_cases hh : has.getD a false = true
    · rw [if_pos hh, if_neg (by decide), (k5 hl).old ha (by omega) hh]
    · rw [if_neg hh]
      have hf := (k5 hl).fresh ha (by omega) (by simpa using hh)
      by_cases hc : (has.set a true).count false = 0
      · rw [if_pos hc, if_pos rfl]
        exact (hf.1 (by rw [count_all]; exact decide_eq_true hc)).1
      · rw [if_neg hc, if_neg (by decide)]
        exact (hf.2 (by rw [count_all]; exact decide_eq_false hc)).1)
  have hstate : (0 < (has.set a true).count false → Whl (g.put (mayB x) (frAt x p k (cntN p.length k) a)).1 x p k (has.set a true)) ∧ ((has.set a true).count false = 0 → (g.put (mayB x) (frAt x p k (cntN p.length k) a)).1.l = []) := by
    rw [hmay]
    by_cases hh : has.getD a false = true
    · rw [set_there hh, (k5 hl).old ha (by omega) hh]
      refine ⟨fun _ => ?_, fun e => by omega⟩
      have hw := k5 hl
      exact ⟨hw.ok.counts (by rw [bump_len]; exact hw.ok.six), hw.chunk, hw.most, hw.len, hw.lack, hw.row⟩
    · have hf := (k5 hl).fresh ha (by omega) (by simpa using hh)
      exact ⟨fun hc => (hf.2 (by rw [count_all]; exact decide_eq_false (by omega))).2, fun hc => (hf.1 (by rw [count_all]; exact decide_eq_true hc)).2⟩
  have hwt := put_weight (g := g) (mayB x) (frAt x p k (cntN p.length k) a) k4.six
  have hok := k4.put (mayB x) (frAt x p k (cntN p.length k) a)
  refine hput.mono ?_
  rintro e w' ⟨T', L', D', vp, rfl, m1, m2, m3, m4, m5⟩
  have hD : ∀ b, D b → gp ≤ b := fun b hb => (k1.din b hb).1
  have hids := h.ids
  have hhb := h.hbp
  have hsz := hb2.size
  have hw0 : w.heap.size < V.heap.size := by omega
  refine ⟨vp, rfl, ?_, m2.mono fun b hb => (k1.din b hb).2⟩
  exact
  { below := h2.below.trans (m2.below (B := w.heap.size) (fun b hb => by have := hD b hb; omega) h2.below.size)
    c0 := (m2.cell (by omega) (fun e => by have := hD _ e; omega)).trans h2.c0
    c1 := (m2.cell (by omega) (fun e => by have := hD _ e; omega)).trans h2.c1
    row := (m2.same hb (by omega) k2).trans h2.row
    ids := h.ids, hbp := h.hbp, low := hrl, len := h.len
    g := ⟨T', L', _, D', m1, fun e => (m3 hb e).elim k2 fun e => by omega, by
      show Gm.weight (g.put (mayB x) (frAt x p k (cntN p.length k) a)).1 ≤ _
      omega, hok, hstate.1, hstate.2, m5, fun b h1 h2 e => (m3 b e).elim (fun e => by have := (k1.din b e).2; omega) fun e => by omega⟩ }
/-- What the loop over the chunk's own bytes holds: the frame's box fb, its data. -/
structure InS (w : World) (gp hb : Nat) (x : Id) (p : List UInt8) (k i : Nat) (has has' : List Bool) (vp : Value) (d : List UInt8) (lo hi fb : Nat) (y : Pf) (V : World) : Prop where
  t : WhT w gp hb x p k i has has' vp d lo hi V
  box : V.heap[fb]? = some (.cells y.cs 40 (0, 0))
  flo : lo ≤ fb
  data : ∃ xs, V.ownsRow lo 5 1 (.slice (y.p 4).1 y.F.data.length (y.p 4).2) y.F.data.length xs ∧ ∀ v ∈ xs, ∃ z, v = .int .u8 z
  dlt : ∀ b, (Value.slice (y.p 4).1 y.F.data.length (y.p 4).2).ownBlock = some b → lo ≤ b ∧ b < hi ∧ b ≠ fb
theorem InS.at_ {has' : List Bool} {vp : Value} {d : List UInt8} {lo hi fb : Nat} {y : Pf} (h : InS w gp hb x p k i has has' vp d lo hi fb y V) {j : Nat} (hj : j < y.F.data.length) :
    ∃ db z, (y.p 4).1 = some ⟨db, 0, none⟩ ∧ db < V.heap.size ∧ V.cell? ⟨db, j, none⟩ = some (.int .u8 z) ∧ V.frozen? ⟨db, j, none⟩ = false ∧ ∀ z', InS w gp hb x p k i has has' vp d lo hi fb y (V.setCell ⟨db, j, none⟩ (.int .u8 z')) := by
  obtain ⟨xs, ho, hx⟩ := h.data
  obtain ⟨db, c, hv, hb1, hlt⟩ := ho.form (by omega)
  have hA : (y.p 4).1 = some ⟨db, 0, none⟩ := by injection hv
  have hlen := ho.1
  have hjx : j < xs.length := by omega
  obtain ⟨z, hz⟩ := hx xs[j] (List.getElem_mem hjx)
  have hd := h.dlt db (by rw [hA]; rfl)
  have hown := ho
  rw [hA] at ho
  refine ⟨db, z, hA, hlt, ?_, ho.frozenAt j, fun z' => ?_⟩
  · rw [ho.cellAt _ (by omega), List.getElem?_eq_getElem hjx, hz]
  · have hO : OnlyE V (V.setCell ⟨db, j, none⟩ (.int .u8 z')) (fun b => b = db) := onlyE_set (D := fun b => b = db) rfl j _
    exact
    { t := h.t.only hO fun b hb => by subst hb; exact ⟨hd.1, hd.2.1⟩
      box := (hO.same fb (Array.getElem?_eq_some_iff.1 h.box).1 (fun e => hd.2.2 e.symm)).trans h.box
      flo := h.flo
      data := by
        rw [hA]
        refine ⟨xs.set j (.int .u8 z'), (ho.stored j (.int .u8 z')).1, fun v hv => ?_⟩
        rcases List.mem_or_eq_of_mem_set hv with hv | rfl
        · exact hx v hv
        · exact ⟨z', rfl⟩
      dlt := h.dlt }
theorem bvs_ints (l : List UInt8) : ∀ v ∈ bvs l, ∃ z, v = .int .u8 z := by
  intro v hv
  obtain ⟨b, -, rfl⟩ := List.mem_map.1 hv
  exact ⟨_, rfl⟩
theorem InS.start {has' : List Bool} {vp : Value} {d : List UInt8} {lo : Nat} {y : Pf} {w4 w5 w6 : World} (ht : WhT w gp hb x p k i has has' vp d lo w5.heap.size w6) (ho : OnlyE w5 w6 (fun b => b < lo)) (hl : lo ≤ w4.heap.size) (h5 : w5 = w4.alloc (.cells y.cs 40)) (hy : y.Own w4 lo) : InS w gp hb x p k i has has' vp d lo w5.heap.size w4.heap.size y w6 := by
  have hb45 : RowKit.Below w4.heap.size w4 w5 := by rw [h5]; exact (RowKit.Below.refl _ _).alloc (Nat.le_refl _) _
  have hs5 : w5.heap.size = w4.heap.size + 1 := by rw [h5]; simp
  have hrow : w5.heap[w4.heap.size]? = some (.cells y.cs 40 (0, 0)) := by rw [h5]; exact heap_alloc_new w4 (.cells y.cs 40 (0, 0))
  have hd := hy.2.2.2.2
  exact
  { t := ht
    box := (ho.same w4.heap.size (by omega) (by omega)).trans hrow
    flo := hl
    data := ⟨bvs y.F.data, own_only (own_below hd hb45) ho fun b hb e => by have := (hd.lt b hb).1; omega, bvs_ints _⟩
    dlt := fun b hb => by have := hd.lt b hb; omega }
theorem InS.c15 {has' : List Bool} {vp : Value} {d : List UInt8} {lo hi fb : Nat} {y : Pf} (h : InS w gp hb x p k i has has' vp d lo hi fb y V) : V.cell? ⟨fb, 15, none⟩ = some (.slice (y.p 4).1 y.F.data.length (y.p 4).2) := cell_of_row V fb 15 _ _ _ h.box
theorem WhT.was {has' : List Bool} {vp : Value} {d : List UInt8} {lo hi a : Nat} (h : WhT w gp hb x p k i has has' vp d lo hi V) (ha : a < has.length) : V.cell? ⟨hb, a, none⟩ = some (.bool (has.getD a false)) ∧ V.frozen? ⟨hb, a, none⟩ = false := by
  refine ⟨?_, frozen_of_row V hb a _ _ h.row⟩
  rw [cell_of_row V hb a _ _ _ h.row]
  unfold bvz
  rw [List.getElem?_toArray, List.getElem?_map, List.getElem?_eq_getElem ha, List.getD_eq_getElem?_getD, List.getElem?_eq_getElem ha]
  rfl
theorem wh_end (h : WhS w gp hb x p k i has V) (hc : has.count false = 0) : Calls Try.prog 11 #[.pointer (some ⟨gp, 0, none⟩)] V (fun e w' => e = .returned (.int .i64 0) ∧ V = w') ∧ Calls Try.prog 12 #[.pointer (some ⟨gp, 0, none⟩)] V (fun e w' => e = .returned (.slice none 0 0) ∧ V = w') := by
  obtain ⟨T, L, g, D, k1, k2, k3, k4, k5, k6⟩ := h.g
  have hl := k6 hc
  have hL : L = [] := by
    have := k1.gl
    rw [hl] at this
    exact (List.map_eq_nil_iff.1 this.symm)
  subst hL
  refine ⟨?_, ids_empty k1⟩
  have := used_any k1
  rw [hl] at this
  exact this
/-- It is noted. -/
theorem WhT.noted {vp : Value} {d : List UInt8} {lo hi a : Nat} (h : WhT w gp hb x p k i has (has.set a true) vp d lo hi V) : WhS w gp hb x p k i (has.set a true) (V.setCell ⟨hb, a, none⟩ (.bool true)) := by
  obtain ⟨T, L, g, D, k1, k2, k3, k4, k5, k6, k7, k8⟩ := h.g
  have hO : OnlyE V (V.setCell ⟨hb, a, none⟩ (.bool true)) (fun b => b = hb) := onlyE_set (D := fun b => b = hb) rfl a _
  have hids := h.ids
  have hhb := h.hbp
  have hrl : hb < V.heap.size := (Array.getElem?_eq_some_iff.1 h.row).1
  exact
  { below := h.below.trans (hO.below (B := w.heap.size) (fun b hb => by omega) h.below.size)
    c0 := (hO.cell (by omega) (by omega)).trans h.c0
    c1 := (hO.cell (by omega) (by omega)).trans h.c1
    row := by
      have := heap_setCell_same V hb a _ _ (.bool true) h.row
      rw [this]
      unfold bvz
      rw [List.setIfInBounds_toArray, List.map_set]
    ids := h.ids, hbp := h.hbp
    len := by rw [List.length_set]; exact h.len
    g := ⟨T, L, g, D, k1.kept hO fun b hb e => k2 (e ▸ hb), k2, k3, k4, k5, k6⟩ }
/-- It was noted. -/
theorem WhT.there {vp : Value} {d : List UInt8} {lo hi a : Nat} (h : WhT w gp hb x p k i has (has.set a true) vp d lo hi V) (ht : has.getD a false = true) : WhS w gp hb x p k i (has.set a true) V := by
  obtain ⟨T, L, g, D, k1, k2, k3, k4, k5, k6, -, -⟩ := h.g
  refine ⟨h.below, h.c0, h.c1, ?_, h.ids, h.hbp, by rw [List.length_set]; exact h.len, T, L, g, D, k1, k2, k3, k4, k5, k6⟩
  rw [set_there ht]
  exact h.row
end

section
variable {H : Type} {enc : TypeId × Value → H} {P : Program} {w : World} {base : Nat} {spare : Nat → Bool} {held : Bool}
def svs (l : List Nat) : List Value := l.map fun n : Nat => Value.int .u16 (n : Int)
theorem open_u16s {t e : TypeId} {fuel : Nat} {v : Value} {x : DataW H × List MemPlace} (ht : P.underlying t = some (.slice e)) (he : P.underlying e = some (.int .u16)) (hc : P.cellsOf e = 1)
    (h : DataW.trod enc P w base spare held fuel t [v] = some x) : ∃ l A n c, v = .slice A n c ∧ l.length = n ∧ n ≤ c ∧ c ≤ maxLen ∧ Lies w w.heap.size A (svs l) ∧ ∀ x ∈ l, x < 65536 := by
  rcases open_ints ht he hc h with ⟨hcs, _⟩ | ⟨a, len, cap, zs, hcs, _, hl, hm, hz, _, hcell, hwz⟩
  · injection hcs with hcs
    subst hcs
    exact ⟨[], none, 0, 0, rfl, rfl, Nat.le_refl _, Nat.zero_le _, Lies.nil, by simp⟩
  · injection hcs with hcs
    subst hcs
    have hlz : len ≤ zs.length := by rw [hz]; split <;> omega
    have e : (zs.take len).map (Value.int .u16) = svs ((zs.take len).map Int.toNat) := by
      unfold svs
      rw [List.map_map]
      refine List.map_congr_left fun z hz => ?_
      have := bounds_u16 (hwz z (List.mem_of_mem_take hz))
      simp only [Function.comp]
      congr 1
      omega
    refine ⟨(zs.take len).map Int.toNat, some a, len, cap, rfl, by simp; omega, hl, hm, ?_, ?_⟩
    · rw [← e]
      exact lies_ints hcell
    · intro x hx
      obtain ⟨z, hz, rfl⟩ := List.mem_map.1 hx
      have := bounds_u16 (hwz z (List.mem_of_mem_take hz))
      omega
end

end Go.Proofs.Ythkongnjokmmfaa
