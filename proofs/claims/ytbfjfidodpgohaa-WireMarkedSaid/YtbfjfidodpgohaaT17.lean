/- The reader as one who is shown a frame's fields: ids, vectors. -/
import Derived.Test.YtbfjfidodpgohaaT16
import Derived.OwnWalk

namespace Go.Proofs.Ytbfjfidodpgohaa
open Go.RowKit Go.Sort

theorem row_setOther {w : World} {q b : Nat} {o : Obj} (h : w.heap[q]? = some o) (hne : b ≠ q) (i : Nat) (u : Value) : (w.setCell ⟨b, i, none⟩ u).heap[q]? = some o := by
  rw [← h]
  simp [World.setCell, Array.getElem?_modify, hne]

theorem RdI.set {base hi gr : Nat} {s : Rs} {w : World} (h : RdI base hi gr s w) {q : Nat} (hq : hi ≤ q) (i : Nat) (u : Value) : RdI base hi gr s (w.setCell ⟨q, i, none⟩ u) :=
  ⟨h.1.below ((RowKit.Below.refl _ _).setCell (p := ⟨q, i, none⟩) hq u), h.2⟩
theorem Read.set {base hi gr : Nat} {s : Rs} {w w' : World} (h : Read base hi gr w s w') {q : Nat} (hq : w.heap.size ≤ q) (hhi : hi ≤ w.heap.size) (i : Nat) (u : Value) : Read base hi gr w s (w'.setCell ⟨q, i, none⟩ u) :=
  ⟨h.1.set (Nat.le_trans hhi hq) i u, h.2.setNew hq i u⟩

theorem rN_top (s : Rs) : (rN top s).1 < 18446744073709551616 := by
  have h := (rN_le top s).1
  have e : top = 18446744073709551615 := rfl
  generalize (rN top s).1 = x at h ⊢
  omega
theorem rN_255 (s : Rs) : (rN 255 s).1 < 256 := by have := (rN_le 255 s).1; omega

/-- An id as it is read. -/
def rId (s : Rs) : Id × Rs := (⟨(rN 255 s).1, (rN top (rN 255 s).2).1, rN_255 s, rN_top _⟩, (rN top (rN 255 s).2).2)

set_option maxRecDepth 100000 in
set_option maxHeartbeats 800000 in
theorem rdId_any {base hi gr : Nat} {s : Rs} (y : Id) (w : World) (h : RdI base hi gr s w) :
    Calls Try.prog 78 #[.agg #[.pointer (some ⟨gr, 0, none⟩)], .agg #[.int .u8 (y.f : Int), .int .u64 (y.s : Int)]] w fun e w' => e = .returned (.agg #[.int .u8 ((rId s).1.f : Int), .int .u64 ((rId s).1.s : Int)]) ∧ Read base hi gr w (rId s).2 w' := by
  have H := Lib.hid h
  have hgr : gr < w.heap.size := Nat.lt_of_lt_of_le h.1.lt.2.1 h.1.lt.2.2
  have hhi : hi ≤ w.heap.size := h.1.lt.2.2
  have HF : Hid (∀ W, RdI base hi gr s W → Calls Try.prog 84 #[.agg #[.pointer (some ⟨gr, 0, none⟩)]] W fun e w' => e = .returned (.int .u8 ((rId s).1.f : Int)) ∧ Read base hi gr W (rN 255 s).2 w') := fun W h => rdFrom_any W h
  have HN : Hid (∀ W, RdI base hi gr (rN 255 s).2 W → Calls Try.prog 79 #[.agg #[.pointer (some ⟨gr, 0, none⟩)], .int .u64 (y.s : Int)] W fun e w' => e = .returned (.int .u64 ((rId s).1.s : Int)) ∧ Read base hi gr W (rId s).2 w') := fun W h => rdNumber_any y.s W h
  generalize rId s = r at HF HN ⊢
  clear h
  go_enter Try.func78, Try.ntmps78
  go_wp2_with fail
  generalize hw0 : World.alloc (World.alloc (World.alloc w _) _) _ = w0
  obtain ⟨hs0, hB0, ha0, hx0, hr0⟩ := boxes3 _ _ _ _ _ hw0
  clear hw0
  refine (HF.out w0 (H.out.below hB0)).mono ?_
  rintro e w1 ⟨rfl, hR1⟩
  have ha1 := (hR1.2.2 _ (by omega) (by show w.heap.size ≠ gr; omega)).trans ha0
  have hx1 := (hR1.2.2 _ (by omega) (by show w.heap.size + 1 ≠ gr; omega)).trans hx0
  have hr1 := (hR1.2.2 _ (by omega) (by show w.heap.size + 2 ≠ gr; omega)).trans hr0
  have hR1' := hR1.behind hB0
  have p0 := cell_of_row w1 _ 0 _ _ _ ha1
  have x0 := cell_of_row w1 _ 0 _ _ _ hx1
  have x1 := cell_of_row w1 _ 1 _ _ _ hx1
  have fx := row_frozen hx1
  simp only [List.getElem?_toArray, List.getElem?_cons_zero, List.getElem?_cons_succ] at p0 x0 x1
  have HR1 := Lib.hid hR1'
  have HA1 := Lib.hid ha1
  have HX1 := Lib.hid hx1
  have HRR1 := Lib.hid hr1
  clear ha1 hx1 hr1 hR1 hR1' ha0 hx0 hr0
  go_wp2_with fail
  have hR2 := HR1.out.set (q := w.heap.size + 1) (by omega) hhi 0 (.int .u8 (r.1.f : Int))
  have hA2 := row_setOther (b := w.heap.size + 1) HA1.out (by omega) 0 (.int .u8 (r.1.f : Int))
  have hX2 := heap_setCell_row HX1.out 0 (.int .u8 (r.1.f : Int))
  have hRR2 := row_setOther (b := w.heap.size + 1) HRR1.out (by omega) 0 (.int .u8 (r.1.f : Int))
  have hs2 : (w1.setCell ⟨w.heap.size + 1, 0, none⟩ (.int .u8 (r.1.f : Int))).heap.size = w1.heap.size := by simp [World.setCell]
  have hs1 : w0.heap.size ≤ w1.heap.size := by have := HRR1.out; have := (Array.getElem?_eq_some_iff.1 this).1; omega
  clear p0 x0 x1 fx HR1 HA1 HX1 HRR1
  generalize w1.setCell ⟨w.heap.size + 1, 0, none⟩ (.int .u8 (r.1.f : Int)) = W2 at hR2 hA2 hX2 hRR2 hs2 ⊢
  refine (HN.out W2 hR2.1).mono ?_
  rintro e w3 ⟨rfl, hR3⟩
  have hx3 := (hR3.2.2 _ (by omega) (by show w.heap.size + 1 ≠ gr; omega)).trans hX2
  have hr3 := (hR3.2.2 _ (by omega) (by show w.heap.size + 2 ≠ gr; omega)).trans hRR2
  have x0 := cell_of_row w3 _ 0 _ _ _ hx3
  have x1 := cell_of_row w3 _ 1 _ _ _ hx3
  have fx := row_frozen hx3
  have r0 := cell_of_row w3 _ 0 _ _ _ hr3
  have r1 := cell_of_row w3 _ 1 _ _ _ hr3
  have fr := row_frozen hr3
  simp only [List.setIfInBounds_toArray, List.set_cons_zero, List.getElem?_toArray, List.getElem?_cons_zero, List.getElem?_cons_succ] at x0 x1 r0 r1
  have HR3 := Lib.hid (hR2.trans hR3)
  have HRR3 := Lib.hid hr3
  clear hR3 hx3 hr3 hR2 hA2 hX2 hRR2
  go_wp2
  refine bodyPost_ret (results_cell_row rfl _ _ _ _ _ _ _ rfl (heap_setCell_row (heap_setCell_row (row_setOther (b := w.heap.size + 1) HRR3.out (by omega) 1 _) 0 _) 1 _) Try.underlying28 rfl (by kernel_rfl)) rfl ?_
  exact ⟨rfl, ((HR3.out.set (by omega) hhi 1 _).set (by omega) hhi 0 _).set (by omega) hhi 1 _⟩

/-- Numbers as they are read, k of them. -/
def rVec : Nat → Rs → List Nat × Rs
  | 0, s => ([], s)
  | k + 1, s => ((rVec k s).1 ++ [(rN top (rVec k s).2).1], (rN top (rVec k s).2).2)

theorem rVec_len (k : Nat) (s : Rs) : (rVec k s).1.length = k := by
  induction k with
  | zero => rfl
  | succ k ih => simp [rVec, ih]
theorem rVec_lt (k : Nat) (s : Rs) : ∀ y ∈ (rVec k s).1, y < 18446744073709551616 := by
  induction k with
  | zero => intro y hy; cases hy
  | succ k ih =>
    intro y hy
    rcases List.mem_append.1 hy with h | h
    · exact ih y h
    · rw [List.mem_singleton.1 h]; exact rN_top _

theorem set_fill {α : Type} (l : List α) (z x : α) (k n : Nat) (hl : l.length = k) (hk : k < n) : (l ++ List.replicate (n - k) z).set k x = (l ++ [x]) ++ List.replicate (n - (k + 1)) z := by
  obtain ⟨m, hm⟩ : ∃ m, n - k = m + 1 := ⟨n - k - 1, by omega⟩
  have e : n - (k + 1) = m := by omega
  rw [hm, e, List.replicate_succ, List.set_append_right _ _ (by omega), hl]
  simp

/-- What the reading of numbers has made so far: its box, its slice, the reader. -/
def VecAt (base hi gr : Nat) (w : World) (g n : Nat) (s : Rs) (k : Nat) (W : World) : Prop :=
  w.heap.size < g ∧ W.heap[w.heap.size]? = some (.cells #[.pointer (some ⟨gr, 0, none⟩)] 52 (0, 0)) ∧ W.ownsRow g 26 1 (.slice (some ⟨g, 0, none⟩) n n) n (uvs ((rVec k s).1 ++ List.replicate (n - k) 0)) ∧ Read base hi gr w (rVec k s).2 W

def VecGot (base hi gr : Nat) (w : World) (n : Nat) (s : Rs) (e : Ending) (w' : World) : Prop := ∃ g, e = .returned (.slice (some ⟨g, 0, none⟩) n n) ∧ VecAt base hi gr w g n s n w'

theorem made_nums (m : Nat) : (madeCells #[Value.int .u64 0] m).toList = uvs (List.replicate m 0) := by
  simp only [madeCells, Array.toList_map, Array.toList_range, uvs, List.map_replicate]
  rw [List.eq_replicate_iff]
  constructor
  · simp
  · intro b hb
    obtain ⟨i, _, rfl⟩ := List.mem_map.1 hb
    have : i % (#[Value.int .u64 0] : Array Value).size = 0 := by show i % 1 = 0; omega
    rw [this]
    rfl

set_option maxRecDepth 100000 in
set_option maxHeartbeats 800000 in
theorem rdVector_any {base hi gr : Nat} {s : Rs} (A : Option Addr) (m c : Nat) (w : World) (h : RdI base hi gr s w) :
    Calls Try.prog 81 #[.agg #[.pointer (some ⟨gr, 0, none⟩)], .slice A m c] w (VecGot base hi gr w (rN 64 s).1 (rN 64 s).2) := by
  obtain ⟨i0, hi0, hz0, hz1, hz2⟩ := info_parts Try.infoU
  have hgr : gr < w.heap.size := Nat.lt_of_lt_of_le h.1.lt.2.1 h.1.lt.2.2
  have hhi : hi ≤ w.heap.size := h.1.lt.2.2
  have hB : RowKit.Below w.heap.size w (w.alloc (.cells #[.pointer (some ⟨gr, 0, none⟩)] 52)) := (RowKit.Below.refl _ _).alloc (Nat.le_refl _) _
  have HN := Lib.hid (rdNum_any 64 _ (h.below hB))
  have HB := Lib.hid hB
  have HR : Hid (∀ n k W, RdI base hi gr (rVec k (rN 64 s).2).2 W → Calls Try.prog 79 #[.agg #[.pointer (some ⟨gr, 0, none⟩)], .int .u64 (n : Nat)] W fun e w' => e = .returned (.int .u64 ((rN top (rVec k (rN 64 s).2).2).1 : Int)) ∧ Read base hi gr W (rVec (k + 1) (rN 64 s).2).2 w') := fun n k W h => rdNumber_any n W h
  have hn := (rN_le 64 s).1
  generalize hrr : rN 64 s = r at HN hn HR ⊢
  clear hrr hB h
  obtain ⟨n, s1⟩ := r
  dsimp only at hn HN HR ⊢
  go_enter Try.func81, Try.ntmps81
  go_wp2_with fail
  refine HN.out.mono ?_
  rintro e w1 ⟨rfl, hR1⟩
  have hs1 := HB.out.size
  have ha1 : w1.heap[w.heap.size]? = some (.cells #[.pointer (some ⟨gr, 0, none⟩)] 52 (0, 0)) := (hR1.2.2 _ (by simp) (by show w.heap.size ≠ gr; omega)).trans (heap_alloc_new _ _)
  have hlt1 := (Array.getElem?_eq_some_iff.1 ha1).1
  have HR1 := Lib.hid (hR1.behind HB.out)
  have HA1 := Lib.hid ha1
  clear ha1 hR1
  go_wp2_with (at_make; refine wpList_make_full w1 rfl (.tmp 10) (.tmp 10) 31 rfl w1.heap.size 26 i0 (.int .u64 0) 1 Try.underlying31 hi0 hz0 hz1 .u64 .u64 _ _ n rfl rfl rfl rfl ?a3 ?a4 (Nat.le_refl _) ?_)
  case a3 => rw [hz2]; omega
  case a4 => unfold maxLen; omega
  intro w2 hown2 hg2
  have hb2 : RowKit.Below w1.heap.size w1 w2 := (RowKit.Below.refl _ _).grown hg2 (Nat.le_refl _) (fun q hq => by cases hq)
  rw [made_nums] at hown2
  have HV0 : Hid (VecAt base hi gr w w1.heap.size n s1 0 w2) := ⟨hlt1, (hb2.block _ hlt1).trans HA1.out, hown2, ⟨HR1.out.1.below hb2, HR1.out.2.trans (OnlyE.of_below hb2)⟩⟩
  clear hown2 hg2 hb2
  generalize w1.heap.size = g at HV0 hlt1 ⊢
  go_wp2
  go_loopw [14] (fun i wr => ∃ (k : Nat), k ≤ n ∧ i = .int .i64 k ∧ VecAt base hi gr w g n s1 k wr) (fun i _ => n - (intOf i).toNat)
  case atStart => exact ⟨0, Nat.zero_le _, rfl, HV0.out⟩
  case round =>
    obtain ⟨k, hk, rfl, hV⟩ := hrel
    by_cases hlt : k < n
    · have HV := Lib.hid hV
      obtain ⟨-, ha, hown, hR⟩ := hV
      have hkl : k < (uvs ((rVec k s1).1 ++ List.replicate (n - k) 0)).length := by rw [uvs_length, List.length_append, rVec_len]; simp; omega
      have o0 : ∃ z : Nat, wr.cell? ⟨g, k, none⟩ = some (.int .u64 (z : Int)) := by
        rw [uvs_length] at hkl
        exact ⟨_, (hown.cellAt k (by omega)).trans (uvs_at hkl)⟩
      obtain ⟨z, o0⟩ := o0
      have f0 := hown.frozenAt k
      have p0 := cell_of_row wr _ 0 _ _ _ ha
      simp only [List.getElem?_toArray, List.getElem?_cons_zero] at p0
      have HR' : Hid (RdI base hi gr (rVec k s1).2 wr) := hR.1
      clear ha hown hR hkl
      go_wp2_with fail
      refine (HR.out z k wr HR'.out).mono ?_
      rintro e w3 ⟨rfl, hR3⟩
      obtain ⟨hlg, ha, hown, hR⟩ := HV.out
      have hgs := (hown.lt g rfl).2
      have hna := (hR3.2.2 _ (by omega) (by show w.heap.size ≠ gr; omega)).trans ha
      have hgn : w3.heap[g]? = wr.heap[g]? := hR3.2.2 g hgs (by show g ≠ gr; omega)
      have hown3 : w3.ownsRow g 26 1 (.slice (some ⟨g, 0, none⟩) n n) n (uvs ((rVec k s1).1 ++ List.replicate (n - k) 0)) := by
        refine ⟨hown.1, ?_⟩
        rcases hown.2 with ⟨hv, _⟩ | ⟨g', cap, cur, hv, h1, h2, h3⟩
        · cases hv
        · have eg : g = g' := by injection hv with hv; injection hv with hv; injection hv
          subst eg
          exact .inr ⟨g, cap, cur, hv, h1, hgn.trans h2, h3⟩
      have f3 := hown3.frozenAt k
      have o3 : w3.cell? ⟨g, k, none⟩ = some (.int .u64 (z : Int)) := (World.cell?_of_block (w := wr) hgn).trans o0
      have hst := (hown3.stored k (.int .u64 ((rN top (rVec k s1).2).1 : Int))).1
      have HST : Hid (VecAt base hi gr w g n s1 (k + 1) (w3.setCell ⟨g, k, none⟩ (.int .u64 ((rN top (rVec k s1).2).1 : Int)))) := by
        refine ⟨hlg, row_setOther hna (by omega) _ _, ?_, (hR.trans hR3).set (by omega) hhi _ _⟩
        have e : uvs ((rVec (k + 1) s1).1 ++ List.replicate (n - (k + 1)) 0) = (uvs ((rVec k s1).1 ++ List.replicate (n - k) 0)).set k (.int .u64 ((rN top (rVec k s1).2).1 : Int)) := by
          have := set_fill (rVec k s1).1 0 (rN top (rVec k s1).2).1 k n (rVec_len k s1) hlt
          show uvs (((rVec k s1).1 ++ [(rN top (rVec k s1).2).1]) ++ List.replicate (n - (k + 1)) 0) = _
          rw [← this]
          simp [uvs, uv, List.map_set]
        rw [e]
        exact hst
      clear hst hown3 hown hR hna hgn ha hR3 HR' o0 f0 p0 hlg
      generalize (rN top (rVec k s1).2).1 = y at HST
      go_wp2
      go_roundw
      case rel => exact ⟨k + 1, by omega, by go_num, HST.out⟩
      case measure => simp [intOf]; omega
    · have hkn : k = n := by omega
      subst hkn
      have HV := Lib.hid hV
      clear hV hlt
      go_wp2
      go_ret
      exact ⟨g, rfl, HV.out⟩

end Go.Proofs.Ytbfjfidodpgohaa

/- The reader as one who is shown a frame's fields: runs; all of it. -/
namespace Go.Proofs.Ytbfjfidodpgohaa
open Go.RowKit Go.Sort

def zeroRn : Rn := ⟨0, 0, 0, by decide, by decide, by decide⟩

theorem made_runs (m : Nat) : (madeCells #[.int .u8 0, .int .u64 0, .int .u64 0] (m * 3)).toList = flat encRn (List.replicate m zeroRn) := by
  refine List.ext_getElem? fun j => ?_
  by_cases h : j < m * 3
  · obtain ⟨q, r, hr, rfl⟩ : ∃ q r, r < 3 ∧ j = q * 3 + r := ⟨j / 3, j % 3, by omega, by omega⟩
    have hi : q < (List.replicate m zeroRn).length := by simp; omega
    rw [flat_at encRn_len _ q r hr hi, List.getElem_replicate]
    have hs : (q * 3 + r) % 3 = r := by omega
    simp only [madeCells, Array.toList_map, List.getElem?_map, Array.toList_range, List.getElem?_range h, Option.map_some]
    show some ((#[Value.int .u8 0, .int .u64 0, .int .u64 0])[(q * 3 + r) % 3]!) = _
    rw [hs]
    rcases (show r = 0 ∨ r = 1 ∨ r = 2 by omega) with rfl | rfl | rfl <;> rfl
  · rw [List.getElem?_eq_none (by simp [madeCells]; omega), List.getElem?_eq_none (by rw [flat_length encRn_len]; simp; omega)]

theorem made_runs' (z : Array Value) (hz : z = #[.int .u8 0, .int .u64 0, .int .u64 0]) (m : Nat) : (madeCells z (m * 3)).toList = flat encRn (List.replicate m zeroRn) := by
  subst hz
  exact made_runs m

/-- A run as it is read. -/
def rRun (s : Rs) : Rn × Rs := (⟨(rN 255 s).1, (rN top (rN 255 s).2).1, (rN top (rN top (rN 255 s).2).2).1, rN_255 s, rN_top _, rN_top _⟩, (rN top (rN top (rN 255 s).2).2).2)

/-- Runs as they are read, k of them. -/
def rRuns : Nat → Rs → List Rn × Rs
  | 0, s => ([], s)
  | k + 1, s => ((rRuns k s).1 ++ [(rRun (rRuns k s).2).1], (rRun (rRuns k s).2).2)

theorem rRuns_len (k : Nat) (s : Rs) : (rRuns k s).1.length = k := by
  induction k with
  | zero => rfl
  | succ k ih => simp [rRuns, ih]

/-- What the reading of runs has made so far: its box, its slice, the reader. -/
def RunsAt (base hi gr : Nat) (w : World) (g n : Nat) (s : Rs) (k : Nat) (W : World) : Prop :=
  w.heap.size < g ∧ W.heap[w.heap.size]? = some (.cells #[.pointer (some ⟨gr, 0, none⟩)] 52 (0, 0)) ∧ W.ownsRow g 102 3 (.slice (some ⟨g, 0, none⟩) n n) n (flat encRn ((rRuns k s).1 ++ List.replicate (n - k) zeroRn)) ∧ Read base hi gr w (rRuns k s).2 W
def RunsGot (base hi gr : Nat) (w : World) (n : Nat) (s : Rs) (e : Ending) (w' : World) : Prop := ∃ g, e = .returned (.slice (some ⟨g, 0, none⟩) n n) ∧ RunsAt base hi gr w g n s n w'

/-- Within a round: the reader's box, the run's box, the slice, the reader. -/
structure Mid (base hi gr : Nat) (w : World) (g q : Nat) (wr : World) (bx : Array Value) (t : Rs) (W : World) : Prop where
  box : W.heap[w.heap.size]? = some (.cells #[.pointer (some ⟨gr, 0, none⟩)] 52 (0, 0))
  run : W.heap[q]? = some (.cells bx 102 (0, 0))
  own : W.heap[g]? = wr.heap[g]?
  read : Read base hi gr w t W
  ord : gr < w.heap.size ∧ w.heap.size < g ∧ g < q

theorem Mid.on {base hi gr g q : Nat} {w wr W W' : World} {bx : Array Value} {t t' : Rs} (h : Mid base hi gr w g q wr bx t W) (hr : Read base hi gr W t' W') : Mid base hi gr w g q wr bx t' W' := by
  have hq := (Array.getElem?_eq_some_iff.1 h.run).1
  have ho := h.ord
  exact ⟨(hr.2.2 _ (by omega) (by show w.heap.size ≠ gr; omega)).trans h.box, (hr.2.2 _ hq (by show q ≠ gr; omega)).trans h.run, (hr.2.2 _ (by omega) (by show g ≠ gr; omega)).trans h.own, h.read.trans hr, ho⟩

theorem Mid.set {base hi gr g q : Nat} {w wr W : World} {bx : Array Value} {t : Rs} (h : Mid base hi gr w g q wr bx t W) (hhi : hi ≤ w.heap.size) (i : Nat) (u : Value) : Mid base hi gr w g q wr (bx.setIfInBounds i u) t (W.setCell ⟨q, i, none⟩ u) := by
  have ho := h.ord
  refine ⟨row_setOther h.box (by omega) i u, heap_setCell_row h.run i u, ?_, h.read.set (by omega) hhi i u, ho⟩
  rw [← h.own]
  have : q ≠ g := by omega
  simp [World.setCell, Array.getElem?_modify, this]

theorem Mid.facts {base hi gr g q : Nat} {w wr W : World} {v0 v1 v2 : Value} {t : Rs} (h : Mid base hi gr w g q wr #[v0, v1, v2] t W) :
    W.cell? ⟨w.heap.size, 0, none⟩ = some (.pointer (some ⟨gr, 0, none⟩)) ∧ W.cell? ⟨q, 0, none⟩ = some v0 ∧ W.cell? ⟨q, 1, none⟩ = some v1 ∧ W.cell? ⟨q, 2, none⟩ = some v2 ∧ ∀ i, W.frozen? ⟨q, i, none⟩ = false :=
  ⟨cell_of_row W _ 0 _ _ _ h.box, cell_of_row W _ 0 _ _ _ h.run, cell_of_row W _ 1 _ _ _ h.run, cell_of_row W _ 2 _ _ _ h.run, row_frozen h.run⟩

theorem Mid.done {base hi gr g q n k : Nat} {w wr W : World} {bx : Array Value} {s : Rs} (hlg : w.heap.size < g) (hown : wr.ownsRow g 102 3 (.slice (some ⟨g, 0, none⟩) n n) n (flat encRn ((rRuns k s).1 ++ List.replicate (n - k) zeroRn)))
    (h : Mid base hi gr w g q wr bx (rRun (rRuns k s).2).2 W) (hk : k < n) (hhi : hi ≤ w.heap.size) :
    (∀ j, W.frozen? ⟨g, j, none⟩ = false) ∧ (∀ j, j < n * 3 → ∃ u, W.cell? ⟨g, j, none⟩ = some u) ∧
    RunsAt base hi gr w g n s (k + 1) (((W.setCell ⟨g, k * 3, none⟩ (.int .u8 ((rRun (rRuns k s).2).1.f : Int))).setCell ⟨g, k * 3 + 1, none⟩ (.int .u64 ((rRun (rRuns k s).2).1.a : Int))).setCell ⟨g, k * 3 + 2, none⟩ (.int .u64 ((rRun (rRuns k s).2).1.c : Int))) := by
  have hown3 : W.ownsRow g 102 3 (.slice (some ⟨g, 0, none⟩) n n) n (flat encRn ((rRuns k s).1 ++ List.replicate (n - k) zeroRn)) := by
    refine ⟨hown.1, ?_⟩
    rcases hown.2 with ⟨hv, _⟩ | ⟨g', cap, cur, hv, h1, h2, h3⟩
    · cases hv
    · have eg : g = g' := by injection hv with hv; injection hv with hv; injection hv
      subst eg
      exact .inr ⟨g, cap, cur, hv, h1, h.own.trans h2, h3⟩
  have ho := h.ord
  refine ⟨hown3.frozenAt, fun j hj => ?_, hlg, row_setOther (row_setOther (row_setOther h.box (by omega) _ _) (by omega) _ _) (by omega) _ _, ?_, ((h.read.set (by omega) hhi _ _).set (by omega) hhi _ _).set (by omega) hhi _ _⟩
  · rw [hown3.cellAt j hj]
    have hl := hown3.1
    exact ⟨_, List.getElem?_eq_getElem (by omega)⟩
  · have s2 := (((hown3.stored (k * 3) (.int .u8 ((rRun (rRuns k s).2).1.f : Int))).1.stored (k * 3 + 1) (.int .u64 ((rRun (rRuns k s).2).1.a : Int))).1.stored (k * 3 + 2) (.int .u64 ((rRun (rRuns k s).2).1.c : Int))).1
    rw [rns_set _ _ _ (by rw [List.length_append, rRuns_len]; simp; omega), set_fill _ _ _ k n (rRuns_len k s) hk] at s2
    exact s2

set_option maxRecDepth 100000 in
set_option maxHeartbeats 1600000 in
theorem rdRuns_any {base hi gr : Nat} {s : Rs} (A : Option Addr) (m c : Nat) (w : World) (h : RdI base hi gr s w) :
    Calls Try.prog 80 #[.agg #[.pointer (some ⟨gr, 0, none⟩)], .slice A m c] w (RunsGot base hi gr w (rN 64 s).1 (rN 64 s).2) := by
  obtain ⟨i0, hi0, hz0, hz1, hz2⟩ := info_parts Try.infoRun
  have hgr : gr < w.heap.size := Nat.lt_of_lt_of_le h.1.lt.2.1 h.1.lt.2.2
  have hhi : hi ≤ w.heap.size := h.1.lt.2.2
  have hB : RowKit.Below w.heap.size w (w.alloc (.cells #[.pointer (some ⟨gr, 0, none⟩)] 52)) := (RowKit.Below.refl _ _).alloc (Nat.le_refl _) _
  have HN := Lib.hid (rdNum_any 64 _ (h.below hB))
  have HB := Lib.hid hB
  have hn := (rN_le 64 s).1
  generalize hrr : rN 64 s = r at HN hn ⊢
  clear hrr hB h
  obtain ⟨n, s1⟩ := r
  dsimp only at hn HN ⊢
  have HF : Hid (∀ k W, RdI base hi gr (rRuns k s1).2 W → Calls Try.prog 84 #[.agg #[.pointer (some ⟨gr, 0, none⟩)]] W fun e w' => e = .returned (.int .u8 ((rRun (rRuns k s1).2).1.f : Int)) ∧ Read base hi gr W (rN 255 (rRuns k s1).2).2 w') := fun k W h => rdFrom_any W h
  have HA : Hid (∀ (y : Nat) k W, RdI base hi gr (rN 255 (rRuns k s1).2).2 W → Calls Try.prog 79 #[.agg #[.pointer (some ⟨gr, 0, none⟩)], .int .u64 (y : Int)] W fun e w' => e = .returned (.int .u64 ((rRun (rRuns k s1).2).1.a : Int)) ∧ Read base hi gr W (rN top (rN 255 (rRuns k s1).2).2).2 w') := fun y k W h => rdNumber_any y W h
  have HC : Hid (∀ (y : Nat) k W, RdI base hi gr (rN top (rN 255 (rRuns k s1).2).2).2 W → Calls Try.prog 79 #[.agg #[.pointer (some ⟨gr, 0, none⟩)], .int .u64 (y : Int)] W fun e w' => e = .returned (.int .u64 ((rRun (rRuns k s1).2).1.c : Int)) ∧ Read base hi gr W (rRun (rRuns k s1).2).2 w') := fun y k W h => rdNumber_any y W h
  go_enter Try.func80, Try.ntmps80
  go_wp2_with fail
  refine HN.out.mono ?_
  rintro e w1 ⟨rfl, hR1⟩
  have hs1 := HB.out.size
  have ha1 : w1.heap[w.heap.size]? = some (.cells #[.pointer (some ⟨gr, 0, none⟩)] 52 (0, 0)) := (hR1.2.2 _ (by simp) (by show w.heap.size ≠ gr; omega)).trans (heap_alloc_new _ _)
  have hlt1 := (Array.getElem?_eq_some_iff.1 ha1).1
  have HR1 := Lib.hid (hR1.behind HB.out)
  have HA1 := Lib.hid ha1
  clear ha1 hR1
  go_wp2_with (at_make; refine wpList_make_full w1 rfl (.tmp 10) (.tmp 10) 30 rfl w1.heap.size 102 i0 (.agg #[.int .u8 0, .int .u64 0, .int .u64 0]) 3 Try.underlying30 hi0 hz0 hz1 .u64 .u64 _ _ n rfl rfl rfl rfl ?a3 ?a4 (Nat.le_refl _) ?_)
  case a3 => rw [hz2]; omega
  case a4 => unfold maxLen; omega
  intro w2 hown2 hg2
  have hb2 : RowKit.Below w1.heap.size w1 w2 := (RowKit.Below.refl _ _).grown hg2 (Nat.le_refl _) (fun q hq => by cases hq)
  rw [made_runs' _ rfl] at hown2
  have HV0 : Hid (RunsAt base hi gr w w1.heap.size n s1 0 w2) := ⟨hlt1, (hb2.block _ hlt1).trans HA1.out, hown2, ⟨HR1.out.1.below hb2, HR1.out.2.trans (OnlyE.of_below hb2)⟩⟩
  clear hown2 hg2 hb2
  generalize w1.heap.size = g at HV0 hlt1 ⊢
  go_wp2
  go_loopw [14] (fun i wr => ∃ (k : Nat), k ≤ n ∧ i = .int .i64 k ∧ RunsAt base hi gr w g n s1 k wr) (fun i _ => n - (intOf i).toNat)
  case atStart => exact ⟨0, Nat.zero_le _, rfl, HV0.out⟩
  case round =>
    obtain ⟨k, hk, rfl, hV⟩ := hrel
    by_cases hlt : k < n
    · have hid : k < ((rRuns k s1).1 ++ List.replicate (n - k) zeroRn).length := by rw [List.length_append, rRuns_len]; simp; omega
      obtain ⟨hlg, ha, hown, hR⟩ := hV
      generalize hy : ((rRuns k s1).1 ++ List.replicate (n - k) zeroRn)[k] = y
      have o0 : wr.cell? ⟨g, k * 3, none⟩ = some (.int .u8 (y.f : Int)) := by rw [hown.cellAt _ (by omega), ← hy]; exact rns_at0 _ k hid
      have o1 : wr.cell? ⟨g, k * 3 + 1, none⟩ = some (.int .u64 (y.a : Int)) := by rw [hown.cellAt _ (by omega), ← hy]; exact rns_at1 _ k hid
      have o2 : wr.cell? ⟨g, k * 3 + 2, none⟩ = some (.int .u64 (y.c : Int)) := by rw [hown.cellAt _ (by omega), ← hy]; exact rns_at2 _ k hid
      have hgs := (hown.lt g rfl).2
      have hww : w.heap.size < wr.heap.size := by omega
      have p0 := cell_of_row wr _ 0 _ _ _ ha
      simp only [List.getElem?_toArray, List.getElem?_cons_zero] at p0
      have HO := Lib.hid hown
      have HM : Hid (Mid base hi gr w g wr.heap.size wr #[.int .u8 (y.f : Int), .int .u64 (y.a : Int), .int .u64 (y.c : Int)] (rRuns k s1).2 (wr.alloc (.cells #[.int .u8 (y.f : Int), .int .u64 (y.a : Int), .int .u64 (y.c : Int)] 102))) := by
        have hBx : RowKit.Below wr.heap.size wr (wr.alloc (.cells #[.int .u8 (y.f : Int), .int .u64 (y.a : Int), .int .u64 (y.c : Int)] 102)) := (RowKit.Below.refl _ _).alloc (Nat.le_refl _) _
        exact ⟨(hBx.block _ (by omega)).trans ha, heap_alloc_new _ _, hBx.block _ hgs, ⟨hR.1.below hBx, hR.2.trans (OnlyE.of_below hBx)⟩, by omega, hlg, hgs⟩
      clear ha hown hR hid hy
      go_wp2_with fail
      refine (HF.out k _ HM.out.read.1).mono ?_
      rintro e W1 ⟨rfl, hR1⟩
      have hM1 := HM.out.on hR1
      obtain ⟨p1, b0, b1, b2, fz⟩ := hM1.facts
      have HM1 := Lib.hid hM1
      clear hR1 hM1 HM o0 o1 o2 p0
      go_wp2_with fail
      have hM2 := HM1.out.set hhi 0 (.int .u8 ((rRun (rRuns k s1).2).1.f : Int))
      clear p1 b0 b1 b2 fz HM1
      generalize W1.setCell ⟨wr.heap.size, 0, none⟩ (.int .u8 ((rRun (rRuns k s1).2).1.f : Int)) = W2 at hM2 ⊢
      refine (HA.out y.a k W2 hM2.read.1).mono ?_
      rintro e W3 ⟨rfl, hR3⟩
      have hM3 := hM2.on hR3
      obtain ⟨p1, b0, b1, b2, fz⟩ := hM3.facts
      have HM3 := Lib.hid hM3
      clear hR3 hM3 hM2
      go_wp2_with fail
      have hM4 := HM3.out.set hhi 1 (.int .u64 ((rRun (rRuns k s1).2).1.a : Int))
      clear p1 b0 b1 b2 fz HM3
      generalize W3.setCell ⟨wr.heap.size, 1, none⟩ (.int .u64 ((rRun (rRuns k s1).2).1.a : Int)) = W4 at hM4 ⊢
      refine (HC.out y.c k W4 hM4.read.1).mono ?_
      rintro e W5 ⟨rfl, hR5⟩
      have hM5 := hM4.on hR5
      obtain ⟨p1, b0, b1, b2, fz⟩ := hM5.facts
      have hM6 := hM5.set hhi 2 (.int .u64 ((rRun (rRuns k s1).2).1.c : Int))
      obtain ⟨fg, cg, hD⟩ := Mid.done hlg HO.out hM6 hlt hhi
      obtain ⟨u0, g0⟩ := cg (k * 3) (by omega)
      obtain ⟨u1, g1⟩ := cg (k * 3 + 1) (by omega)
      obtain ⟨u2, g2⟩ := cg (k * 3 + 2) (by omega)
      have HD := Lib.hid hD
      clear hR5 hM5 hM4 hM6 hD cg
      generalize hrn : (rRun (rRuns k s1).2).1 = rn at b0 b1 b2 HD g0 g1 g2 fg ⊢
      go_wp2
      go_roundw
      case rel => exact ⟨k + 1, by omega, by go_num, HD.out⟩
      case measure => simp [intOf]; omega
    · have hkn : k = n := by omega
      subst hkn
      have HV := Lib.hid hV
      clear hV hlt
      go_wp2
      go_ret
      exact ⟨g, rfl, HV.out⟩

end Go.Proofs.Ytbfjfidodpgohaa

/- The reader as one who is shown all of a frame's fields; answers that hold a struct beside others. -/
namespace Go.Proofs.Ytbfjfidodpgohaa
open Go.RowKit Go.Sort

/-- What the reader reads. -/
def rdV : Vis Rs where
  number _ s := rN top s
  word _ s := rN 4294967295 s
  id _ s := rId s
  runs _ s := rRuns (rN 64 s).1 (rN 64 s).2
  vector _ s := rVec (rN 64 s).1 (rN 64 s).2
  data _ s := rRow s

def rdF : VisFns := ⟨79, 82, 78, 80, 81, 77⟩

def RdInv (base hi gr g : Nat) (P : World → Prop) (_k : Nat) (s : Rs) (w : World) : Prop := RdI base hi gr s w ∧ g < w.heap.size ∧ P w

theorem own_sl {w : World} {D : Nat → Prop} {g n size : Nat} {e : TypeId} {xs : List Value} (h : w.ownsRow g e size (.slice (some ⟨g, 0, none⟩) n n) n xs) (hD : ¬ D g) : SlA w D (some ⟨g, 0, none⟩) n n xs := by
  have hc : n ≤ maxLen := by
    rcases h.2 with ⟨hv, _⟩ | ⟨g', cap, cur, hv, _, _, h1, h2, _⟩
    · cases hv
    · omega
  refine ⟨Nat.le_refl _, hc, fun _ => ⟨g, 0, rfl, (h.lt g rfl).2, hD, fun i u hu => ?_⟩⟩
  rw [Nat.zero_add, h.cellAt i]
  · exact hu
  · have := (List.getElem?_eq_some_iff.1 hu).1
    have hl := h.1
    omega

section
variable {base hi gr g : Nat} {P : World → Prop}
theorem RdInv.of {k : Nat} {s : Rs} {w w' : World} (hP : ∀ w w', P w → OnlyE w w' (fun k => k = gr) → P w') (h : Read base hi gr w s w') (hg : g < w.heap.size ∧ P w) : RdInv base hi gr g P k s w' := ⟨h.1, Nat.lt_of_lt_of_le hg.1 h.2.1, hP _ _ hg.2 h.2⟩
end

set_option maxRecDepth 100000 in
theorem rd_vis (base hi gr g : Nat) (hne : gr ≠ g) (hg : g < base ∨ hi ≤ g) (E : Nat → Prop) (P : World → Prop) (hP1 : ∀ w w', P w → OnlyE w w' (fun k => k = gr) → P w') (hP2 : ∀ w i u, P w → P (w.setCell ⟨g, i, none⟩ u)) (hP3 : ∀ w, P w → P w.drew) (hE : ∀ w k, P w → E k → k < w.heap.size) :
    VisAt rdV rdF 52 (.agg #[.pointer (some ⟨gr, 0, none⟩)]) (fun k => k = gr ∨ k = g ∨ E k) (fun k => k = gr) g (RdInv base hi gr g P) where
  mNum := ⟨fun _ => by kernel_rfl, fun _ => by kernel_rfl, enters_of Try.func79 (by kernel_rfl) rfl⟩
  mWrd := ⟨fun _ => by kernel_rfl, fun _ => by kernel_rfl, enters_of Try.func82 (by kernel_rfl) rfl⟩
  mId := ⟨fun _ => by kernel_rfl, fun _ => by kernel_rfl, enters_of Try.func78 (by kernel_rfl) rfl⟩
  mRns := ⟨fun _ => by kernel_rfl, fun _ => by kernel_rfl, enters_of Try.func80 (by kernel_rfl) rfl⟩
  mVec := ⟨fun _ => by kernel_rfl, fun _ => by kernel_rfl, enters_of Try.func81 (by kernel_rfl) rfl⟩
  mDat := ⟨fun _ => by kernel_rfl, fun _ => by kernel_rfl, enters_of Try.func77 (by kernel_rfl) rfl⟩
  sub := fun _ h => .inl h
  own := ⟨.inr (.inl rfl), fun h => hne h.symm⟩
  set := fun _ s w i u hlt h => by
    refine ⟨⟨?_, h.1.2⟩, by simpa [World.setCell] using h.2.1, hP2 _ _ _ h.2.2⟩
    rcases hg with hg | hg
    · obtain ⟨A, n, c, h1, h2, h3, h4, h5, h6, h7, h8, h9⟩ := h.1.1
      refine ⟨A, n, c, row_setOther h1 (by omega) i u, h2, h3, h4, h5, ?_, h7, h8, by simpa [World.setCell] using h9⟩
      exact h6.kept (grown_setCell w g i u) h9 (fun a ha e => by have := (h7 a ha).2; injection e with e; omega)
    · exact h.1.1.below ((RowKit.Below.refl _ _).setCell (p := ⟨g, i, none⟩) hg u)
  drew := fun _ _ _ h => ⟨h.1, h.2.1, hP3 _ h.2.2⟩
  number := fun k s w n _ h => (rdNumber_any n w h.1).mono fun e w' hh => ⟨hh.1, rN_top s, RdInv.of hP1 hh.2 h.2, hh.2.2⟩
  word := fun k s w n _ h => (rdWord_any n w h.1).mono fun e w' hh => ⟨hh.1, Nat.lt_succ_of_le (rN_le 4294967295 s).1, RdInv.of hP1 hh.2 h.2, hh.2.2⟩
  id := fun k s w y h => (rdId_any y w h.1).mono fun e w' hh => ⟨hh.1, RdInv.of hP1 hh.2 h.2, hh.2.2⟩
  runs := fun k s w A c l _ _ h => (rdRuns_any A l.length c w h.1).mono fun e w' hh => by
    obtain ⟨q, rfl, hlg, -, hown, hR⟩ := hh
    have hgr : gr < w.heap.size := Nat.lt_of_lt_of_le h.1.1.lt.2.1 h.1.1.lt.2.2
    have hlen : (rdV.runs l s).1.length = (rN 64 s).1 := rRuns_len _ _
    rw [Nat.sub_self, List.replicate_zero, List.append_nil] at hown
    refine ⟨some ⟨q, 0, none⟩, (rN 64 s).1, by rw [hlen], by rw [hlen]; exact own_sl hown (by have h0 := h.2.1; intro hk; rcases hk with hk | hk | hk <;> first | omega | (have := hE w q h.2.2 hk; omega)), by rw [hlen]; have := (rN_le 64 s).1; omega, RdInv.of hP1 hR h.2, hR.2⟩
  vector := fun k s w A c l _ _ _ h => (rdVector_any A l.length c w h.1).mono fun e w' hh => by
    obtain ⟨q, rfl, hlg, -, hown, hR⟩ := hh
    have hgr : gr < w.heap.size := Nat.lt_of_lt_of_le h.1.1.lt.2.1 h.1.1.lt.2.2
    have hlen : (rdV.vector l s).1.length = (rN 64 s).1 := rVec_len _ _
    rw [Nat.sub_self, List.replicate_zero, List.append_nil] at hown
    refine ⟨some ⟨q, 0, none⟩, (rN 64 s).1, by rw [hlen], by rw [hlen]; exact own_sl hown (by have h0 := h.2.1; intro hk; rcases hk with hk | hk | hk <;> first | omega | (have := hE w q h.2.2 hk; omega)), ⟨by rw [hlen]; have := (rN_le 64 s).1; omega, rVec_lt _ _⟩, RdInv.of hP1 hR h.2, hR.2⟩
  data := fun k s w A c l _ _ h => (rdData_any A l.length c w h.1).mono fun e w' hh => by
    obtain ⟨A', c', rfl, hS, hR⟩ := hh
    have hgr : gr < w.heap.size := Nat.lt_of_lt_of_le h.1.1.lt.2.1 h.1.1.lt.2.2
    refine ⟨A', c', rfl, hS _ (by have h0 := h.2.1; intro k hk; rcases hk with hk | hk | hk <;> first | omega | exact hE w k h.2.2 hk), Nat.le_trans (rRow_le s).1 h.1.2, RdInv.of hP1 hR h.2, hR.2⟩

theorem results_cell2 {fn : Func} {p q : Tmp} {ty : TypeId} (h : fn.results = #[.cell p ty, .tmp q]) (tmps : Array Value) (w : World) (g : Nat) (cs : Array Value)
    (hp : tmps.getD p undef = .pointer (some ⟨g, 0, none⟩)) (hl : (loadVar ty ⟨g, 0, none⟩).run Try.prog w = .ok (.agg cs) w) :
    (results fn tmps).run Try.prog w = .ok (.tuple #[.agg cs, tmps.getD q undef]) w := by
  have hp' : tmps[p]?.getD undef = .pointer (some ⟨g, 0, none⟩) := by simpa using hp
  simp [results, h, hp', asAddr, hl]

theorem results_cell3 {fn : Func} {p q r : Tmp} {ty : TypeId} (h : fn.results = #[.cell p ty, .tmp q, .tmp r]) (tmps : Array Value) (w : World) (g : Nat) (cs : Array Value)
    (hp : tmps.getD p undef = .pointer (some ⟨g, 0, none⟩)) (hl : (loadVar ty ⟨g, 0, none⟩).run Try.prog w = .ok (.agg cs) w) :
    (results fn tmps).run Try.prog w = .ok (.tuple #[.agg cs, tmps.getD q undef, tmps.getD r undef]) w := by
  have hp' : tmps[p]?.getD undef = .pointer (some ⟨g, 0, none⟩) := by simpa using hp
  simp [results, h, hp', asAddr, hl]

end Go.Proofs.Ytbfjfidodpgohaa

/- The head of a frame's bytes: readHead. -/
namespace Go.Proofs.Ytbfjfidodpgohaa
open Go.RowKit Go.Sort

/-- A head, the bytes of the fields, and the error's number. -/
abbrev Hr := (Nat × Nat × Nat) × List UInt8 × Nat
def hNone (er : Nat) : Hr := ((0, 0, 0), [], er)
/-- What is read behind the first number. -/
def headRd2 (told : Nat) (p : List UInt8) : Hr :=
  if p.length + 4 < told then hNone 2 else if told < p.length + 4 then hNone 4 else if p.length < 4 then hNone 2
  else if p.getD 0 0 ≠ 1 then hNone 3 else (((p.getD 1 0).toNat, (p.getD 2 0).toNat, (p.getD 3 0).toNat), p.drop 4, 0)
def headRd (l : List UInt8) : Hr := if (rnum l 0 top).2.2 ≠ 0 then hNone (rnum l 0 top).2.2 else headRd2 (rnum l 0 top).1 (rnum l 0 top).2.1

def HeadGot (w : World) (h : Hr) (e : Ending) (w' : World) : Prop :=
  ∃ A n c, e = .returned (.tuple #[.agg #[.int .u8 (h.1.1 : Int), .int .u8 (h.1.2.1 : Int), .int .u8 (h.1.2.2 : Int)], .slice A n c, .int .i64 (h.2.2 : Int)]) ∧ Hid (h.2.1.length = n) ∧ n ≤ c ∧ c ≤ maxLen ∧ Lies w' w.heap.size A (bvs h.2.1) ∧ RowKit.Below w.heap.size w w'

theorem HeadGot.none {w w' : World} (er : Nat) (hb : RowKit.Below w.heap.size w w') : HeadGot w (hNone er) (.returned (.tuple #[.agg #[.int .u8 0, .int .u8 0, .int .u8 0], .slice .none 0 0, .int .i64 (er : Int)])) w' :=
  ⟨.none, 0, 0, rfl, rfl, Nat.le_refl _, by unfold maxLen; omega, Lies.nil, hb⟩

/-- What stands when the first number is read: the reader, and the block of the answer. -/
structure HeadMid (w : World) (gr : Nat) (p : List UInt8) (er : Nat) (n2 : Nat) (W : World) : Prop where
  below : RowKit.Below w.heap.size w W
  row : W.heap[w.heap.size]? = some (.cells #[.int .u8 0, .int .u8 0, .int .u8 0] 25 (0, 0))
  len : p.length = n2
  err : Calls Try.prog 45 #[.pointer (some ⟨gr, 0, none⟩)] W fun e w' => e = .returned (.int .i64 (er : Int)) ∧ W = w'
  left : Calls Try.prog 46 #[.pointer (some ⟨gr, 0, none⟩)] W fun e w' => e = .returned (.int .i64 (n2 : Int)) ∧ W = w'

def HeadMade (w : World) (told : Nat) (p : List UInt8) (er : Nat) (e : Ending) (W1 : World) : Prop :=
  ∃ gr, e = .returned (.pointer (some ⟨gr, 0, none⟩)) ∧ Hid (Calls Try.prog 44 #[.pointer (some ⟨gr, 0, none⟩), .int .u64 ((18446744073709551615 : Nat) : Int)] W1 fun e W => e = .returned (.int .u64 (told : Int)) ∧ ∃ n2, HeadMid w gr p er n2 W)

theorem head_new (A : Option Addr) (n c : Nat) (l : List UInt8) (w : World) (hl : l.length = n) (hn : n ≤ 10000) (h : Lies w w.heap.size A (bvs l)) :
    Calls Try.prog 19 #[.slice A n c] (w.alloc (.cells #[.int .u8 0, .int .u8 0, .int .u8 0] 25)) (HeadMade w (rnum l 0 top).1 (rnum l 0 top).2.1 (rnum l 0 top).2.2) := by
  have hB : RowKit.Below w.heap.size w (w.alloc (.cells #[.int .u8 0, .int .u8 0, .int .u8 0] 25)) := (RowKit.Below.refl _ _).alloc (Nat.le_refl _) _
  refine (new_any A n c l _ hl (by omega) (h.later hB)).mono ?_
  rintro e W1 ⟨gr, rfl, hRd, hb1⟩
  have hs : (w.alloc (.cells #[.int .u8 0, .int .u8 0, .int .u8 0] 25)).heap.size = w.heap.size + 1 := by simp
  refine ⟨gr, rfl, ?_⟩
  refine (num_any 18446744073709551615 hRd).mono ?_
  rintro e W ⟨rfl, ⟨A2, n2, c2, hAt⟩, hg⟩
  have hgr := hRd.lt.1
  rw [hs] at hgr
  have hb0 := hB.trans (hb1.mono (by omega))
  refine ⟨rfl, n2, hb0.grown hg (by have := hb0.size; omega) (fun q hq => by injection hq with hq; omega), ?_, hAt.2.2.1.out, err_any hAt, left_any hAt⟩
  rw [hg.block _ (by have := hb0.size; have := hb1.size; omega) (by intro e; injection e with e; omega), hb1.block _ (by omega)]
  exact heap_alloc_new _ _

end Go.Proofs.Ytbfjfidodpgohaa
