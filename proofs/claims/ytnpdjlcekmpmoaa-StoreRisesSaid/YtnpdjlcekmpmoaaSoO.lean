/- Stage 14: floors that rise, in memory; the function that is handed on. -/
import Derived.Test.YtnpdjlcekmpmoaaSoL
set_option maxRecDepth 20000
namespace Go.Proofs.Ytnpdjlcekmpmoaa
open Go.RowKit Go.Sort Go.Maps

theorem foldV_one (op : Nat → Nat → Nat) (a : List Nat) : foldV op [a] = a := by
  have hl : (foldV op [a]).length = a.length := by
    unfold foldV frontV
    rw [List.length_map, List.length_range]
    simp [longN]
  refine List.ext_getElem hl fun i h1 h2 => ?_
  have h3 : i < longN [a] := by simpa [longN] using h2
  simp [foldV, frontV, foldN, num_in h2]

/-- The floors, when the first k have risen. -/
def flK (fl told : List Nat) (k : Nat) : List Nat := (List.range fl.length).map fun i => if i < k then max (num fl i) (min (num told i) MaxS) else num fl i
theorem flK_length (fl told : List Nat) (k : Nat) : (flK fl told k).length = fl.length := by simp [flK]
theorem flK_zero (fl told : List Nat) : flK fl told 0 = fl := by
  refine List.ext_getElem (flK_length _ _ _) fun i h1 h2 => ?_
  simp [flK, num_in h2]
theorem flK_all (fl told : List Nat) : flK fl told fl.length = flN fl told := by
  unfold flK flN
  refine List.map_congr_left fun i hi => ?_
  rw [if_pos (List.mem_range.1 hi)]
theorem flK_num {fl told : List Nat} {k : Nat} (hk : k < fl.length) : num (flK fl told k) k = num fl k := by
  rw [num_in (by rw [flK_length]; exact hk)]
  simp [flK]
theorem flK_next {fl told : List Nat} {k : Nat} (hk : k < fl.length) : (flK fl told k).set k (max (num fl k) (min (num told k) MaxS)) = flK fl told (k + 1) := by
  refine List.ext_getElem (by simp [flK]) fun i h1 h2 => ?_
  by_cases e : i = k
  · subst e
    simp [flK]
  · rw [List.getElem_set_ne (fun h => e h.symm)]
    simp only [flK, List.getElem_map, List.getElem_range]
    by_cases h : i < k
    · rw [if_pos h, if_pos (by omega)]
    · rw [if_neg h, if_neg (by omega)]

section
variable {w w' : World} {base g mb fb : Nat} {m : Sm} {D : Nat → Prop}

/-- One floor is written. -/
theorem StAt.setFloor (h : StAt w base g mb fb m D) {i v : Nat} (hv : v ≤ MaxS) : StAt (w.setCell ⟨fb, i, none⟩ (.int .u64 (v : Int))) base g mb fb { m with fl := m.fl.set i v } D ∧ OnlyE w (w.setCell ⟨fb, i, none⟩ (.int .u64 (v : Int))) (own3 g mb fb) := by
  have hO2 : OnlyE w (w.setCell ⟨fb, i, none⟩ (.int .u64 (v : Int))) (fun k => k = fb) := onlyE_set (D := fun k => k = fb) rfl i _
  have hO : OnlyE w (w.setCell ⟨fb, i, none⟩ (.int .u64 (v : Int))) D := onlyE_set h.df i _
  obtain ⟨E, e1, e2, e3⟩ := h.map
  refine ⟨?_, onlyE_set (D := own3 g mb fb) (.inr (.inr rfl)) i _⟩
  have hrow := (h.row.stored i (.int .u64 (v : Int))).1
  rw [← uvs_set] at hrow
  exact {
    box := (hO2.same g h.lt h.ne.2.1).trans h.box
    row := hrow
    map := ⟨E, ownsMap_only e1 hO2 h.ne.2.2, e2, fun y hy => (e3 y hy).kept hO⟩
    dg := h.dg, dm := h.dm, df := h.df, ne := h.ne
    din := fun q hq => ⟨(h.din q hq).1, Nat.lt_of_lt_of_le (h.din q hq).2 hO.size⟩
    ok := {
      n1 := h.ok.n1, n2 := h.ok.n2
      fl := by show (m.fl.set i v).length = m.n; rw [List.length_set]; exact h.ok.fl
      top := fun x hx => by
        rcases List.mem_or_eq_of_mem_set hx with hx | rfl
        · exact h.ok.top x hx
        · exact hv
      each := h.ok.each, apart := h.ok.apart, use := h.ok.use, room := h.ok.room } }

theorem StAt.sameM {m' : Sm} (h : StAt w base g mb fb m D) (e : m = m') : StAt w base g mb fb m' D := e ▸ h
end

/-- The function that release asks: does an id's payload go? -/
theorem goes_any (x : Id) (g fb bs n fl : Nat) (W : World) (hx : x.f < n) (hb : W.cell? ⟨bs, 0, none⟩ = some (.pointer (some ⟨g, 0, none⟩))) (hbs : bs < W.heap.size) (hg : W.cell? ⟨g, 1, none⟩ = some (.slice (some ⟨fb, 0, none⟩) n n)) (hgs : g < W.heap.size)
    (hf : W.cell? ⟨fb, x.f, none⟩ = some (.int .u64 (fl : Int))) (hfs : fb < W.heap.size) :
    Calls Try.prog 37 #[.agg #[.int .u8 (x.f : Int), .int .u64 (x.s : Int)], .pointer (some ⟨bs, 0, none⟩)] W fun e w' => e = .returned (.bool (decide (x.s ≤ fl))) ∧ RowKit.Below W.heap.size W w' := by
  have mixed := mixedOrders
  have hxf := x.hf
  have hxs := x.hs
  generalize x.f = f at hx hf hxf ⊢
  generalize x.s = s at hxs ⊢
  go_enter Try.func37, Try.ntmps37
  go_wp2_with fail
  generalize hw0 : World.alloc W _ = w0
  obtain ⟨hs0, hG, hcc⟩ := box1 W w0 _ _ hw0
  have hb0 : RowKit.Below W.heap.size W w0 := hG.below
  have x0 := later_cell (w0 := w0) (by omega) (hcc 0 _ rfl)
  have x1 := later_cell (w0 := w0) (by omega) (hcc 1 _ rfl)
  have y0 := later_cell (w0 := w0) (b := bs) (by omega) ((hb0.cell (p := ⟨bs, 0, none⟩) hbs).trans hb)
  have y1 := later_cell (w0 := w0) (b := g) (by omega) ((hb0.cell (p := ⟨g, 1, none⟩) hgs).trans hg)
  have y2 := later_cell (w0 := w0) (b := fb) (by omega) ((hb0.cell (p := ⟨fb, f, none⟩) hfs).trans hf)
  have HB := Lib.hid hb0
  clear hcc hw0 hG hb0 hb hg hf
  refine wp_region_later mixed (by kernel_rfl) ?_
  repeat (go_big_quiet_step (fail))
  refine wpQuiet_nil ?_
  intro _ hw'
  obtain ⟨p, rfl⟩ := hw'
  have hbp : RowKit.Below W.heap.size W p.w := HB.out.trans (p.hb.mono HB.out.size)
  go_wp2
  go_ret
  exact ⟨rfl, hbp⟩

end Go.Proofs.Ytnpdjlcekmpmoaa
