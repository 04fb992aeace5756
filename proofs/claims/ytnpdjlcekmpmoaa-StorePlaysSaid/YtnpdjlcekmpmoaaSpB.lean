/- Stage 14: the document's Get. -/
import Derived.Test.YtnpdjlcekmpmoaaSpA
set_option maxRecDepth 20000
namespace Go.Proofs.Ytnpdjlcekmpmoaa
open Go.RowKit Go.Sort Go.Maps

theorem getL_no {l : List Hp} {x : Id} (h : ∀ y ∈ l, y.id ≠ x) : getL l x = [] ∧ hasL l x = false := by
  refine ⟨?_, hasL_no.2 h⟩
  unfold getL
  rw [List.find?_eq_none.2 fun y hy => by simpa using h y hy]
theorem getL_at {l : List Hp} {x : Id} {k : Nat} (hk : k < l.length) (h : ∀ y ∈ l.take k, y.id ≠ x) (hx : l[k].id = x) : getL l x = l[k].b ∧ hasL l x = true := by
  refine ⟨?_, hasL_iff.2 ⟨_, List.getElem_mem hk, hx⟩⟩
  generalize hy : l[k] = y at hx
  have e : l.take k ++ y :: l.drop (k + 1) = l := by rw [← hy, List.getElem_cons_drop, List.take_append_drop]
  have hf : (l.take k ++ y :: l.drop (k + 1)).find? (fun h => decide (h.id = x)) = some y := by
    rw [List.find?_append, List.find?_eq_none.2 fun z hz => by simpa using h z hz]
    simp [hx]
  rw [e] at hf
  unfold getL
  rw [hf]

section
variable {w : World} {D : Nat → Prop} {A A2 : Option Addr} {c c2 : Nat} {m : Sm}
set_option maxHeartbeats 800000 in
theorem refGet_any (h : RsAt w D A c A2 c2 m) (x : Id) : Calls Try.prog 27 #[.agg (rsCells A c A2 c2 m), valId x] w fun e w' => e = .returned (.tuple #[.string (str (getL m.l x)), .bool (hasL m.l x)]) ∧ RowKit.Below w.heap.size w w' := by
  have mixed := mixedOrders
  have HR := Lib.hid h
  have hnm : m.l.length ≤ 9223372036854775807 := by have := h.lc; have := h.cm; unfold maxLen at *; omega
  unfold rsCells valId
  clear h
  generalize m.n = N
  generalize m.room = rm
  obtain ⟨n, hn⟩ : ∃ n, m.l.length = n := ⟨_, rfl⟩
  have HN := Lib.hid hn
  rw [hn] at hnm ⊢
  clear hn
  go_enter Try.func27, Try.ntmps27
  go_wp2_with fail
  generalize hw0 : World.alloc (World.alloc w _) _ = w0
  obtain ⟨hs0, hG, hcc, hdd⟩ := box2 w w0 _ _ _ _ hw0
  have hb0 : RowKit.Below w.heap.size w w0 := hG.below
  have k2 := hcc 2 _ rfl
  have j0 := hdd 0 _ rfl
  have j1 := hdd 1 _ rfl
  have HB := Lib.hid hb0
  have HR0 : Hid (Lies w0 w0.heap.size A (flat encX m.l)) := HR.out.lies.lies.later hb0
  clear hcc hdd hw0 hG hb0 HR
  go_wp2_with fail
  go_loopw [10] (fun s10 w1 => ∃ k : Nat, k ≤ n ∧ s10 = .int .i64 (k : Int) ∧ Hid (∀ y ∈ m.l.take k, y.id ≠ x) ∧ RowKit.Below w0.heap.size w0 w1) (fun s10 _ => n - (intOf s10).toNat)
  case atStart => exact ⟨0, Nat.zero_le _, rfl, by show ∀ y ∈ m.l.take 0, _; simp, RowKit.Below.refl _ _⟩
  case round =>
    obtain ⟨k, hk, rfl, hK, hb1⟩ := hrel
    by_cases hlt : k < n
    · have hkl : k < m.l.length := by rw [HN.out]; exact hlt
      obtain ⟨b, off, rfl, hbl, c0, c1, c2'⟩ := xs_at HR0.out hkl
      have hK1 : Hid (m.l[k].id ≠ x → ∀ y ∈ m.l.take (k + 1), y.id ≠ x) := fun hne y hy => by
        rw [List.take_succ_eq_append_getElem hkl, List.mem_append] at hy
        rcases hy with hy | hy
        · exact hK.out y hy
        · simp at hy; subst hy; exact hne
      have hK2 : Hid (m.l[k].id = x → getL m.l x = m.l[k].b ∧ hasL m.l x = true) := fun he => getL_at hkl hK.out he
      generalize m.l[k] = y at c0 c1 c2' hK1 hK2
      have hlw : w0.heap.size ≤ wr.heap.size := hb1.size
      have z0 := (hb1.cell (p := ⟨b, off + k * 3, none⟩) hbl).trans c0
      have z1 := (hb1.cell (p := ⟨b, off + k * 3 + 1, none⟩) hbl).trans c1
      have z2 := (hb1.cell (p := ⟨b, off + k * 3 + 2, none⟩) hbl).trans c2'
      have x0 := later_cell (w0 := wr) (Nat.lt_of_lt_of_le hbl hlw) z0
      have x1 := later_cell (w0 := wr) (Nat.lt_of_lt_of_le hbl hlw) z1
      have x2 := later_cell (w0 := wr) (Nat.lt_of_lt_of_le hbl hlw) z2
      have y2 := later_cell (w0 := wr) (b := w.heap.size) (by omega) ((hb1.cell (p := ⟨w.heap.size, 2, none⟩) (by show w.heap.size < _; omega)).trans k2)
      have i0 := later_cell (w0 := wr) (b := w.heap.size + 1) (by omega) ((hb1.cell (p := ⟨w.heap.size + 1, 0, none⟩) (by show w.heap.size + 1 < _; omega)).trans j0)
      have i1 := later_cell (w0 := wr) (b := w.heap.size + 1) (by omega) ((hb1.cell (p := ⟨w.heap.size + 1, 1, none⟩) (by show w.heap.size + 1 < _; omega)).trans j1)
      have hgd := guardId
      have he := fun W' => eqlId y.id x W'
      clear z0 z1 z2 c0 c1 c2' hK hkl
      go_wp2_with fail
      refine wp_region_later mixed (by kernel_rfl) ?_
      repeat (go_big_quiet_step (fail))
      refine wpQuiet_nil ?_
      intro _ hw'
      obtain ⟨p, rfl⟩ := hw'
      have hbp : RowKit.Below w0.heap.size w0 p.w := hb1.trans (p.hb.mono hb1.size)
      have HBP := Lib.hid hbp
      clear hbp hb1 he hgd
      by_cases hyx : y.id = x
      · rw [decide_eq_true hyx]
        have hq := Lib.hid (hK2.out hyx)
        clear hK1 hK2 hyx
        go_wp2
        go_ret2
        exact ⟨by rw [hq.out.1, hq.out.2]; rfl, HB.out.trans (HBP.out.mono HB.out.size)⟩
      · rw [decide_eq_false hyx]
        have hq := Lib.hid (hK1.out hyx)
        clear hK1 hK2 hyx
        go_wp2
        go_roundw
        case rel => exact ⟨k + 1, by omega, by go_num, hq, HBP.out⟩
        case measure => simp [intOf]; omega
    · have hkk : k = m.l.length := by rw [HN.out]; omega
      have hq : Hid (getL m.l x = [] ∧ hasL m.l x = false) := getL_no fun y hy => hK.out y (by rw [hkk, List.take_length]; exact hy)
      clear hkk hK
      have HB1 := Lib.hid hb1
      clear hb1
      go_wp2
      go_ret2
      exact ⟨by rw [hq.out.1, hq.out.2]; rfl, HB.out.trans (HB1.out.mono HB.out.size)⟩
end

end Go.Proofs.Ytnpdjlcekmpmoaa
