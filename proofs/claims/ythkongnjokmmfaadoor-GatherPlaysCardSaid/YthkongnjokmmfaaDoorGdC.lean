/- Stage 13: the document's First, full, IDs (the door seat alone). -/
import Derived.Test.YthkongnjokmmfaaDoorGdB
set_option maxRecDepth 20000
namespace Go.Proofs.YthkongnjokmmfaaDoor
open Go.RowKit Go.Sort

theorem bvl_at {l : List Bool} {k : Nat} (h : k < l.length) : (bvl l)[k]? = some (.bool l[k]) := by simp [bvl, h]
theorem findIdx_stop {l : List Bool} {k : Nat} (hk : k < l.length) (h1 : l[k] = false) (h0 : ∀ j, (hj : j < l.length) → j < k → l[j] = true) : firstF l = k := by
  have e : l.findIdx (fun b => !b) = k := (List.findIdx_eq hk).2 ⟨by rw [h1]; rfl, fun j hj => by rw [h0 j (by omega) hj]; rfl⟩
  unfold firstF
  rw [e, if_pos hk]
theorem findIdx_none {l : List Bool} (h0 : ∀ j, (hj : j < l.length) → l[j] = true) : firstF l = 0 := by
  unfold firstF
  rw [if_neg]
  intro h
  have := List.findIdx_getElem (w := h)
  rw [h0 _ h] at this
  simp at this

section
variable {w : World} {D : Nat → Prop} {A : Option Addr} {n c : Nat} {R : List Rp} {m : Gm}
set_option maxHeartbeats 1600000 in
theorem refFirst_any (h : RgAt w D A n c R m) (hn : n ≤ 1000000) (hlen : ∀ z ∈ R, z.x.has.length ≤ 10000000) (x : Id) : Calls Tryd.prog 17 #[.agg (rgCells (.slice A n c) m), valId x] w fun e w' => e = .returned (.int .i64 (m.first x : Int)) ∧ RowKit.Below w.heap.size w w' := by
  have HR := Lib.hid h
  have hl := h.len
  have hml := h.mlen
  have HFI := Lib.hid (fun W (hW : RowKit.Below w.heap.size w W) => refFind_any (h.on hW) hn x)
  have HLEN := Lib.hid hlen
  have hz : (∃ k, ∃ hk : k < R.length, fndZ m.l x = (k : Int) ∧ m.first x = firstF R[k].x.has) ∨ (fndZ m.l x = -1 ∧ m.first x = 0) := by
    unfold fndZ Gm.first
    by_cases hi : idxP m.l x < m.l.length
    · left
      refine ⟨idxP m.l x, by omega, by rw [if_pos hi], ?_⟩
      rw [dif_pos hi, h.at_ (by omega)]
    · right
      rw [if_neg hi, dif_neg hi]
      exact ⟨rfl, rfl⟩
  clear h hlen
  generalize fndZ m.l x = fz at *
  generalize m.first x = ff at *
  unfold rgCells valId at *
  go_enter Tryd.func17, Tryd.ntmps17
  go_wp2_with fail
  generalize hw0 : World.alloc (World.alloc w _) _ = w0
  obtain ⟨hs0, hG, hcc, hdd⟩ := box2 w w0 _ _ _ _ hw0
  have hb0 : RowKit.Below w.heap.size w w0 := hG.below
  have x3 := Lib.hid (hcc 3 _ rfl)
  have HF1 := Lib.hid (HFI.out w0 hb0)
  have HB := Lib.hid hb0
  clear hcc hdd hw0 hG hb0 HFI
  refine HF1.out.mono ?_
  rintro e w1 ⟨rfl, hb1⟩
  have y3 := (hb1.cell (p := ⟨w.heap.size, 3, none⟩) (by show w.heap.size < w0.heap.size; omega)).trans x3.out
  have HBW := Lib.hid (HB.out.trans (hb1.mono HB.out.size))
  clear HF1 hb1 x3 HB
  rcases hz with ⟨k, hk, rfl, hff⟩ | ⟨rfl, rfl⟩
  · have hRW := HR.out.on HBW.out
    obtain ⟨b, off, rfl, hbl, -, -, -, c3, -⟩ := hRW.part hk
    have hmem := List.getElem_mem hk
    have HHS := Lib.hid (hRW.has _ hmem).1
    have hhl := HLEN.out _ hmem
    have HFF := Lib.hid hff
    clear hff
    generalize R[k].x.has = hs at *
    generalize R[k].h.1 = hA at *
    generalize R[k].h.2 = hc at *
    have hkn : (k : Int) < (n : Int) := by omega
    clear hRW HLEN
    go_wp2_with fail
    go_loopw [6, 19] (fun _ s19 wr => ∃ j : Nat, j ≤ hs.length ∧ s19 = .int .i64 (j : Int) ∧ Hid (∀ i, (hi : i < hs.length) → i < j → hs[i] = true) ∧ wr = w1) (fun _ s19 _ => hs.length - (intOf s19).toNat)
    case atStart => exact ⟨0, Nat.zero_le _, rfl, fun i _ h => absurd h (Nat.not_lt_zero _), rfl⟩
    case round =>
      obtain ⟨j, hj, rfl, hK, rfl⟩ := hrel
      by_cases hlt : j < hs.length
      · obtain ⟨bb, o2, rfl, hbb, -, hcell⟩ := HHS.out (by intro e; have h9 := bvl_at hlt; rw [e] at h9; simp at h9)
        have cj := hcell j _ (bvl_at hlt)
        have HST : Hid (hs[j] = false → firstF hs = j) := fun h1 => findIdx_stop hlt h1 hK.out
        have HNX : Hid (hs[j] = true → ∀ i, (hi : i < hs.length) → i < j + 1 → hs[i] = true) := fun h1 i hi h => by
          by_cases e : i = j
          · subst e; exact h1
          · exact hK.out i hi (by omega)
        clear hcell hK
        generalize hsj : hs[j] = sj at cj HST HNX
        clear hsj
        cases sj with
        | false =>
          have HS2 := Lib.hid (HST.out rfl)
          clear HST HNX
          go_wp2
          go_ret
          exact ⟨by rw [HFF.out, HS2.out]; rfl, HBW.out⟩
        | true =>
          have HS2 := Lib.hid (HNX.out rfl)
          clear HST HNX
          go_wp2
          go_roundw
          case rel => exact ⟨j + 1, by omega, by go_num, HS2.out, trivial⟩
          case measure => simp [intOf]; omega
      · have HS2 := Lib.hid (findIdx_none fun i hi => hK.out i hi (by omega))
        clear hK
        go_wp2
        go_ret
        exact ⟨by rw [HFF.out, HS2.out]; rfl, HBW.out⟩
  · clear HR HLEN y3
    go_wp2
    go_ret
    exact ⟨rfl, HBW.out⟩

/-- Are all there? -/
theorem refFull_any (hs : List Bool) (f0 s0 z0 : Value) (hA : Option Addr) (hc : Nat) (cv : Value) (w : World) (hL : Lies w w.heap.size hA (bvl hs)) (hl : hs.length ≤ 10000000) (g0 : ∃ i, f0 = .int .u8 i) (g1 : ∃ i, s0 = .int .u64 i) (g2 : ∃ i, z0 = .int .i64 i) (g3 : ∃ A n c, cv = .slice A n c) :
    Calls Tryd.prog 28 #[.agg #[f0, s0, z0, .slice hA hs.length hc, cv]] w fun e w' => e = .returned (.bool (hs.all fun b => b)) ∧ RowKit.Below w.heap.size w w' := by
  obtain ⟨a, rfl⟩ := g0
  obtain ⟨b, rfl⟩ := g1
  obtain ⟨d, rfl⟩ := g2
  obtain ⟨A4, n4, c4, rfl⟩ := g3
  have HL := Lib.hid hL
  clear hL
  go_enter Tryd.func28, Tryd.ntmps28
  go_wp2_with fail
  generalize hw0 : World.alloc w _ = w0
  obtain ⟨hs0, hG, hcc⟩ := box1 w w0 _ _ hw0
  have hb0 : RowKit.Below w.heap.size w w0 := hG.below
  have x3 := hcc 3 _ rfl
  have HB := Lib.hid hb0
  have HL0 := Lib.hid (HL.out.later hb0)
  clear hcc hw0 hG hb0 HL
  go_wp2_with fail
  go_loopw [3, 7] (fun _ s7 wr => ∃ j : Nat, j ≤ hs.length ∧ s7 = .int .i64 (j : Int) ∧ Hid (∀ i, (hi : i < hs.length) → i < j → hs[i] = true) ∧ wr = w0) (fun _ s7 _ => hs.length - (intOf s7).toNat)
  case atStart => exact ⟨0, Nat.zero_le _, rfl, fun i _ h => absurd h (Nat.not_lt_zero _), rfl⟩
  case round =>
    obtain ⟨j, hj, rfl, hK, rfl⟩ := hrel
    by_cases hlt : j < hs.length
    · obtain ⟨bb, o2, rfl, hbb, cj⟩ := HL0.out.at_ (bvl_at hlt)
      have HST : Hid (hs[j] = false → (hs.all fun b => b) = false) := fun h1 => by
        show (hs.all fun b => b) = false
        rw [List.all_eq_false]
        exact ⟨hs[j], List.getElem_mem hlt, by rw [h1]; simp⟩
      have HNX : Hid (hs[j] = true → ∀ i, (hi : i < hs.length) → i < j + 1 → hs[i] = true) := fun h1 i hi h => by
        by_cases e : i = j
        · subst e; exact h1
        · exact hK.out i hi (by omega)
      clear hK
      generalize hsj : hs[j] = sj at cj HST HNX
      clear hsj
      cases sj with
      | false =>
        have HS2 := Lib.hid (HST.out rfl)
        clear HST HNX
        go_wp2
        go_ret
        exact ⟨by rw [HS2.out]; rfl, HB.out⟩
      | true =>
        have HS2 := Lib.hid (HNX.out rfl)
        clear HST HNX
        go_wp2
        go_roundw
        case rel => exact ⟨j + 1, by omega, by go_num, HS2.out, trivial⟩
        case measure => simp [intOf]; omega
    · have HS2 : Hid ((hs.all fun b => b) = true) := by
        show (hs.all fun b => b) = true
        rw [List.all_eq_true]
        intro b hb
        obtain ⟨i, hi, rfl⟩ := List.getElem_of_mem hb
        exact hK.out i hi (by omega)
      clear hK
      go_wp2
      go_ret
      exact ⟨by rw [HS2.out]; rfl, HB.out⟩
end

end Go.Proofs.YthkongnjokmmfaaDoor
