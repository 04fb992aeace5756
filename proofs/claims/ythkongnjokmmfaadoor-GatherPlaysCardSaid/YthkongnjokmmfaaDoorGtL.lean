/- Stage 13: Count; First (the door seat alone). -/
import Derived.Test.YthkongnjokmmfaaDoorGtK
import Derived.Test.YthkongnjokmmfaaDoorGtE
set_option maxRecDepth 20000
namespace Go.Proofs.YthkongnjokmmfaaDoor
open Go.RowKit Go.Sort

section
variable {w : World} {base gp : Nat} {T : Value} {L : List Pz} {g : Gm} {D : Nat → Prop}
/-- Count of what was made, and of others. -/
theorem count_no (gp : Nat) (w : World) (k : Nat) (hk : 6 ≤ k) (hk2 : k < 256) : Calls Tryd.prog 18 #[.pointer (some ⟨gp, 0, none⟩), .int .u8 (k : Int)] w fun e w' => e = .returned (.int .i64 0) ∧ w = w' := by
  have hc : decide ((6 : Int) ≤ (k : Int)) = true := by simp; omega
  have hw : IntKind.i64.wrap (k : Int) = (k : Int) := by rw [IntKind.wrap_i64] <;> omega
  go_enter Tryd.func18, Tryd.ntmps18
  go_wp2
  go_ret
  exact ⟨rfl, rfl⟩
theorem gcount_any (h : GtAt w base gp T L g D) (k : Nat) (hk : k < 256) : Calls Tryd.prog 18 #[.pointer (some ⟨gp, 0, none⟩), .int .u8 (k : Int)] w fun e w' => e = .returned (.int .i64 (if k < 6 then g.counts.getD k 0 else 0 : Nat)) ∧ w = w' := by
  by_cases h6 : k < 6
  · rw [if_pos h6]
    have cn := h.cn h6
    generalize g.counts.getD k 0 = cc at cn ⊢
    clear h
    have hc : decide ((6 : Int) ≤ (k : Int)) = false := decide_eq_false (by omega)
    have hw : IntKind.i64.wrap (k : Int) = (k : Int) := by rw [IntKind.wrap_i64] <;> omega
    go_enter Tryd.func18, Tryd.ntmps18
    go_wp2
    go_ret
    exact ⟨rfl, rfl⟩
  · rw [if_neg h6]
    exact count_no gp w k (by omega) hk

theorem lack_first {m : List Bool} (h : (m.all fun b => b) = false) : missL m 0 1 = [firstF m] := by
  have hr : m.findIdx (fun b => !b) < m.length := by
    rw [List.findIdx_lt_length]
    rw [List.all_eq_false] at h
    obtain ⟨b, hb, h⟩ := h
    exact ⟨b, hb, by simpa using h⟩
  have h1 := List.findIdx_getElem (w := hr)
  have hlow : ∀ j, j < m.findIdx (fun b => !b) → msP m 0 j = false := fun j hj => by
    have h2 := List.not_of_lt_findIdx hj
    unfold msP
    rw [List.getD_eq_getElem?_getD, List.getElem?_eq_getElem (by omega)]
    simpa using h2
  have hat : msP m 0 (m.findIdx (fun b => !b)) = true := by
    unfold msP
    rw [List.getD_eq_getElem?_getD, List.getElem?_eq_getElem hr]
    simpa using h1
  unfold firstF
  rw [if_pos hr]
  generalize m.findIdx (fun b => !b) = r at *
  have e0 : upTo m 0 r = [] := by
    unfold upTo
    rw [List.filter_eq_nil_iff]
    intro j hj
    rw [hlow j (List.mem_range.1 hj)]
    simp
  have e1 := upTo_yes hat
  rw [e0] at e1
  unfold missL
  have e2 : upTo m 0 m.length = [r] ++ ((List.range (m.length - (r + 1))).map ((r + 1) + ·)).filter (msP m 0) := by
    have : m.length = (r + 1) + (m.length - (r + 1)) := by omega
    unfold upTo at e1 ⊢
    rw [this, List.range_add, List.filter_append, e1]
    simp
  rw [e2]
  simp

set_option maxHeartbeats 1600000 in
theorem first_g (h : GtAt w base gp T L g D) (hok : g.Ok) (hL : L.length ≤ 1000000) (hT : Tab w) (x : Id) : Calls Tryd.prog 16 #[.pointer (some ⟨gp, 0, none⟩), valId x] w fun e w' => e = .returned (.int .i64 (g.first x : Int)) ∧ RowKit.Below w.heap.size w w' := by
  have HFI := Lib.hid (fun W (hW : RowKit.Below w.heap.size w W) => find_any (h.on hW) hL x)
  have hll := h.len
  by_cases hi : idxP g.l x < L.length
  · have e : ptrOf L x = .pointer (some ⟨L[idxP g.l x].p, 0, none⟩) := by
      unfold ptrOf
      rw [← h.gl, dif_pos hi]
      rfl
    have hlack : (L[idxP g.l x].x.has.all fun b => b) = false := by
      have := (hok.parts _ (List.getElem_mem (by omega : idxP g.l x < g.l.length))).lack
      rw [h.at_ hi] at this
      exact this
    have ef : g.first x = firstF L[idxP g.l x].x.has := by
      unfold Gm.first
      rw [dif_pos (by omega), h.at_ hi]
    rw [ef]
    have HM : Hid (∀ W, RowKit.Below w.heap.size w W → Calls Tryd.prog 35 #[.pointer (some ⟨L[idxP g.l x].s, 0, none⟩), .int .i64 0, .int .i64 1] W fun e w' => OwnedK W W.heap.size [firstF L[idxP g.l x].x.has] e w') := fun W hW => by
      have := missing_any ((h.on hW).part hi).set (hT.on hW) 0 0 rfl 1
      rw [lack_first hlack] at this
      exact this
    have HP : Hid (∀ W, RowKit.Below w.heap.size w W → W.cell? ⟨L[idxP g.l x].p, 0, none⟩ = some (.pointer (some ⟨L[idxP g.l x].s, 0, none⟩))) := fun W hW => ((h.on hW).part hi).c0
    rw [e] at HFI
    clear h hok hT e ef hlack
    generalize firstF L[idxP g.l x].x.has = ff at *
    generalize L[idxP g.l x].p = pp at *
    generalize L[idxP g.l x].s = ss at *
    unfold valId at *
    go_enter Tryd.func16, Tryd.ntmps16
    go_wp2_with fail
    generalize hw0 : World.alloc w _ = w0
    obtain ⟨hs0, hG, hcc⟩ := box1 w w0 _ _ hw0
    have hb0 : RowKit.Below w.heap.size w w0 := hG.below
    have x0 := hcc 0 _ rfl
    have x1 := hcc 1 _ rfl
    have HF1 := Lib.hid (HFI.out w0 hb0)
    clear hcc hw0 hG HFI
    go_wp2_with fail
    refine HF1.out.mono ?_
    rintro e w1 ⟨rfl, hb1⟩
    have HB1 := Lib.hid (hb0.trans (hb1.mono hb0.size))
    have y0 := HP.out w1 HB1.out
    have HM1 := Lib.hid (HM.out w1 HB1.out)
    clear HF1 HP HM hb0 hb1 x0 x1
    go_wp2_with fail
    refine HM1.out.mono ?_
    rintro e w2 ⟨A, n, c, rfl, hn, h1, h2, ho, hb2⟩
    have hn1 : n = 1 := hn.out.symm
    subst hn1
    obtain ⟨b, off, rfl, hbl, hc⟩ := (Lies.of_own ho) (by simp [kvs])
    have hc0 := hc 0 (.int .i64 (ff : Int)) rfl
    rw [Nat.add_zero] at hc0
    have HB2 := Lib.hid (HB1.out.trans (hb2.mono HB1.out.size))
    clear HM1 ho hb2 hc hn y0
    go_wp2
    go_ret
    exact ⟨rfl, HB2.out⟩
  · have e : ptrOf L x = .pointer none := by
      unfold ptrOf
      rw [← h.gl, dif_neg hi]
    have ef : g.first x = 0 := by
      unfold Gm.first
      rw [dif_neg (by omega)]
    rw [e] at HFI
    rw [ef]
    clear h hok hT e ef
    unfold valId at *
    go_enter Tryd.func16, Tryd.ntmps16
    go_wp2_with fail
    generalize hw0 : World.alloc w _ = w0
    obtain ⟨hs0, hG, hcc⟩ := box1 w w0 _ _ hw0
    have hb0 : RowKit.Below w.heap.size w w0 := hG.below
    have x0 := hcc 0 _ rfl
    have x1 := hcc 1 _ rfl
    have HF1 := Lib.hid (HFI.out w0 hb0)
    clear hcc hw0 hG HFI
    go_wp2_with fail
    refine HF1.out.mono ?_
    rintro e w1 ⟨rfl, hb1⟩
    have HB1 := Lib.hid (hb0.trans (hb1.mono hb0.size))
    clear HF1 hb0 hb1 x0 x1
    go_wp2
    go_ret
    exact ⟨rfl, HB1.out⟩
end

end Go.Proofs.YthkongnjokmmfaaDoor
