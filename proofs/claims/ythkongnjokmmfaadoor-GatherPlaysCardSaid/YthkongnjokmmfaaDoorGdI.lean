/- Stage 13: the document's Drop (the door seat alone). -/
import Derived.Test.YthkongnjokmmfaaDoorGdG
import Derived.Test.YthkongnjokmmfaaDoorGdC

set_option maxRecDepth 20000
namespace Go.Proofs.YthkongnjokmmfaaDoor
open Go.RowKit Go.Sort

section
variable {w : World} {D : Nat → Prop} {A : Option Addr} {n c : Nat} {R : List Rp} {m : Gm}
theorem drop_fnd (m : Gm) (x : Id) : (∃ k, k < m.l.length ∧ fndZ m.l x = (k : Int) ∧ m.drop x = ({ m with l := m.l.eraseIdx k }, 1)) ∨ (fndZ m.l x = -1 ∧ m.drop x = (m, 0)) := by
  unfold fndZ Gm.drop
  by_cases hi : idxP m.l x < m.l.length
  · left
    exact ⟨_, hi, by rw [if_pos hi], by rw [if_pos hi]⟩
  · right
    rw [if_neg hi, if_neg hi]
    exact ⟨rfl, rfl⟩
end

end Go.Proofs.YthkongnjokmmfaaDoor

set_option maxRecDepth 20000
namespace Go.Proofs.YthkongnjokmmfaaDoor
open Go.RowKit Go.Sort

section
variable {w : World} {D : Nat → Prop} {A : Option Addr} {n c : Nat} {R : List Rp} {m : Gm}
/-- Behind a store into the result's block. -/
theorem RgAt.result {W : World} {g : Nat} {cs : Array Value} (h : RgAt W (fun k => D k ∨ k = g) A n c R m) : RgAt (W.setRow g cs) D A n c R m :=
  (h.kept (OnlyE.mono (OnlyE.of_grown (D := fun k => k = g) (grown_setRow W g cs) rfl) fun _ hk => .inr hk)).widen fun _ hk => .inr (.inl hk)

set_option maxRecDepth 100000 in
set_option maxHeartbeats 3200000 in
theorem refDrop_any (h : RgAt w D A n c R m) (hn : n ≤ 1000000) (hD : ∀ k, D k → k < w.heap.size) (x : Id) :
    Calls Tryd.prog 12 #[.agg (rgCells (.slice A n c) m), valId x] w fun e w' => ∃ A' n' c' R', e = .returned (.tuple #[.agg (rgCells (.slice A' n' c') (m.drop x).1), .int .i64 ((m.drop x).2 : Int)]) ∧ RgAt w' D A' n' c' R' (m.drop x).1 ∧ RowKit.Below w.heap.size w w' := by
  have hml := h.mlen
  have hh : RgAt w (fun k => D k ∨ k = w.heap.size + 2) A n c R m := h.widen fun k hk => hk.elim .inr fun e => .inl (by omega)
  have HFI := Lib.hid (fun W (hW : RowKit.Below w.heap.size w W) => refFind_any (hh.on hW) hn x)
  have HWO := Lib.hid (fun W (hW : RowKit.Below w.heap.size w W) (h3 : w.heap.size + 2 < W.heap.size) (k : Nat) (hk : k < n) => refWithout_any (hh.on hW) hn (fun b hb => hb.elim (fun e => by have := hD b e; omega) fun e => by omega) k hk)
  have HH := Lib.hid hh
  have hcs := drop_fnd m x
  generalize hdr : m.drop x = dr at *
  obtain ⟨g', k'⟩ := dr
  clear h hh hdr
  have hsz := rg_size (.slice A n c) m
  have hone := rg_one A n c m
  obtain ⟨cs, hce⟩ : ∃ cs, rgCells (.slice A n c) m = cs := ⟨_, rfl⟩
  have HCE := Lib.hid hce
  rw [hce] at hsz hone HFI HWO ⊢
  have HSZ := Lib.hid hsz
  have HON := Lib.hid hone
  clear hce hsz hone
  unfold valId at *
  generalize fndZ m.l x = fz at *
  obtain ⟨w0, hw0⟩ : ∃ w0, w0 = ((w.alloc (.cells cs 32)).alloc (.cells #[.int .u8 (x.f : Int), .int .u64 (x.s : Int)] 25)).alloc (.cells #[.int .i64 0, .int .i64 0, .int .i64 0, .slice none 0 0, .int .u8 0, .int .u64 0, .int .i64 0, .int .i64 0, .int .i64 0, .int .i64 0, .int .i64 0, .int .i64 0] 32) := ⟨_, rfl⟩
  obtain ⟨wI, hwI⟩ : ∃ wI, wI = (w.alloc (.cells cs 32)).alloc (.cells #[.int .u8 (x.f : Int), .int .u64 (x.s : Int)] 25) := ⟨_, rfl⟩
  obtain ⟨hsI, hGI, hccI, hddI⟩ := box2 w wI _ _ _ _ hwI.symm
  have hbI0 : RowKit.Below wI.heap.size wI w0 := by rw [hw0, ← hwI]; exact (RowKit.Below.refl _ _).alloc (Nat.le_refl _) _
  have hs0 : w0.heap.size = w.heap.size + 3 := by rw [hw0]; simp
  have hb0 : RowKit.Below w.heap.size w w0 := hGI.below.trans (hbI0.mono hGI.below.size)
  have rB : w0.heap[w.heap.size]? = some (.cells cs 32 (0, 0)) := (hbI0.block _ (by omega)).trans (by rw [hwI]; exact alloc2_old w _ _ _)
  have rR : w0.heap[w.heap.size + 1 + 1]? = some (.cells #[.int .i64 0, .int .i64 0, .int .i64 0, .slice none 0 0, .int .u8 0, .int .u64 0, .int .i64 0, .int .i64 0, .int .i64 0, .int .i64 0, .int .i64 0, .int .i64 0] 32 (0, 0)) := by
    rw [hw0, ← hwI, ← hsI]
    exact heap_alloc_new wI (.cells _ _ (0, 0))
  have i0 := (hbI0.cell (p := ⟨w.heap.size + 1, 0, none⟩) (by show w.heap.size + 1 < wI.heap.size; omega)).trans (hddI 0 _ rfl)
  have i1 := (hbI0.cell (p := ⟨w.heap.size + 1, 1, none⟩) (by show w.heap.size + 1 < wI.heap.size; omega)).trans (hddI 1 _ rfl)
  have HW0 := Lib.hid hw0
  have HRB := Lib.hid rB
  have HRR := Lib.hid rR
  have HB0 := Lib.hid hb0
  have HFI0 := Lib.hid (HFI.out w0 hb0)
  clear hw0 hwI hsI hGI hccI hddI hbI0 hb0 rB rR HFI wI
  go_enter Tryd.func12, Tryd.ntmps12
  go_wp2_with (first | (rw [← HW0.out]; refine load_Rg (.tmp 2) rfl HRB.out HSZ.out ?_) | fail)
  refine HFI0.out.mono ?_
  rintro e w1 ⟨rfl, hb1⟩
  have HR1 := Lib.hid ((hb1.block w.heap.size (by omega)).trans HRB.out)
  have HRR1 := Lib.hid ((hb1.block (w.heap.size + 1 + 1) (by omega)).trans HRR.out)
  have HB1 := Lib.hid (HB0.out.trans (hb1.mono HB0.out.size))
  have hs1 : w.heap.size + 2 < w1.heap.size := by have := hb1.size; omega
  clear i0 i1 hb1 HFI0 HRB HRR HB0 HW0
  rcases hcs with ⟨k, hk, rfl, hdr⟩ | ⟨rfl, hdr⟩
  · have HW1 := Lib.hid (HWO.out w1 HB1.out hs1 k (by omega))
    clear HWO
    have hk0 : decide ((k : Int) < 0) = false := decide_eq_false (by omega)
    have HDR := Lib.hid hdr
    clear hdr
    go_wp2_with (first | (refine load_Rg (.tmp 2) rfl HR1.out HSZ.out ?_) | fail)
    refine HW1.out.mono ?_
    rintro e w2 ⟨A', c', rfl, hR2, hb2⟩
    have HRR2 := Lib.hid ((hb2.block (w.heap.size + 1 + 1) (by omega)).trans HRR1.out)
    have hb3 : RowKit.Below w.heap.size w w2 := HB1.out.trans (hb2.mono HB1.out.size)
    obtain ⟨ds, hds⟩ : ∃ ds, rgCells (.slice A' (n - 1) c') { m with l := m.l.eraseIdx k } = ds := ⟨_, rfl⟩
    have hdz : ds.size = 12 := by rw [← hds]; rfl
    have hd1 : ds.all (·.oneCell') = true := by rw [← hds]; exact rg_one A' (n - 1) c' _
    have HDZ := Lib.hid hdz
    have HD1 := Lib.hid hd1
    have HDS := Lib.hid hds
    have HRES := Lib.hid (hR2.result (g := w.heap.size + 2) (cs := ds))
    have HBE := Lib.hid (hb3.trans (OnlyE.below (B := w.heap.size) (OnlyE.of_grown (D := fun k => k = w.heap.size + 2) (grown_setRow w2 (w.heap.size + 2) ds) rfl) (fun k hk => by omega) (by have := hb2.size; omega)))
    have HROW := Lib.hid (setRow_heap w2 (w.heap.size + 2) _ ds 32 (0, 0) HRR2.out)
    rw [hds]
    clear hds hdz hd1 hb2 hb3 hR2 HW1 HR1 HRR1 HB1
    go_wp2_with (first | (refine store_Rg (.tmp 4) (.tmp 15) rfl rfl HRR2.out rfl HDZ.out HD1.out ?_) | fail)
    have e := HDR.out
    injection e with e1 e2
    subst e1 e2
    exact bodyPost_ret (results_cell_tmp rfl _ _ (w.heap.size + 1 + 1) _ rfl (run_loadVar_row _ (w.heap.size + 1 + 1) _ _ ds (0, 0) _ HROW.out Tryd.underlying32 rfl (infoRg HDZ.out))) rfl ⟨A', n - 1, c', R.eraseIdx k, by rw [HDS.out]; rfl, HRES.out, HBE.out⟩
  · have HDR := Lib.hid hdr
    have HRES := Lib.hid (((HH.out.on HB1.out)).result (g := w.heap.size + 2) (cs := cs))
    have HBE := Lib.hid (HB1.out.trans (OnlyE.below (B := w.heap.size) (OnlyE.of_grown (D := fun k => k = w.heap.size + 2) (grown_setRow w1 (w.heap.size + 2) cs) rfl) (fun k hk => by omega) (by omega)))
    have HROW := Lib.hid (setRow_heap w1 (w.heap.size + 2) _ cs 32 (0, 0) HRR1.out)
    clear hdr HWO HB1
    go_wp2_with (first | (refine load_Rg (.tmp 2) rfl HR1.out HSZ.out ?_) | (refine store_Rg (.tmp 4) (.tmp 12) rfl rfl HRR1.out rfl HSZ.out HON.out ?_) | fail)
    have e := HDR.out
    injection e with e1 e2
    subst e1 e2
    exact bodyPost_ret (results_cell_tmp rfl _ _ (w.heap.size + 1 + 1) _ rfl (run_loadVar_row _ (w.heap.size + 1 + 1) _ _ cs (0, 0) _ HROW.out Tryd.underlying32 rfl (infoRg HSZ.out))) rfl ⟨A, n, c, R, by rw [HCE.out]; rfl, HRES.out, HBE.out⟩
end

end Go.Proofs.YthkongnjokmmfaaDoor
