/- Stage 13: the chapter's example. -/
import Derived.Test.YthkongnjokmmfaaDoorGtM
import Derived.Lib.SlBytesConst
set_option maxRecDepth 20000
namespace Go.Proofs.YthkongnjokmmfaaDoor
open Go.RowKit Go.Sort

theorem frAt_wf' (id : Id) (l : List UInt8) (k N a : Nat) (hn : l.length ≤ 100000) (hN : N ≤ 1000000) (ha : a < N) : (frAt id l k N a).Wf := by
  refine ⟨?_, ?_, ?_, ?_, ?_, ?_, ?_, ?_, ?_, ?_, ?_⟩
  all_goals first
    | (show (0 : Nat) < _; omega)
    | (show a < _; omega)
    | (show N < _; omega)
    | (show l.length < _; omega)
    | (intro _ h; cases h)
    | skip

def idA : Id := ⟨0, 1, by decide, by decide⟩
def abc : List UInt8 := [97, 98, 99]
def G0 : Gm := newG 2 9 9
theorem aw1 : (G0.put (mayB idA) (frAt idA abc 2 2 1)).2 = ([], 4) := by decide
theorem aw2 : ((G0.put (mayB idA) (frAt idA abc 2 2 1)).1.put (mayB idA) (frAt idA abc 2 2 0)).2 = (abc, 5) := by decide
theorem awN : cntN abc.length 2 = 2 := by decide
theorem Pf.X.frX {w : World} {D : Nat → Prop} {x : Pf} (h : x.X w D) : FrX w D x.F x.cs := ⟨x.p, rfl, h.1, h.2.1, h.2.2.1, h.2.2.2.1, h.2.2.2.2⟩

theorem lies_marked (w : World) (cs : Array Value) (t : TypeId) (fr : Nat × Nat) : Lies (w.alloc (.cells cs t fr)) (w.heap.size + 1) (some ⟨w.heap.size, 0, none⟩) cs.toList := fun _ =>
  ⟨w.heap.size, 0, rfl, by omega, fun i u hu => by
    have h : (w.alloc (.cells cs t fr)).heap[w.heap.size]? = some (.cells cs t fr) := heap_alloc_new w _
    have := World.news_of_block (w := w.alloc (.cells cs t fr)) (B := w.heap.size) h i u hu
    rwa [add_plain] at this⟩

theorem conv_const (W : World) (C : Array Value) (n c b : Nat) (hb : b = W.heap.size) : (convert 39 39 (.slice (some ⟨b, 0, none⟩) n c)).run Tryd.prog (W.alloc (.cells C 5)) = .ok (.slice (some ⟨b, 0, none⟩) n c) (W.alloc (.cells C 5 (C.size, C.size + 1))) := by
  subst hb
  exact Lib.run_convert_bytes_const (P := Tryd.prog) W 39 5 C n c Tryd.underlying39 Tryd.underlying5

/-- A new chunk is put. -/
theorem put_new {W w2 : World} {base gp : Nat} {T : Value} {L : List Pz} {g : Gm} {D : Nat → Prop} {x : Pf} {F : Fr} {d : List UInt8} {mk : Nat} (h : GtAt W base gp T L g D) (hok : g.Ok) (hwt : g.weight ≤ 100000) (hx : x.F = F) (hb : RowKit.Below W.heap.size W w2) (hown : x.Own w2 W.heap.size) (hw : F.Wf) (hr : (g.put (mayB F.id) F).2 = (d, mk)) :
    Calls Tryd.prog 10 #[.pointer (some ⟨gp, 0, none⟩), .agg x.cs] w2 (Came w2 base gp D (g.put (mayB F.id) F).1 d mk) := by
  have h1 := put_g (h.on hb) hok hwt F x.cs (by rw [← hx]; exact (hown.toX fun k hk => (h.din k hk).2).frX) hw
  rw [hr] at h1
  exact h1

theorem lies_abc {W X : World} {b : Nat} {fr : Nat × Nat} (hX : X = W.alloc (.cells #[.int .u8 97, .int .u8 98, .int .u8 99] 5 fr)) (hb : b = W.heap.size) : Lies X X.heap.size (some ⟨b, 0, none⟩) (bvs abc) := by
  subst hX hb
  have := lies_marked W #[.int .u8 97, .int .u8 98, .int .u8 99] 5 fr
  exact this.more (by simp)

set_option maxHeartbeats 3200000 in
theorem awake_any (w : World) : Calls Tryd.prog 5 #[] w fun e w' => e = .returned (.bool true) ∧ RowKit.Below w.heap.size w w' := by
  have HP1 : Hid (∀ W b, Lies W W.heap.size (some ⟨b, 0, none⟩) (bvs abc) → Calls Tryd.prog 22 #[.agg #[.int .u8 0, .int .u64 1], .slice (some ⟨b, 0, none⟩) 3 3, .int .i64 2, .int .i64 1] W fun e w' => ∃ x : Pf, e = .returned (.agg x.cs) ∧ x.F = frAt idA abc 2 2 1 ∧ x.Own w' W.heap.size ∧ RowKit.Below W.heap.size W w') := fun W b h => piece_any idA (some ⟨b, 0, none⟩) 3 abc 2 1 W (by decide) (by decide) (by unfold maxLen; omega) h (by omega) (by omega) (by decide)
  have HP0 : Hid (∀ W b, Lies W W.heap.size (some ⟨b, 0, none⟩) (bvs abc) → Calls Tryd.prog 22 #[.agg #[.int .u8 0, .int .u64 1], .slice (some ⟨b, 0, none⟩) 3 3, .int .i64 2, .int .i64 0] W fun e w' => ∃ x : Pf, e = .returned (.agg x.cs) ∧ x.F = frAt idA abc 2 2 0 ∧ x.Own w' W.heap.size ∧ RowKit.Below W.heap.size W w') := fun W b h => piece_any idA (some ⟨b, 0, none⟩) 3 abc 2 0 W (by decide) (by decide) (by unfold maxLen; omega) h (by omega) (by omega) (by decide)
  have kc := conv_const
  go_enter Tryd.func5, Tryd.ntmps5
  go_wp2_with fail
  refine (newG_any 2 9 9 (by omega) w).mono ?_
  rintro e w1 ⟨rfl, hg, hb, hs⟩
  have HG := Lib.hid hg
  have HB := Lib.hid hb
  clear hg hb
  go_wp2_with fail
  generalize hwI : World.alloc w1 _ = wI
  generalize hwA : World.alloc wI _ = wA
  have hsI : wI.heap.size = w1.heap.size + 1 := by rw [← hwI]; simp
  have hbI : RowKit.Below w1.heap.size w1 wI := by rw [← hwI]; exact (RowKit.Below.refl _ _).alloc (Nat.le_refl _) _
  have hi0 : wI.cell? ⟨w.heap.size + 1, 0, none⟩ = some (.int .u8 0) := by
    rw [← hwI, ← hs]; exact (cell_of_row _ _ 0 _ _ _ (heap_alloc_new w1 _))
  have hi1 : wI.cell? ⟨w.heap.size + 1, 1, none⟩ = some (.int .u64 1) := by
    rw [← hwI, ← hs]; exact (cell_of_row _ _ 1 _ _ _ (heap_alloc_new w1 _))
  have hbA : RowKit.Below wI.heap.size wI wA := by rw [← hwA]; exact (RowKit.Below.refl _ _).alloc (Nat.le_refl _) _
  refine (HP1.out wA (w.heap.size + 1 + 1) (lies_abc hwA.symm (by omega))).mono ?_
  rintro e w2 ⟨x, rfl, hx, hown, hb2⟩
  have hbA2 : RowKit.Below w1.heap.size w1 wA := hbI.trans (hbA.mono hbI.size)
  have HP := Lib.hid (put_new (HG.out.on hbA2) (newG_ok 2 9 9) (by decide) hx hb2 hown (frAt_wf' idA abc 2 2 1 (by decide) (by decide) (by decide)) aw1)
  have hbw2 : RowKit.Below wI.heap.size wI w2 := hbA.trans (hb2.mono hbA.size)
  have h20 := (hbw2.cell (p := ⟨w.heap.size + 1, 0, none⟩) (by show w.heap.size + 1 < wI.heap.size; omega)).trans hi0
  have h21 := (hbw2.cell (p := ⟨w.heap.size + 1, 1, none⟩) (by show w.heap.size + 1 < wI.heap.size; omega)).trans hi1
  have hsz2 : w.heap.size + 1 < w2.heap.size := by have := hbw2.size; omega
  have HB2 := Lib.hid (HB.out.trans ((hbI.trans (hbw2.mono hbI.size)).mono (by omega)))
  clear hi0 hi1 hwI hwA hbI hbA hbA2 hbw2 hown hb2 hsI hx HP1
  go_wp2_with fail
  refine HP.out.mono ?_
  rintro e w3 ⟨T1, L1, D1, vp, rfl, hg1, ho1, hd1, hd2, ht⟩
  have h30 := (ho1.cell (i := 0) hsz2 (by omega)).trans h20
  have h31 := (ho1.cell (i := 1) hsz2 (by omega)).trans h21
  have HG1 := Lib.hid hg1
  have HO1 := Lib.hid ho1
  have hsz3 : w.heap.size + 1 < w3.heap.size := Nat.lt_of_lt_of_le hsz2 ho1.size
  clear hg1 ho1 hd2 ht HP h20 h21
  have HD1 : Hid (∀ k, D1 k → w.heap.size ≤ k) := fun k hk => (hd1 k hk).elim (fun e => by omega) fun e => by omega
  clear hd1
  go_wp2_with fail
  generalize hwB : World.alloc w3 _ = wB
  have hbB : RowKit.Below w3.heap.size w3 wB := by rw [← hwB]; exact (RowKit.Below.refl _ _).alloc (Nat.le_refl _) _
  refine (HP0.out wB w3.heap.size (lies_abc hwB.symm rfl)).mono ?_
  rintro e w4 ⟨x2, rfl, hx2, hown2, hb4⟩
  have HPB := Lib.hid (put_new (HG1.out.on hbB) ((newG_ok 2 9 9).put _ _) (by have := put_weight (g := newG 2 9 9) (mayB idA) (frAt idA abc 2 2 1) rfl; have h2 : (newG 2 9 9).weight = 0 := rfl; exact Nat.le_trans this (by rw [h2]; decide)) hx2 hb4 hown2 (frAt_wf' idA abc 2 2 0 (by decide) (by decide) (by decide)) aw2)
  have HB4 := Lib.hid (hbB.trans (hb4.mono hbB.size))
  clear hwB hown2 hb4 hbB hx2 HP0 kc
  go_wp2_with fail
  refine HPB.out.mono ?_
  rintro e w5 ⟨T5, L5, D5, vp5, rfl, hg5, ho5, hd5, hd6, A5, n5, c5, rfl, h51, h52, h53, h54⟩
  have hst := strs_of h51 h54.lies
  have h51' : n5 = 3 := h51.symm
  subst h51'
  have hst' := fun c => hst c
  unfold Strs at hst
  have hfin : ((str abc).toList == [97, 98, 99]) = true := by unfold str; rw [ByteArray.toList_mk]; decide
  have HEND : Hid (RowKit.Below w.heap.size w w5) := by
    have e1 : OnlyE w w5 (fun k => w.heap.size ≤ k) := (OnlyE.of_below HB2.out).trans ((HO1.out.mono fun k hk => by omega).trans ((OnlyE.of_below HB4.out).trans (ho5.mono HD1.out)))
    exact e1.below (fun k hk => hk) (Nat.le_refl _)
  clear HG HB HB2 HG1 HO1 HD1 HB4 HPB hg5 ho5 hd5 hd6 h54 hst'
  go_wp2
  go_ret
  exact ⟨rfl, HEND.out⟩

end Go.Proofs.YthkongnjokmmfaaDoor
