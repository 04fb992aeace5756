/- Stage 14: the document's example (awake). -/
import Derived.Test.YtnpdjlcekmpmoaaSoL
set_option maxRecDepth 20000
namespace Go.Proofs.Ytnpdjlcekmpmoaa
open Go.RowKit Go.Sort Go.Maps

theorem vecIs_one (A : Option Addr) (c B : Nat) (a k : Nat) (w : World) (h : Lies w B A (uvs [a])) (hak : a = k) : Calls Try.prog 25 #[.slice A 1 c, .int .u64 (k : Int)] w fun e w' => e = .returned (.bool true) ∧ w = w' := by
  subst hak
  obtain ⟨b, off, rfl, hb, hc⟩ := h.at_ (k := 0) (u := .int .u64 (a : Int)) rfl
  have he : ((a : Int) == (a : Int)) = true := beq_iff_eq.2 rfl
  clear h
  simp only [Nat.add_zero] at hc
  go_enter Try.func25, Try.ntmps25
  go_wp2
  go_ret
  exact ⟨rfl, rfl⟩

def xa2 : Id := ⟨0, 2, by decide, by decide⟩
def xa1 : Id := ⟨0, 1, by decide, by decide⟩
def ma0 : Sm := Sm.new 1 9
def ma1 : Sm := ma0.put xa2 [98]
def ma2 : Sm := ma1.put xa1 [97]
theorem ma1_takes : ma0.takes xa2 [98] = true := by decide
theorem ma2_takes : ma1.takes xa1 [97] = true := by decide
theorem ma1_held : ma1.held = [0] := by decide
theorem ma2_held : ma2.held = [2] := by decide
theorem ma_len : ma0.l.length = 0 ∧ ma1.l.length = 1 := by decide

theorem lies_marked (w : World) (cs : Array Value) (t : TypeId) (fr : Nat × Nat) : Lies (w.alloc (.cells cs t fr)) (w.heap.size + 1) (some ⟨w.heap.size, 0, none⟩) cs.toList := fun _ =>
  ⟨w.heap.size, 0, rfl, by omega, fun i u hu => by
    have h : (w.alloc (.cells cs t fr)).heap[w.heap.size]? = some (.cells cs t fr) := heap_alloc_new w _
    have := World.news_of_block (w := w.alloc (.cells cs t fr)) (B := w.heap.size) h i u hu
    rwa [add_plain] at this⟩

theorem conv_const (W : World) (C : Array Value) (n c b : Nat) (hb : b = W.heap.size) : (convert 34 34 (.slice (some ⟨b, 0, none⟩) n c)).run Try.prog (W.alloc (.cells C 5)) = .ok (.slice (some ⟨b, 0, none⟩) n c) (W.alloc (.cells C 5 (C.size, C.size + 1))) := by
  subst hb
  exact Lib.run_convert_bytes_const (P := Try.prog) W 34 5 C n c Try.underlying34 Try.underlying5

theorem ma_fl : ma2.l.length = 2 := by decide

theorem bytes_one (w : World) (c : UInt8) (fr : Nat × Nat) : Lies (w.alloc (.cells #[bv c] 5 fr)) (w.alloc (.cells #[bv c] 5 fr)).heap.size (some ⟨w.heap.size, 0, none⟩) (bvs [c]) := (lies_marked w #[bv c] 5 fr).more (by simp)

set_option maxHeartbeats 800000 in
theorem awake_any (W : World) : Calls Try.prog 8 #[] W fun e w' => e = .returned (.bool true) ∧ RowKit.Below W.heap.size W w' := by
  have kc := conv_const
  go_enter Try.func8, Try.ntmps8
  go_wp2_with fail
  refine (new_any 1 9 (by omega) W).mono ?_
  rintro e w1 ⟨g, mb, fb, rfl, h1, hb1⟩
  have H1 := Lib.hid h1
  have HB1 := Lib.hid hb1
  clear h1 hb1
  unfold sptr
  go_wp2_with fail
  have P1 := put_any (H1.out.on ((RowKit.Below.refl _ _).alloc (Nat.le_refl _) (.cells #[bv 98] 5 (1, 2)))) xa2 [98] (n := 1) (c := 1) rfl (by omega) (bytes_one w1 98 (1, 2)) (by decide)
  refine (show Calls Try.prog 19 #[.pointer (some ⟨g, 0, none⟩), .agg #[.int .u8 0, .int .u64 2], .slice (some ⟨w1.heap.size, 0, none⟩) 1 1] (w1.alloc (.cells #[.int .u8 98] 5 (1, 2))) _ from P1).mono ?_
  rintro e w2 ⟨rfl, h2, ho2⟩
  rw [show (Sm.new 1 9).takes xa2 [98] = true from ma1_takes]
  have H2 := Lib.hid (show StAt w2 W.heap.size g mb fb ma1 (own3 g mb fb) from h2)
  have HB2 : Hid (RowKit.Below W.heap.size W w2) := by
    have h3 := ho2.below (B := W.heap.size) (fun k hk => (H1.out.din k hk).1) (by have := HB1.out.size; simp; omega)
    exact (HB1.out.alloc HB1.out.size _).trans h3
  clear P1 h2 ho2 H1 HB1
  go_wp2_with fail
  refine (held_any H2.out).mono ?_
  rintro e w3 ⟨A, n, c, rfl, hl, hnc, hcm, hown3, hb3⟩
  obtain rfl : n = 1 := by rw [← hl.out, ma1_held]; rfl
  rw [ma1_held] at hown3
  have HO3 := Lib.hid (show LiesX w3 (own3 g mb fb) A (uvs [0]) from LiesX.of_own hown3 fun k hk => (H2.out.din k hk).2)
  have H3 := Lib.hid (H2.out.on hb3)
  have HB3 := Lib.hid (HB2.out.trans (hb3.mono HB2.out.size))
  clear hown3 hb3 H2 HB2 hl
  go_wp2_with fail
  have P1 := put_any (H3.out.on ((RowKit.Below.refl _ _).alloc (Nat.le_refl _) (.cells #[bv 97] 5 (1, 2)))) xa1 [97] (n := 1) (c := 1) rfl (by omega) (bytes_one w3 97 (1, 2)) (by decide)
  refine (show Calls Try.prog 19 #[.pointer (some ⟨g, 0, none⟩), .agg #[.int .u8 0, .int .u64 1], .slice (some ⟨w3.heap.size, 0, none⟩) 1 1] (w3.alloc (.cells #[.int .u8 97] 5 (1, 2))) _ from P1).mono ?_
  rintro e w4 ⟨rfl, h4, ho4⟩
  rw [ma2_takes]
  have H4 := Lib.hid (show StAt w4 W.heap.size g mb fb ma2 (own3 g mb fb) from h4)
  have HB4 : Hid (RowKit.Below W.heap.size W w4) := by
    have h3 := ho4.below (B := W.heap.size) (fun k hk => (H3.out.din k hk).1) (by have := HB3.out.size; simp; omega)
    exact (HB3.out.alloc HB3.out.size _).trans h3
  have L4 : Hid (Lies w4 w4.heap.size A (uvs [0])) := by
    exact ((HO3.out.kept (OnlyE.of_below ((RowKit.Below.refl _ _).alloc (Nat.le_refl _) _))).kept ho4).lies
  clear P1 h4 ho4 H3 HB3 HO3
  go_wp2_with fail
  refine (vecIs_one A c w4.heap.size 0 0 w4 L4.out rfl).mono ?_
  rintro e w5 ⟨rfl, rfl⟩
  clear L4
  go_wp2_with fail
  refine (held_any H4.out).mono ?_
  rintro e w6 ⟨A6, n6, c6, rfl, hl, hnc6, hcm6, hown6, hb6⟩
  obtain rfl : n6 = 1 := by rw [← hl.out, ma2_held]; rfl
  rw [ma2_held] at hown6
  have L6 := Lib.hid (Lies.of_own hown6)
  have HB6 := Lib.hid (HB4.out.trans (hb6.mono HB4.out.size))
  clear hown6 hb6 hl H4 HB4
  go_wp2_with fail
  refine (vecIs_one A6 c6 w6.heap.size 2 2 w6 L6.out rfl).mono ?_
  rintro e w7 ⟨rfl, rfl⟩
  clear L6
  go_wp2
  go_ret
  exact ⟨rfl, HB6.out⟩

end Go.Proofs.Ytnpdjlcekmpmoaa
