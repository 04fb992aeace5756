/- Stage 14: the walks of what only reads: there, lacks, copyOf, Get, Used, Len, Floor. -/
import Derived.Test.YtnpdjlcekmpmoaaSoE
set_option maxRecDepth 20000
namespace Go.Proofs.Ytnpdjlcekmpmoaa
open Go.RowKit Go.Sort Go.Maps

def sptr (g : Nat) : Value := .pointer (some ⟨g, 0, none⟩)

theorem copyOf_any (A : Option Addr) (n c : Nat) (b : List UInt8) (W : World) (hn : n ≤ 1000) (hb : b.length = n) (h : Lies W W.heap.size A (bvs b)) :
    Calls Try.prog 33 #[.slice A n c] W (Owned W W.heap.size (bvs b)) := by
  obtain ⟨i0, hi, hz0, hz1, hz2⟩ := info_parts Try.info5
  have HB := Lib.hid hb
  clear hb
  go_enter Try.func33, Try.ntmps33
  go_wp2_with (at_builtin; refine wpList_append_lst rfl _ _ 34 rfl W.heap.size 5 i0 (.int .u8 0) 1 Try.underlying34 hi hz0 hz1 hz2 rfl _ 0 [] rfl (World.ownsRow_nil _ _ _ _) _ _ _ _ (bvs b) rfl ?d0 h (bvs_one _) ?d2 ?d3 (Nat.le_refl _) ?_)
  case d0 => rw [bvs_length]; exact HB.out
  case d2 => unfold maxLen; omega
  case d3 => omega
  intro v1 w1 hown hg hb _
  go_wp2
  go_ret
  exact Owned.of hown hb

section
variable {w : World} {base g mb fb : Nat} {m : Sm} {D : Nat → Prop}

theorem used_any (h : StAt w base g mb fb m D) : Calls Try.prog 12 #[sptr g] w fun e w' => e = .returned (.int .i64 (useL m.l : Int)) ∧ w = w' := by
  have c3 := h.c3
  clear h
  unfold sptr
  go_enter Try.func12, Try.ntmps12
  go_wp2
  go_ret
  exact ⟨rfl, rfl⟩

theorem len_any (h : StAt w base g mb fb m D) : Calls Try.prog 14 #[sptr g] w fun e w' => e = .returned (.int .i64 (m.l.length : Int)) ∧ w = w' := by
  have c0 := h.c0
  obtain ⟨E, e1, e2, -⟩ := h.map
  have HS := Lib.hid e2.size
  clear h e2
  unfold sptr
  go_enter Try.func14, Try.ntmps14
  go_wp2_with (at_len; refine wpList_len_own _ rfl _ 54 rfl 33 34 uMap slR mb _ E rfl e1 ?_)
  go_wp2
  go_ret
  exact ⟨by rw [← HS.out]; rfl, rfl⟩

theorem floor_any (h : StAt w base g mb fb m D) : Calls Try.prog 16 #[sptr g] w (OwnedV w w.heap.size m.fl) := by
  have c1 := h.c1
  have hc := clone_any (some ⟨fb, 0, none⟩) m.n m.n m.fl w h.ok.fl (by have := h.ok.n2; omega) h.floors
  clear h
  generalize m.n = n at c1 hc
  generalize m.fl = l at hc ⊢
  unfold sptr
  go_enter Try.func16, Try.ntmps16
  go_wp2_with (go_at_call 30; refine hc.mono ?_; rintro e w' ⟨A, n', c', rfl, h1, h2, h3, h4, h5⟩)
  go_wp2
  go_ret
  exact ⟨A, n', c', rfl, h1, h2, h3, h4, h5⟩

theorem there_any (h : StAt w base g mb fb m D) (x : Id) : Calls Try.prog 31 #[sptr g, valId x] w fun e w' => e = .returned (.bool (hasL m.l x)) ∧ RowKit.Below w.heap.size w w' := by
  have mixed := mixedOrders
  obtain ⟨A, n, c, hl, -⟩ := h.look x
  have c0 := h.c0
  have hlt := h.lt
  generalize hasL m.l x = q at hl ⊢
  clear h
  unfold sptr
  unfold valId at hl ⊢
  go_enter Try.func31, Try.ntmps31
  go_wp2_with fail
  generalize hw0 : World.alloc w _ = w0
  obtain ⟨hs0, hG, hcc⟩ := box1 w w0 _ _ hw0
  have hb0 : RowKit.Below w.heap.size w w0 := hG.below
  have x0 := later_cell (w0 := w0) (by omega) (hcc 0 _ rfl)
  have x1 := later_cell (w0 := w0) (by omega) (hcc 1 _ rfl)
  have y0 := later_cell (w0 := w0) (b := g) (by omega) ((hb0.cell (p := ⟨g, 0, none⟩) hlt).trans c0)
  have HL : ∀ p : Later w0, (Instr.lookup 54 (.map (some mb)) (.agg #[.int .u8 (x.f : Int), .int .u64 (x.s : Int)]) true).run Try.prog p.w = .ok (.tuple #[.slice A n c, .bool q]) p.w := fun p => hl p.w (hb0.trans (p.hb.mono hb0.size))
  clear hcc hw0 hG hl c0
  refine wp_region_later mixed (by kernel_rfl) ?_
  repeat (go_big_quiet_step (fail))
  refine wpQuiet_nil ?_
  intro _ hw'
  obtain ⟨p, rfl⟩ := hw'
  have hbp : RowKit.Below w.heap.size w p.w := hb0.trans (p.hb.mono hb0.size)
  go_wp2
  go_ret
  exact ⟨rfl, hbp⟩
end

end Go.Proofs.Ytnpdjlcekmpmoaa
