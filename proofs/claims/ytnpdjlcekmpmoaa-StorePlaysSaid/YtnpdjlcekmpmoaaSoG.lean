/- Stage 14: the walks of lacks, Get, Has. -/
import Derived.Test.YtnpdjlcekmpmoaaSoF
set_option maxRecDepth 20000
namespace Go.Proofs.Ytnpdjlcekmpmoaa
open Go.RowKit Go.Sort Go.Maps

section
variable {w : World} {base g mb fb : Nat} {m : Sm} {D : Nat → Prop}

theorem may_at (m : Sm) (x : Id) (W : World) (h : m.n ≤ 64) : Calls Try.prog 41 #[.agg #[.int .u8 (x.f : Int), .int .u64 (x.s : Int)], .int .i64 (m.n : Int)] W fun e w' => e = .returned (.bool (m.may x)) ∧ Grew W w' := by
  have := may_any x (m.n : Int) W (by omega)
  unfold valId at this
  refine this.mono ?_
  rintro e w' ⟨rfl, hg⟩
  refine ⟨ret_bool ?_, hg⟩
  unfold Sm.may
  congr 1
  exact decide_eq_decide.2 (by omega)

theorem there_lit (h : StAt w base g mb fb m D) (x : Id) : Calls Try.prog 31 #[.pointer (some ⟨g, 0, none⟩), .agg #[.int .u8 (x.f : Int), .int .u64 (x.s : Int)]] w fun e w' => e = .returned (.bool (hasL m.l x)) ∧ RowKit.Below w.heap.size w w' := there_any h x

set_option maxHeartbeats 800000 in
theorem lacks_any (h : StAt w base g mb fb m D) (x : Id) : Calls Try.prog 32 #[sptr g, valId x] w fun e w' => e = .returned (.bool (m.lacks x)) ∧ RowKit.Below w.heap.size w w' := by
  have mixed := mixedOrders
  have hT : Hid (∀ W, RowKit.Below w.heap.size w W → Calls Try.prog 31 #[.pointer (some ⟨g, 0, none⟩), .agg #[.int .u8 (x.f : Int), .int .u64 (x.s : Int)]] W fun e w' => e = .returned (.bool (hasL m.l x)) ∧ RowKit.Below W.heap.size W w') := fun W hW => there_lit (h.on hW) x
  have hM : Hid (∀ W, Calls Try.prog 41 #[.agg #[.int .u8 (x.f : Int), .int .u64 (x.s : Int)], .int .i64 (m.n : Int)] W fun e w' => e = .returned (.bool (m.may x)) ∧ Grew W w') := fun W => may_at m x W h.ok.n2
  have c1 := h.c1
  have hlt := h.lt
  have hfl : Hid (m.may x = true → w.cell? ⟨fb, x.f, none⟩ = some (.int .u64 (num m.fl x.f : Int)) ∧ x.f < m.n) := fun hm => by
    unfold Sm.may at hm
    simp only [Bool.and_eq_true, decide_eq_true_eq] at hm
    exact ⟨h.floor hm.1, hm.1⟩
  have hfb := (h.din fb h.df).2
  have hn := h.ok.n2
  unfold Sm.lacks
  generalize hasL m.l x = q at hT ⊢
  generalize m.may x = a at hM hfl ⊢
  generalize num m.fl x.f = fl at hfl ⊢
  generalize m.n = n at hM c1 hfl hn
  clear h
  unfold sptr valId
  have hxf := x.hf
  have hxs := x.hs
  generalize x.f = f at hM hT hfl hxf ⊢
  generalize x.s = s at hM hT hxs ⊢
  cases a with
  | false =>
    rw [Bool.false_and]
    clear hfl
    go_enter Try.func32, Try.ntmps32
    go_wp2_with fail
    generalize hw0 : World.alloc w _ = w0
    obtain ⟨hs0, hG, hcc⟩ := box1 w w0 _ _ hw0
    have hb0 : RowKit.Below w.heap.size w w0 := hG.below
    have x0 := later_cell (w0 := w0) (by omega) (hcc 0 _ rfl)
    have x1 := later_cell (w0 := w0) (by omega) (hcc 1 _ rfl)
    have y1 := later_cell (w0 := w0) (b := g) (by omega) ((hb0.cell (p := ⟨g, 1, none⟩) hlt).trans c1)
    clear hcc hw0 hG c1
    refine wp_region_later mixed (by kernel_rfl) ?_
    repeat (go_big_quiet_step (first | (go_at_call 41; exact later_grew (hM.out _))))
    refine wpQuiet_nil ?_
    intro _ hw'
    obtain ⟨p, rfl⟩ := hw'
    have hbp : RowKit.Below w.heap.size w p.w := hb0.trans (p.hb.mono hb0.size)
    go_wp2
    go_ret
    exact ⟨rfl, hbp⟩
  | true =>
    rw [Bool.true_and]
    obtain ⟨cf, hfn⟩ := hfl.out rfl
    clear hfl
    by_cases hgt : fl < s
    · have hd : decide (fl < s) = true := decide_eq_true hgt
      rw [hd, Bool.true_and]
      go_enter Try.func32, Try.ntmps32
      go_wp2_with fail
      generalize hw0 : World.alloc w _ = w0
      obtain ⟨hs0, hG, hcc⟩ := box1 w w0 _ _ hw0
      have hb0 : RowKit.Below w.heap.size w w0 := hG.below
      have x0 := later_cell (w0 := w0) (by omega) (hcc 0 _ rfl)
      have x1 := later_cell (w0 := w0) (by omega) (hcc 1 _ rfl)
      have y1 := later_cell (w0 := w0) (b := g) (by omega) ((hb0.cell (p := ⟨g, 1, none⟩) hlt).trans c1)
      have yf := later_cell (w0 := w0) (b := fb) (by omega) ((hb0.cell (p := ⟨fb, f, none⟩) hfb).trans cf)
      have HB := Lib.hid hb0
      clear hcc hw0 hG c1 cf hb0
      refine wp_region_later mixed (by kernel_rfl) ?_
      repeat (go_big_quiet_step (first | (go_at_call 41; exact later_grew (hM.out _)) | (go_at_call 31; exact later_of (hT.out _ (HB.out.trans (Later.hb _ |>.mono HB.out.size))))))
      refine wpQuiet_nil ?_
      intro _ hw'
      obtain ⟨p, rfl⟩ := hw'
      have hbp : RowKit.Below w.heap.size w p.w := HB.out.trans (p.hb.mono HB.out.size)
      go_wp2
      go_ret
      exact ⟨rfl, hbp⟩
    · have hd : decide (fl < s) = false := decide_eq_false hgt
      rw [hd, Bool.false_and]
      go_enter Try.func32, Try.ntmps32
      go_wp2_with fail
      generalize hw0 : World.alloc w _ = w0
      obtain ⟨hs0, hG, hcc⟩ := box1 w w0 _ _ hw0
      have hb0 : RowKit.Below w.heap.size w w0 := hG.below
      have x0 := later_cell (w0 := w0) (by omega) (hcc 0 _ rfl)
      have x1 := later_cell (w0 := w0) (by omega) (hcc 1 _ rfl)
      have y1 := later_cell (w0 := w0) (b := g) (by omega) ((hb0.cell (p := ⟨g, 1, none⟩) hlt).trans c1)
      have yf := later_cell (w0 := w0) (b := fb) (by omega) ((hb0.cell (p := ⟨fb, f, none⟩) hfb).trans cf)
      have HB := Lib.hid hb0
      clear hcc hw0 hG c1 cf hb0
      refine wp_region_later mixed (by kernel_rfl) ?_
      repeat (go_big_quiet_step (first | (go_at_call 41; exact later_grew (hM.out _))))
      refine wpQuiet_nil ?_
      intro _ hw'
      obtain ⟨p, rfl⟩ := hw'
      have hbp : RowKit.Below w.heap.size w p.w := HB.out.trans (p.hb.mono HB.out.size)
      go_wp2
      go_ret
      exact ⟨rfl, hbp⟩

/-- What Get answers: a new slice that has the payload's bytes. -/
def Told (w : World) (b : List UInt8) (q : Bool) (e : Ending) (w' : World) : Prop :=
  ∃ A n c, e = .returned (.tuple #[.slice A n c, .bool q]) ∧ Hid (b.length = n) ∧ n ≤ c ∧ c ≤ maxLen ∧ w'.ownsRow w.heap.size 5 1 (.slice A n c) n (bvs b) ∧ RowKit.Below w.heap.size w w'

theorem get_any (h : StAt w base g mb fb m D) (x : Id) : Calls Try.prog 24 #[sptr g, valId x] w (Told w (getL m.l x) (hasL m.l x)) := by
  have mixed := mixedOrders
  obtain ⟨A, n, c, hl, hn, hnc, hc, hn2, hX⟩ := h.look x
  have c0 := h.c0
  have hlt := h.lt
  generalize getL m.l x = b at hX hn ⊢
  have hC : Hid (∀ W, RowKit.Below w.heap.size w W → Calls Try.prog 33 #[.slice A n c] W (Owned W W.heap.size (bvs b))) := fun W hW => copyOf_any A n c b W hn2 hn.symm (hX.lies.later hW)
  generalize hasL m.l x = q at hl ⊢
  clear h hX hn hnc
  unfold sptr
  unfold valId at hl ⊢
  go_enter Try.func24, Try.ntmps24
  go_wp2_with fail
  generalize hw0 : World.alloc w _ = w0
  obtain ⟨hs0, hG, hcc⟩ := box1 w w0 _ _ hw0
  have hb0 : RowKit.Below w.heap.size w w0 := hG.below
  have x0 := later_cell (w0 := w0) (by omega) (hcc 0 _ rfl)
  have x1 := later_cell (w0 := w0) (by omega) (hcc 1 _ rfl)
  have y0 := later_cell (w0 := w0) (b := g) (by omega) ((hb0.cell (p := ⟨g, 0, none⟩) hlt).trans c0)
  have HL : ∀ p : Later w0, (Instr.lookup 54 (.map (some mb)) (.agg #[.int .u8 (x.f : Int), .int .u64 (x.s : Int)]) true).run Try.prog p.w = .ok (.tuple #[.slice A n c, .bool q]) p.w := fun p => hl p.w (hb0.trans (p.hb.mono hb0.size))
  clear hcc hw0 hG hl c0
  refine wp_region_later mixed (by kernel_rfl) ?_
  repeat (go_big_quiet_step (fail))
  refine wpQuiet_nil ?_
  intro _ hw'
  obtain ⟨p, rfl⟩ := hw'
  have hbp : RowKit.Below w.heap.size w p.w := hb0.trans (p.hb.mono hb0.size)
  clear x0 x1 y0 HL
  go_wp2_with (go_at_call 33; refine (hC.out _ hbp).mono ?_; rintro e w1 ⟨A1, n1, c1, rfl, hn, h1, h2, ho, hb⟩)
  go_wp2
  go_ret2
  rw [bvs_length] at hn
  exact ⟨A1, n1, c1, rfl, hn, h1, h2, own_base ho hbp.size, hbp.trans (hb.mono hbp.size)⟩
end

end Go.Proofs.Ytnpdjlcekmpmoaa
