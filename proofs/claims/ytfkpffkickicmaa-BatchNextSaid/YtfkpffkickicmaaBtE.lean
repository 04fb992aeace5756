/- The walks of room, mayNot, lastSeq, longer, standsOn (batch). -/
import Derived.Test.YtfkpffkickicmaaBtC
import Derived.Test.YtfkpffkickicmaaBtD
namespace Go.Proofs.Ytfkpffkickicmaa
open Go.RowKit Go.Sort

/-- For how many ids there is room. -/
def roomN (m : Int) : Nat := (max 0 (min m 4096)).toNat

theorem roomN_le (m : Int) : roomN m ≤ 4096 := by unfold roomN; omega

theorem room_any (m : Int) (W : World) : Calls Try.prog 28 #[.int .i64 m] W fun e w' => e = .returned (.int .i64 (roomN m : Int)) ∧ W = w' := by
  have e : (roomN m : Int) = max 0 (min m 4096) := by unfold roomN; omega
  rw [e]
  go_enter Try.func28, Try.ntmps28
  go_wp2
  go_ret
  exact ⟨rfl, rfl⟩

theorem mayNotB_any (r : Rn) (W : World) : Calls Try.prog 32 #[valRn r] W fun e w' => e = .returned (.bool (!runB r)) ∧ Grew W w' := by
  have hf := fun W' => run_any r W'
  unfold valRn at hf ⊢
  generalize runB r = b at hf ⊢
  go_enter Try.func32, Try.ntmps32
  go_wp2_with (go_at_call 43; refine (hf _).mono ?_; rintro e w' ⟨rfl, hg⟩)
  go_ret
  exact ⟨rfl, ((Grew.refl W).alloc _).trans hg⟩

theorem lastSeq_any (r : Rn) (W : World) : Calls Try.prog 34 #[valRn r] W fun e w' => e = .returned (.int .u64 (lastN r)) ∧ Grew W w' := by
  unfold valRn
  have e1 : IntKind.u64.wrap ((r.a : Int) + (r.c : Int)) = (((r.a + r.c) % 18446744073709551616 : Nat) : Int) := by rw [IntKind.wrap_u64]; omega
  have e2 : IntKind.u64.wrap ((((r.a + r.c) % 18446744073709551616 : Nat) : Int) - 1) = (lastN r : Int) := by
    have := r.ha
    have := r.hc
    unfold lastN
    rw [IntKind.wrap_u64]
    omega
  generalize (r.a + r.c) % 18446744073709551616 = c' at e1 e2
  generalize lastN r = m at e2 ⊢
  go_enter Try.func34, Try.ntmps34
  go_wp2
  go_ret
  exact ⟨rfl, (Grew.refl W).alloc _⟩

/-- A run with one id more. -/
def longerR (r : Rn) : Rn := ⟨r.f, r.a, (r.c + 1) % 18446744073709551616, r.hf, r.ha, Nat.mod_lt _ (by decide)⟩

theorem longer_any (r : Rn) (W : World) : Calls Try.prog 38 #[valRn r] W fun e w' => e = .returned (valRn (longerR r)) ∧ Grew W w' := by
  unfold valRn longerR
  have hw : IntKind.u64.wrap ((r.c : Int) + 1) = (((r.c + 1) % 18446744073709551616 : Nat) : Int) := by simp [IntKind.wrap, IntKind.bits, IntKind.signed]
  dsimp only
  generalize (r.c + 1) % 18446744073709551616 = m at hw ⊢
  go_enter Try.func38, Try.ntmps38
  go_wp2
  refine bodyPost_ret (results_cell_row rfl _ _ _ _ _ _ _ rfl (alloc2_new W _ _) Try.underlying43 rfl (by kernel_rfl)) rfl ?_
  exact ⟨rfl, ((Grew.refl W).alloc _).alloc _⟩

theorem mayNotB_lit (r : Rn) (W : World) : Calls Try.prog 32 #[.agg #[.int .u8 (r.f : Int), .int .u64 (r.a : Int), .int .u64 (r.c : Int)]] W fun e w' => e = .returned (.bool (!runB r)) ∧ Grew W w' := mayNotB_any r W
theorem lastSeq_lit (r : Rn) (W : World) : Calls Try.prog 34 #[.agg #[.int .u8 (r.f : Int), .int .u64 (r.a : Int), .int .u64 (r.c : Int)]] W fun e w' => e = .returned (.int .u64 (lastN r)) ∧ Grew W w' := lastSeq_any r W
theorem longer_lit (r : Rn) (W : World) : Calls Try.prog 38 #[.agg #[.int .u8 (r.f : Int), .int .u64 (r.a : Int), .int .u64 (r.c : Int)]] W fun e w' => e = .returned (.agg #[.int .u8 ((longerR r).f : Int), .int .u64 ((longerR r).a : Int), .int .u64 ((longerR r).c : Int)]) ∧ Grew W w' := longer_any r W

/-- A run goes on just behind the base. -/
def standsB (base : List Nat) (x : Rn) : Bool := runB x && decide (x.f < base.length) && decide (x.a = num base x.f + 1)

theorem standsB_iff (base : List Nat) (x : Rn) : standsB base x = true ↔ runB x = true ∧ x.f < base.length ∧ x.a = num base x.f + 1 := by
  simp only [standsB, Bool.and_eq_true, decide_eq_true_eq, and_assoc]

set_option maxHeartbeats 1600000 in
theorem standsOn_any (A : Option Addr) (n c : Nat) (l : List Nat) (x : Rn) (W : World) (_hn : n ≤ 1000) (hl : l.length = n) (h : Lies W W.heap.size A (uvs l)) (hu : ∀ x ∈ l, x < 18446744073709551616) :
    Calls Try.prog 26 #[.slice A n c, valRn x] W fun e w' => e = .returned (.bool (standsB l x)) ∧ RowKit.Below W.heap.size W w' := by
  have mixed := mixedOrders
  have HS := Lib.hid (standsB_iff l x)
  have hB : standsB l x = false ∨ standsB l x = true := by cases standsB l x <;> simp
  generalize standsB l x = S at HS hB ⊢
  have HB := Lib.hid hB
  have HL := Lib.hid hl
  have HU := Lib.hid hu
  clear hB hl hu
  have hf := x.hf
  have hr := fun W' => run_lit x W'
  have HRB : Hid (runB x = true → 1 ≤ x.a) := fun hrun => ((runB_iff x).1 hrun).2.1
  generalize runB x = rb at hr HS HRB
  cases rb with
  | false =>
    have HR : Hid (S = false) := by
      rcases HB.out with h | h
      · exact h
      · have := (HS.out.1 h).1; cases this
    unfold valRn
    go_enter Try.func26, Try.ntmps26
    go_wp2_with fail
    generalize hw0 : World.alloc W _ = w0
    obtain ⟨hs0, hG, hcc⟩ := box1 W w0 _ _ hw0
    have x0 := later_cell (w0 := w0) (b := W.heap.size) (by omega) (hcc 0 _ rfl)
    have x1 := later_cell (w0 := w0) (b := W.heap.size) (by omega) (hcc 1 _ rfl)
    have x2 := later_cell (w0 := w0) (b := W.heap.size) (by omega) (hcc 2 _ rfl)
    have hb0 : RowKit.Below W.heap.size W w0 := hG.below
    clear hcc hw0 hs0 hG
    refine wp_region_later mixed (by kernel_rfl) ?_
    repeat (go_big_quiet_step ((go_at_call 43; exact later_grew (hr _))))
    refine wpQuiet_nil ?_
    intro _ hw'
    obtain ⟨p, rfl⟩ := hw'
    have hbp : RowKit.Below W.heap.size W p.w := hb0.trans (p.hb.mono hb0.size)
    go_wp2
    go_ret
    rw [HR.out]
    exact ⟨rfl, hbp⟩
  | true =>
    by_cases hlt : x.f < n
    · have hk : x.f < l.length := by rw [HL.out]; exact hlt
      obtain ⟨b, off, rfl, hb, hc⟩ := h.at_ (uvs_at hk)
      have HN : Hid (num l x.f = l[x.f]) := num_in hk
      have hy := HU.out _ (List.getElem_mem hk)
      generalize l[x.f] = y at hc HN hy
      have e1 : IntKind.u64.wrap ((y : Int) + 1) = (((y + 1) % 18446744073709551616 : Nat) : Int) := by rw [IntKind.wrap_u64]; omega
      have ha := x.ha
      have ha1 : 1 ≤ x.a := HRB.out rfl
      have HY : Hid (x.a = (y + 1) % 18446744073709551616 ↔ S = true) := by
        constructor
        · intro h0
          refine HS.out.2 ⟨rfl, hk, ?_⟩
          rw [HN.out]
          omega
        · intro h0
          have := (HS.out.1 h0).2.2
          rw [HN.out] at this
          omega
      generalize (y + 1) % 18446744073709551616 = z at e1 HY
      have hd : decide (x.f < n) = true := decide_eq_true hlt
      have hz1 : (x.f : Int) < (n : Int) := by omega
      clear hk h
      by_cases hxz : x.a = z
      · have HR : Hid (S = true) := HY.out.1 hxz
        have hbq : ((x.a : Int) == (z : Int)) = true := beq_iff_eq.2 (by omega)
        have HXZ := Lib.hid hxz
        clear hxz
        unfold valRn
        go_enter Try.func26, Try.ntmps26
        go_wp2_with fail
        generalize hw0 : World.alloc W _ = w0
        obtain ⟨hs0, hG, hcc⟩ := box1 W w0 _ _ hw0
        have x0 := later_cell (w0 := w0) (b := W.heap.size) (by omega) (hcc 0 _ rfl)
        have x1 := later_cell (w0 := w0) (b := W.heap.size) (by omega) (hcc 1 _ rfl)
        have x2 := later_cell (w0 := w0) (b := W.heap.size) (by omega) (hcc 2 _ rfl)
        have y0 := later_cell (w0 := w0) (b := b) (by omega) ((hG.below.cell (p := ⟨b, _, none⟩) hb).trans hc)
        have hb0 : RowKit.Below W.heap.size W w0 := hG.below
        clear hcc hw0 hs0 hG hc
        refine wp_region_later mixed (by kernel_rfl) ?_
        repeat (go_big_quiet_step ((go_at_call 43; exact later_grew (hr _))))
        refine wpQuiet_nil ?_
        intro _ hw'
        obtain ⟨p, rfl⟩ := hw'
        have hbp : RowKit.Below W.heap.size W p.w := hb0.trans (p.hb.mono hb0.size)
        go_wp2
        go_ret
        rw [HR.out]
        exact ⟨rfl, hbp⟩
      · have HR : Hid (S = false) := by
          rcases HB.out with h | h
          · exact h
          · exact absurd (HY.out.2 h) hxz
        have hbq : ((x.a : Int) == (z : Int)) = false := beq_eq_false_iff_ne.2 (by omega)
        have HXZ := Lib.hid hxz
        clear hxz
        unfold valRn
        go_enter Try.func26, Try.ntmps26
        go_wp2_with fail
        generalize hw0 : World.alloc W _ = w0
        obtain ⟨hs0, hG, hcc⟩ := box1 W w0 _ _ hw0
        have x0 := later_cell (w0 := w0) (b := W.heap.size) (by omega) (hcc 0 _ rfl)
        have x1 := later_cell (w0 := w0) (b := W.heap.size) (by omega) (hcc 1 _ rfl)
        have x2 := later_cell (w0 := w0) (b := W.heap.size) (by omega) (hcc 2 _ rfl)
        have y0 := later_cell (w0 := w0) (b := b) (by omega) ((hG.below.cell (p := ⟨b, _, none⟩) hb).trans hc)
        have hb0 : RowKit.Below W.heap.size W w0 := hG.below
        clear hcc hw0 hs0 hG hc
        refine wp_region_later mixed (by kernel_rfl) ?_
        repeat (go_big_quiet_step ((go_at_call 43; exact later_grew (hr _))))
        refine wpQuiet_nil ?_
        intro _ hw'
        obtain ⟨p, rfl⟩ := hw'
        have hbp : RowKit.Below W.heap.size W p.w := hb0.trans (p.hb.mono hb0.size)
        go_wp2
        go_ret
        rw [HR.out]
        exact ⟨rfl, hbp⟩
    · have HR : Hid (S = false) := by
        rcases HB.out with h | h
        · exact h
        · have := (HS.out.1 h).2.1; rw [HL.out] at this; exact absurd this hlt
      have hd : decide (x.f < n) = false := decide_eq_false hlt
      unfold valRn
      go_enter Try.func26, Try.ntmps26
      go_wp2_with fail
      generalize hw0 : World.alloc W _ = w0
      obtain ⟨hs0, hG, hcc⟩ := box1 W w0 _ _ hw0
      have x0 := later_cell (w0 := w0) (b := W.heap.size) (by omega) (hcc 0 _ rfl)
      have x1 := later_cell (w0 := w0) (b := W.heap.size) (by omega) (hcc 1 _ rfl)
      have x2 := later_cell (w0 := w0) (b := W.heap.size) (by omega) (hcc 2 _ rfl)
      have hb0 : RowKit.Below W.heap.size W w0 := hG.below
      clear hcc hw0 hs0 hG
      refine wp_region_later mixed (by kernel_rfl) ?_
      repeat (go_big_quiet_step ((go_at_call 43; exact later_grew (hr _))))
      refine wpQuiet_nil ?_
      intro _ hw'
      obtain ⟨p, rfl⟩ := hw'
      have hbp : RowKit.Below W.heap.size W p.w := hb0.trans (p.hb.mono hb0.size)
      go_wp2
      go_ret
      rw [HR.out]
      exact ⟨rfl, hbp⟩

theorem standsOn_lit (A : Option Addr) (n c : Nat) (l : List Nat) (x : Rn) (W : World) (hn : n ≤ 1000) (hl : l.length = n) (h : Lies W W.heap.size A (uvs l)) (hu : ∀ x ∈ l, x < 18446744073709551616) :
    Calls Try.prog 26 #[.slice A n c, .agg #[.int .u8 (x.f : Int), .int .u64 (x.a : Int), .int .u64 (x.c : Int)]] W fun e w' => e = .returned (.bool (standsB l x)) ∧ RowKit.Below W.heap.size W w' := standsOn_any A n c l x W hn hl h hu

end Go.Proofs.Ytfkpffkickicmaa
