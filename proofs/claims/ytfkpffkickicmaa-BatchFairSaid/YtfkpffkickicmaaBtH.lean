/- The walks of slices.ContainsFunc at runs, of Held (batch), and of the document's Held. -/
import Derived.Test.YtfkpffkickicmaaBtE
namespace Go.Proofs.Ytfkpffkickicmaa
open Go.RowKit Go.Sort

/-- A run may be, and is held. -/
def heldOne (held : List Nat) (x : Rn) : Bool := runB x && decide (lastN x ≤ num held x.f)
def heldB (held : List Nat) (l : List Rn) : Bool := l.all (heldOne held)

set_option maxHeartbeats 800000 in
theorem contains_any (p : Rn → Bool) (g : Nat) (lb : Array Value) (eg : ∀ args w, (callFunc g args).run Try.prog w = .ok (.enter g args) w) (A : Option Addr) (n c : Nat) (l : List Rn) (w : World) (hp : PredBelow Try.prog g lb valRn p w)
    (hl : l.length = n) (hn : n ≤ 1000) (h : Lies w w.heap.size A (flat encRn l)) :
    Calls Try.prog 30 #[.slice A n c, .func (.func g) #[] lb] w fun e w' => e = .returned (.bool (l.any p)) ∧ RowKit.Below w.heap.size w w' := by
  have hix := indexRns_any p g lb eg A n c l w hp hl hn h
  generalize hR : l.any p = R
  have HR := Lib.hid hR
  clear hR hp hl h eg
  go_enter Try.func30, Try.ntmps30
  go_wp2_with fail
  refine hix.mono ?_
  rintro e w1 ⟨r, rfl, hF, hb1⟩
  clear hix
  have HF : Hid (decide (0 ≤ r) = R) := by rw [← HR.out]; exact hF.out.found
  go_wp2
  go_ret
  exact ⟨by rw [← HF.out]; rfl, hb1⟩

set_option maxHeartbeats 1600000 in
theorem heldF_any (x : Rn) (b : Nat) (A : Option Addr) (n c : Nat) (held : List Nat) (W : World) (hcell : W.cell? ⟨b, 0, none⟩ = some (.slice A n c)) (hbl : b < W.heap.size) (hl : held.length = n) (h : Lies W W.heap.size A (uvs held)) :
    Calls Try.prog 31 #[valRn x, .pointer (some ⟨b, 0, none⟩)] W fun e w' => e = .returned (.bool (!heldOne held x)) ∧ RowKit.Below W.heap.size W w' := by
  have mixed := mixedOrders
  unfold heldOne
  have hr := fun W' => mayNotB_lit x W'
  have hls := fun W' => lastSeq_lit x W'
  have HAT : Hid (∀ W', RowKit.Below W.heap.size W W' → Calls Try.prog 33 #[.slice A n c, .int .i64 (x.f : Int)] W' fun e w' => e = .returned (.int .u64 (num held x.f : Int)) ∧ W' = w') := fun W' hW => at_nat A n c x.f _ held W' hl (h.below hW)
  generalize num held x.f = y at HAT ⊢
  generalize lastN x = z at hls ⊢
  generalize runB x = rb at hr ⊢
  unfold valRn
  clear hl h
  have hf := x.hf
  cases rb with
  | false =>
    simp only [Bool.not_false] at hr
    go_enter Try.func31, Try.ntmps31
    go_wp2_with fail
    generalize hw0 : World.alloc W _ = w0
    obtain ⟨hs0, hG, hcc⟩ := box1 W w0 _ _ hw0
    have x0 := later_cell (w0 := w0) (b := W.heap.size) (by omega) (hcc 0 _ rfl)
    have x1 := later_cell (w0 := w0) (b := W.heap.size) (by omega) (hcc 1 _ rfl)
    have x2 := later_cell (w0 := w0) (b := W.heap.size) (by omega) (hcc 2 _ rfl)
    have y0 := later_cell (w0 := w0) (b := b) (by omega) ((hG.below.cell (p := ⟨b, _, none⟩) hbl).trans hcell)
    have hb0 : RowKit.Below W.heap.size W w0 := hG.below
    clear hcc hw0 hs0 hG hcell
    refine wp_region_later mixed (by kernel_rfl) ?_
    repeat (go_big_quiet_step ((go_at_call 32; exact later_grew (hr _))))
    refine wpQuiet_nil ?_
    intro _ hw'
    obtain ⟨p, rfl⟩ := hw'
    have hbp : RowKit.Below W.heap.size W p.w := hb0.trans (p.hb.mono hb0.size)
    go_wp2
    go_ret
    exact ⟨rfl, hbp⟩
  | true =>
    simp only [Bool.not_true] at hr
    by_cases hyz : y < z
    · have hd : decide (y < z) = true := decide_eq_true hyz
      have hd2 : decide (z ≤ y) = false := decide_eq_false (by omega)
      rw [hd2]
      go_enter Try.func31, Try.ntmps31
      go_wp2_with fail
      generalize hw0 : World.alloc W _ = w0
      obtain ⟨hs0, hG, hcc⟩ := box1 W w0 _ _ hw0
      have x0 := later_cell (w0 := w0) (b := W.heap.size) (by omega) (hcc 0 _ rfl)
      have x1 := later_cell (w0 := w0) (b := W.heap.size) (by omega) (hcc 1 _ rfl)
      have x2 := later_cell (w0 := w0) (b := W.heap.size) (by omega) (hcc 2 _ rfl)
      have y0 := later_cell (w0 := w0) (b := b) (by omega) ((hG.below.cell (p := ⟨b, _, none⟩) hbl).trans hcell)
      have hb0 : RowKit.Below W.heap.size W w0 := hG.below
      have HA : Hid (∀ p : Later w0, Calls Try.prog 33 #[.slice A n c, .int .i64 (x.f : Int)] p.w fun e w' => e = .returned (.int .u64 (y : Int)) ∧ p.w = w') := fun p => HAT.out p.w (hb0.trans (p.hb.mono hb0.size))
      clear hcc hw0 hs0 hG hcell HAT
      refine wp_region_later mixed (by kernel_rfl) ?_
      repeat (go_big_quiet_step (first | (go_at_call 32; exact later_grew (hr _)) | (go_at_call 33; exact later_same (HA.out _)) | (go_at_call 34; exact later_grew (hls _))))
      refine wpQuiet_nil ?_
      intro _ hw'
      obtain ⟨p, rfl⟩ := hw'
      have hbp : RowKit.Below W.heap.size W p.w := hb0.trans (p.hb.mono hb0.size)
      go_wp2
      go_ret
      exact ⟨rfl, hbp⟩
    · have hd : decide (y < z) = false := decide_eq_false hyz
      have hd2 : decide (z ≤ y) = true := decide_eq_true (by omega)
      rw [hd2]
      go_enter Try.func31, Try.ntmps31
      go_wp2_with fail
      generalize hw0 : World.alloc W _ = w0
      obtain ⟨hs0, hG, hcc⟩ := box1 W w0 _ _ hw0
      have x0 := later_cell (w0 := w0) (b := W.heap.size) (by omega) (hcc 0 _ rfl)
      have x1 := later_cell (w0 := w0) (b := W.heap.size) (by omega) (hcc 1 _ rfl)
      have x2 := later_cell (w0 := w0) (b := W.heap.size) (by omega) (hcc 2 _ rfl)
      have y0 := later_cell (w0 := w0) (b := b) (by omega) ((hG.below.cell (p := ⟨b, _, none⟩) hbl).trans hcell)
      have hb0 : RowKit.Below W.heap.size W w0 := hG.below
      have HA : Hid (∀ p : Later w0, Calls Try.prog 33 #[.slice A n c, .int .i64 (x.f : Int)] p.w fun e w' => e = .returned (.int .u64 (y : Int)) ∧ p.w = w') := fun p => HAT.out p.w (hb0.trans (p.hb.mono hb0.size))
      clear hcc hw0 hs0 hG hcell HAT
      refine wp_region_later mixed (by kernel_rfl) ?_
      repeat (go_big_quiet_step (first | (go_at_call 32; exact later_grew (hr _)) | (go_at_call 33; exact later_same (HA.out _)) | (go_at_call 34; exact later_grew (hls _))))
      refine wpQuiet_nil ?_
      intro _ hw'
      obtain ⟨p, rfl⟩ := hw'
      have hbp : RowKit.Below W.heap.size W p.w := hb0.trans (p.hb.mono hb0.size)
      go_wp2
      go_ret
      exact ⟨rfl, hbp⟩

set_option maxHeartbeats 800000 in
theorem held_any (A : Option Addr) (n c : Nat) (held : List Nat) (A2 : Option Addr) (n2 c2 : Nat) (l : List Rn) (w : World) (hl : held.length = n) (h : Lies w w.heap.size A (uvs held)) (hl2 : l.length = n2) (hn2 : n2 ≤ 1000) (h2 : Lies w w.heap.size A2 (flat encRn l)) :
    Calls Try.prog 13 #[.slice A n c, .slice A2 n2 c2] w fun e w' => e = .returned (.bool (heldB held l)) ∧ RowKit.Below w.heap.size w w' := by
  have eg : ∀ args w, (callFunc 31 args).run Try.prog w = .ok (.enter 31 args) w := enters_of Try.func31 (by kernel_rfl) rfl
  have hR : (!(l.any fun x => !heldOne held x)) = heldB held l := by unfold heldB; rw [List.all_eq_not_any_not]
  rw [← hR]
  have HC : Hid (∀ w0, RowKit.Below w.heap.size w w0 → w.heap.size < w0.heap.size → w0.cell? ⟨w.heap.size, 0, none⟩ = some (.slice A n c) → Calls Try.prog 30 #[.slice A2 n2 c2, .func (.func 31) #[] #[.pointer (some ⟨w.heap.size, 0, none⟩)]] w0 fun e w' => e = .returned (.bool (l.any fun x => !heldOne held x)) ∧ RowKit.Below w0.heap.size w0 w') := fun w0 hb hs hc =>
    contains_any (fun x => !heldOne held x) _ #[.pointer (some ⟨w.heap.size, 0, none⟩)] eg A2 n2 c2 l w0 (fun W x hW => (heldF_any x w.heap.size A n c held W ((hW.cell (p := ⟨w.heap.size, 0, none⟩) hs).trans hc) (Nat.lt_of_lt_of_le hs hW.size) hl ((h.on hb).on hW)).mono fun _ _ ⟨he, hb'⟩ => ⟨he, hW.trans (hb'.mono hW.size)⟩) hl2 hn2 (h2.on hb)
  generalize (l.any fun x => !heldOne held x) = R at HC ⊢
  clear hl h hl2 h2 eg hR
  go_enter Try.func13, Try.ntmps13
  go_wp2_with fail
  generalize hw0 : World.alloc w _ = w0
  obtain ⟨hs0, hG, hcc⟩ := box1 w w0 _ _ hw0
  have hb0 : RowKit.Below w.heap.size w w0 := hG.below
  refine (HC.out w0 hb0 (by omega) (hcc 0 _ rfl)).mono ?_
  rintro e w1 ⟨rfl, hb1⟩
  clear HC hcc hw0 hG hs0
  go_wp2
  go_ret
  exact ⟨rfl, hb0.trans (hb1.mono hb0.size)⟩

set_option maxHeartbeats 1600000 in
theorem refHeld_any (A : Option Addr) (n c : Nat) (held : List Nat) (A2 : Option Addr) (n2 c2 : Nat) (l : List Rn) (w : World) (hl : held.length = n) (h : Lies w w.heap.size A (uvs held)) (hl2 : l.length = n2) (hn2 : n2 ≤ 1000) (h2 : Lies w w.heap.size A2 (flat encRn l)) :
    Calls Try.prog 14 #[.slice A n c, .slice A2 n2 c2] w fun e w' => e = .returned (.bool (heldB held l)) ∧ RowKit.Below w.heap.size w w' := by
  have mixed := mixedOrders
  have HAT : Hid (∀ (x : Rn) W', RowKit.Below w.heap.size w W' → Calls Try.prog 22 #[.slice A n c, .int .i64 (x.f : Int)] W' fun e w' => e = .returned (.int .u64 (num held x.f : Int)) ∧ W' = w') := fun x W' hW => refAt_nat A n c x.f _ held W' hl (h.below hW)
  have HT : Hid (∀ k, (∀ x ∈ l.take k, heldOne held x = true) → l.length ≤ k → heldB held l = true) := fun k h1 h2 => by
    unfold heldB
    rw [List.all_eq_true]
    rw [List.take_of_length_le h2] at h1
    exact h1
  have HF : Hid (∀ k (hk : k < l.length), heldOne held l[k] = false → heldB held l = false) := fun k hk h1 => by
    unfold heldB
    rw [List.all_eq_false]
    exact ⟨l[k], List.getElem_mem hk, by rw [h1]; simp⟩
  generalize heldB held l = R at HT HF ⊢
  have HL2 := Lib.hid hl2
  clear hl h hl2
  go_enter Try.func14, Try.ntmps14
  go_wp2
  go_loopw [5, 8] (fun _ i wr => ∃ (k : Nat), k ≤ n2 ∧ i = .int .i64 k ∧ RowKit.Below w.heap.size w wr ∧ Hid (∀ x ∈ l.take k, heldOne held x = true)) (fun _ i _ => n2 - (intOf i).toNat)
  case atStart => exact ⟨0, Nat.zero_le _, rfl, RowKit.Below.refl _ _, by show ∀ x ∈ l.take 0, _; simp⟩
  case round =>
    obtain ⟨k, hk, rfl, hb, hK⟩ := hrel
    by_cases hlt : k < n2
    · have hkl : k < l.length := by rw [HL2.out]; exact hlt
      obtain ⟨bb, off, rfl, hbl, c0, c1, c2'⟩ := (h2.below hb).rn hkl
      have hbw : bb < wr.heap.size := Nat.lt_of_lt_of_le hbl hb.size
      have K1 := Lib.hid (HF.out k hkl)
      have K2 : Hid (heldOne held l[k] = true → ∀ x ∈ l.take (k + 1), heldOne held x = true) := fun hq x hx => by
        rw [List.take_succ_eq_append_getElem hkl, List.mem_append] at hx
        rcases hx with h1 | h1
        · exact hK.out x h1
        · simp at h1; subst h1; exact hq
      have hr := fun W' => refRun_lit l[k] W'
      have hla := fun W' => refLast_lit l[k] W'
      have hat := fun W' hW => HAT.out l[k] W' hW
      have hfx := l[k].hf
      have hone : heldOne held l[k] = (runB l[k] && decide (lastN l[k] ≤ num held l[k].f)) := rfl
      generalize heldOne held l[k] = O at K1 K2 hone
      have HO := Lib.hid hone
      clear hone hK
      generalize l[k] = x at c0 c1 c2' hr hla hat hfx HO
      have x0 := later_cell (w0 := wr) (b := bb) hbw c0
      have x1 := later_cell (w0 := wr) (b := bb) hbw c1
      have x2 := later_cell (w0 := wr) (b := bb) hbw c2'
      clear c0 c1 c2'
      have HA : Hid (∀ p : Later wr, Calls Try.prog 22 #[.slice A n c, .int .i64 (x.f : Int)] p.w fun e w' => e = .returned (.int .u64 (num held x.f : Int)) ∧ p.w = w') := fun p => hat p.w (hb.trans (p.hb.mono hb.size))
      clear hat
      generalize num held x.f = y at HA HO
      generalize lastN x = z at hla HO
      generalize runB x = rb at hr HO
      have hb0 := hb
      cases rb with
      | false =>
        have HR : Hid (R = false) := K1.out (by rw [HO.out]; rfl)
        go_wp2_with fail
        refine wp_region_later mixed (by kernel_rfl) ?_
        repeat (go_big_quiet_step (first | (go_at_call 29; exact later_grew (hr _)) | (go_at_call 22; exact later_same (HA.out _)) | (go_at_call 25; exact later_grew (hla _))))
        refine wpQuiet_nil ?_
        intro _ hw'
        obtain ⟨p, rfl⟩ := hw'
        have hbp : RowKit.Below w.heap.size w p.w := hb0.trans (p.hb.mono hb0.size)
        go_wp2
        go_ret
        rw [HR.out]
        exact ⟨rfl, hbp⟩
      | true =>
        by_cases hyz : y < z
        · have hd : decide (y < z) = true := decide_eq_true hyz
          have HR : Hid (R = false) := K1.out (by rw [HO.out, decide_eq_false (by omega)]; rfl)
          go_wp2_with fail
          refine wp_region_later mixed (by kernel_rfl) ?_
          repeat (go_big_quiet_step (first | (go_at_call 29; exact later_grew (hr _)) | (go_at_call 22; exact later_same (HA.out _)) | (go_at_call 25; exact later_grew (hla _))))
          refine wpQuiet_nil ?_
          intro _ hw'
          obtain ⟨p, rfl⟩ := hw'
          have hbp : RowKit.Below w.heap.size w p.w := hb0.trans (p.hb.mono hb0.size)
          go_wp2
          go_ret
          rw [HR.out]
          exact ⟨rfl, hbp⟩
        · have hd : decide (y < z) = false := decide_eq_false hyz
          have HN := Lib.hid (K2.out (by rw [HO.out, decide_eq_true (by omega)]; rfl))
          go_wp2_with fail
          refine wp_region_later mixed (by kernel_rfl) ?_
          repeat (go_big_quiet_step (first | (go_at_call 29; exact later_grew (hr _)) | (go_at_call 22; exact later_same (HA.out _)) | (go_at_call 25; exact later_grew (hla _))))
          refine wpQuiet_nil ?_
          intro _ hw'
          obtain ⟨p, rfl⟩ := hw'
          have hbp : RowKit.Below w.heap.size w p.w := hb0.trans (p.hb.mono hb0.size)
          go_wp2
          go_roundw
          case rel => exact ⟨k + 1, by omega, by go_num, hbp, HN⟩
          case measure => simp [intOf]; omega
    · have HR : Hid (R = true) := HT.out k hK.out (by rw [HL2.out]; omega)
      go_wp2
      go_ret
      rw [HR.out]
      exact ⟨rfl, hb⟩

end Go.Proofs.Ytfkpffkickicmaa
