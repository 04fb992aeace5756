/- Stage 16: which places go: slices.ContainsFunc at vectors; what Drop hands on. -/
import Derived.Test.YtmnjedpnhilndaaReK
set_option maxRecDepth 20000
namespace Go.Proofs.Ytmnjedpnhilndaa
open Go.RowKit Go.Sort Go.Maps

/-- Vectors that are handed in: they lie outside of D. -/
structure UpX (w : World) (D : Nat → Prop) (A : Option Addr) (vs : List Value) (ls : List (List Nat)) : Prop where
  row : LiesX w D A vs
  len : vs.length = ls.length
  vec : ∀ i, (h : i < vs.length) → (h' : i < ls.length) → ∃ A' n' c', vs[i] = .slice A' n' c' ∧ ls[i].length = n' ∧ n' ≤ c' ∧ c' ≤ maxLen ∧ LiesX w D A' (uvs ls[i])
theorem UpX.kept {w w' : World} {D : Nat → Prop} {A : Option Addr} {vs : List Value} {ls : List (List Nat)} (h : UpX w D A vs ls) (ho : OnlyE w w' D) : UpX w' D A vs ls :=
  ⟨h.row.kept ho, h.len, fun i h1 h2 => by obtain ⟨A', n', c', e1, e2, e3, e4, e5⟩ := h.vec i h1 h2; exact ⟨A', n', c', e1, e2, e3, e4, e5.kept ho⟩⟩
theorem UpX.widen {w : World} {D D' : Nat → Prop} {A : Option Addr} {vs : List Value} {ls : List (List Nat)} (h : UpX w D A vs ls) (hD : ∀ k, D' k → w.heap.size ≤ k ∨ D k) : UpX w D' A vs ls :=
  ⟨h.row.widen hD, h.len, fun i h1 h2 => by obtain ⟨A', n', c', e1, e2, e3, e4, e5⟩ := h.vec i h1 h2; exact ⟨A', n', c', e1, e2, e3, e4, e5.widen hD⟩⟩
theorem UpX.rows {w : World} {D : Nat → Prop} {A : Option Addr} {vs : List Value} {ls : List (List Nat)} (h : UpX w D A vs ls) : VecRows w w.heap.size vs ls :=
  ⟨h.len, fun i h1 h2 => by obtain ⟨A', n', c', e1, e2, e3, e4, e5⟩ := h.vec i h1 h2; exact ⟨A', n', c', e1, e2, e3, e4, e5.lies⟩⟩

set_option maxHeartbeats 800000 in
theorem indexV_any (p : List Nat → Bool) (g : Nat) (lb : Array Value) (eg : ∀ args w, (callFunc g args).run Try.prog w = .ok (.enter g args) w) (A : Option Addr) (n c : Nat) (vs : List Value) (l : List (List Nat)) (w : World)
    (hp : ∀ W, RowKit.Below w.heap.size w W → ∀ i, (h : i < vs.length) → (h' : i < l.length) → Calls Try.prog g (#[vs[i]] ++ lb) W fun e w' => e = .returned (.bool (p l[i])) ∧ RowKit.Below W.heap.size W w') (hl : l.length = n) (hn : n ≤ 1000) (h : Lies w w.heap.size A vs) (hv : VecRows w w.heap.size vs l) :
    Calls Try.prog 39 #[.slice A n c, .func (.func g) #[] lb] w fun e w' => ∃ r : Int, e = .returned (.int .i64 r) ∧ Hid (FirstAt p l r) ∧ RowKit.Below w.heap.size w w' := by
  have HL := Lib.hid hl
  have HP := Lib.hid hp
  have HV := Lib.hid hv
  clear hl hp hv
  go_enter Try.func39, Try.ntmps39
  go_wp2
  go_loopw [5, 8] (fun _ i wr => ∃ k : Nat, k ≤ n ∧ i = .int .i64 k ∧ RowKit.Below w.heap.size w wr ∧ Hid (∀ x ∈ l.take k, p x = false)) (fun _ i _ => n - (intOf i).toNat)
  case atStart => exact ⟨0, Nat.zero_le _, rfl, RowKit.Below.refl _ _, by show ∀ x ∈ l.take 0, _; simp⟩
  case round =>
    obtain ⟨k, hk, rfl, hb, hK⟩ := hrel
    by_cases hlt : k < n
    · have hk1 : k < l.length := by rw [HL.out]; exact hlt
      have hk2 : k < vs.length := by rw [HV.out.1]; exact hk1
      have hcall := HP.out wr hb k hk2 hk1
      obtain ⟨A', n', c', e1, -, -, -, -⟩ := HV.out.2 k hk2 hk1
      have hK' : Hid (p l[k] = false → ∀ x ∈ l.take (k + 1), p x = false) := fun hq x hx => by
        rw [List.take_succ_eq_append_getElem hk1, List.mem_append] at hx
        rcases hx with h1 | h1
        · exact hK.out x h1
        · simp at h1; subst h1; exact hq
      have hF : Hid (p l[k] = true → FirstAt p l (k : Int)) := fun hq => .inr ⟨k, hk1, rfl, hq, hK.out⟩
      obtain ⟨bb, off, rfl, hbl, c0⟩ := (h.below hb).at_ (List.getElem?_eq_getElem hk2)
      rw [e1] at c0 hcall
      have hwn : wr.heap.size ≥ w.heap.size := hb.size
      generalize hq : p l[k] = b at hcall hK' hF
      have HB := Lib.hid hb
      clear hK hq hb e1
      cases b with
      | true =>
        go_wp2_with (go_at_fn g; refine hcall.mono ?_; rintro e w' ⟨rfl, hb'⟩)
        have HB' := Lib.hid hb'
        clear hb'
        go_wp2
        go_ret
        exact ⟨_, rfl, hF.out (by simp), HB.out.trans (HB'.out.mono HB.out.size)⟩
      | false =>
        go_wp2_with (go_at_fn g; refine hcall.mono ?_; rintro e w' ⟨rfl, hb'⟩)
        have HB' := Lib.hid hb'
        clear hb'
        go_wp2
        go_roundw
        case rel => exact ⟨k + 1, by omega, by go_num, HB.out.trans (HB'.out.mono HB.out.size), hK'.out (by simp)⟩
        case measure => simp [intOf]; omega
    · have hF : Hid (FirstAt p l (-1)) := .inl ⟨rfl, fun x hx => hK.out x (by rw [List.take_of_length_le (by rw [HL.out]; omega)]; exact hx)⟩
      go_wp2
      go_ret
      exact ⟨_, rfl, hF.out, hb⟩

theorem containsV_any (p : List Nat → Bool) (g : Nat) (lb : Array Value) (eg : ∀ args w, (callFunc g args).run Try.prog w = .ok (.enter g args) w) (A : Option Addr) (n c : Nat) (vs : List Value) (l : List (List Nat)) (w : World)
    (hp : ∀ W, RowKit.Below w.heap.size w W → ∀ i, (h : i < vs.length) → (h' : i < l.length) → Calls Try.prog g (#[vs[i]] ++ lb) W fun e w' => e = .returned (.bool (p l[i])) ∧ RowKit.Below W.heap.size W w') (hl : l.length = n) (hn : n ≤ 1000) (h : Lies w w.heap.size A vs) (hv : VecRows w w.heap.size vs l) :
    Calls Try.prog 29 #[.slice A n c, .func (.func g) #[] lb] w fun e w' => e = .returned (.bool (l.any p)) ∧ RowKit.Below w.heap.size w w' := by
  have hc := indexV_any p g lb eg A n c vs l w hp hl hn h hv
  clear hp hl h hv
  go_enter Try.func29, Try.ntmps29
  go_wp2_with fail
  refine hc.mono ?_
  rintro e w1 ⟨r, rfl, hF, hb⟩
  go_wp2
  go_ret
  exact ⟨by rw [← hF.out.found]; rfl, hb⟩

/-- Is a place up to what a vector tells? -/
def uptoV (p : Pl) (v : List Nat) : Bool := decide (p.x.s ≤ num v p.x.f)
/-- .. what one of these tells? -/
def goesV (ls : List (List Nat)) (p : Pl) : Bool := ls.any (uptoV p)

theorem oneV_any (p : Pl) (A : Option Addr) (n c b : Nat) (v : List Nat) (W : World) (hv : v.length = n) (hL : Lies W W.heap.size A (uvs v)) (hB : BxP b p W) :
    Calls Try.prog 30 #[.slice A n c, .pointer (some ⟨b, 0, none⟩)] W fun e w' => e = .returned (.bool (uptoV p v)) ∧ RowKit.Below W.heap.size W w' := by
  have mixed := mixedOrders
  have HC : Hid (∀ V : Later W, Calls Try.prog 31 #[.slice A n c, .int .i64 (p.x.f : Int)] V.w fun e w' => e = .returned (.int .u64 (num v p.x.f : Int)) ∧ RowKit.Below V.w.heap.size V.w w') := fun V => by
    refine (at_nat A n c p.x.f V.w.heap.size v V.w hv (hL.later V.hb)).mono ?_
    rintro e w' ⟨rfl, rfl⟩
    exact ⟨rfl, RowKit.Below.refl _ _⟩
  have y0 := later_cell (w0 := W) hB.lt hB.c0
  have y1 := later_cell (w0 := W) hB.lt hB.c1
  have hf := p.x.hf
  have hwr : IntKind.i64.wrap (p.x.f : Int) = (p.x.f : Int) := by simp [IntKind.wrap, IntKind.bits, IntKind.signed]; omega
  have hD : Hid (decide (p.x.s ≤ num v p.x.f) = uptoV p v) := rfl
  clear hB hL hv
  generalize uptoV p v = q at hD ⊢
  generalize num v p.x.f = m at HC hD
  generalize p.x.s = s at y1 hD
  generalize p.x.f = f at *
  have hb0 := RowKit.Below.refl W.heap.size W
  go_enter Try.func30, Try.ntmps30
  go_wp2_with fail
  refine wp_region_later mixed (by kernel_rfl) ?_
  repeat (go_big_quiet_step ((go_at_call 31; exact later_of (HC.out _))))
  refine wpQuiet_nil ?_
  intro _ hw'
  obtain ⟨V, rfl⟩ := hw'
  have hbp : RowKit.Below W.heap.size W V.w := hb0.trans (V.hb.mono hb0.size)
  go_wp2
  go_ret
  exact ⟨by rw [← hD.out]; rfl, hbp⟩

/-- What Drop hands on to release. -/
theorem dropF_any (p : Pl) (b : Nat) (A : Option Addr) (n c : Nat) (vs : List Value) (ls : List (List Nat)) (W : World) (hb : b < W.heap.size) (h0 : W.cell? ⟨b, 0, none⟩ = some (.slice A n c)) (hl : ls.length = n) (hn : n ≤ 1000) (hL : Lies W W.heap.size A vs) (hv : VecRows W W.heap.size vs ls) :
    Calls Try.prog 28 (#[valPl p] ++ #[.pointer (some ⟨b, 0, none⟩)]) W fun e w' => e = .returned (.bool (goesV ls p)) ∧ RowKit.Below W.heap.size W w' := by
  have eg : ∀ args w, (callFunc 30 args).run Try.prog w = .ok (.enter 30 args) w := enters_of Try.func30 (by kernel_rfl) rfl
  have HC : Hid (∀ w0, RowKit.Below W.heap.size W w0 → BxP W.heap.size p w0 → Calls Try.prog 29 #[.slice A n c, .func (.func 30) #[] #[.pointer (some ⟨W.heap.size, 0, none⟩)]] w0 fun e w' => e = .returned (.bool (goesV ls p)) ∧ RowKit.Below w0.heap.size w0 w') := by
    intro w0 hb0 hB
    refine containsV_any (uptoV p) _ _ eg A n c vs ls w0 (fun V hV i h1 h2 => ?_) hl hn (hL.later hb0) (hv.later hb0)
    obtain ⟨A', n', c', e1, e2, -, -, e5⟩ := (hv.later (hb0.trans (hV.mono hb0.size))).2 i h1 h2
    rw [e1]
    exact oneV_any p A' n' c' W.heap.size ls[i] V e2 e5 (hB.on hV)
  clear hl hL hv eg
  show Calls Try.prog _ #[valPl p, .pointer (some ⟨b, 0, none⟩)] W _
  unfold valPl
  generalize goesV ls p = q at HC ⊢
  have hp : plc p = #[.int .u8 (p.x.f : Int), .int .u64 (p.x.s : Int), .int .u32 (p.a : Int)] := rfl
  rw [hp]
  go_enter Try.func28, Try.ntmps28
  go_wp2_with fail
  refine (HC.out _ (alloc_below _ _) (heap_alloc_new _ _)).mono ?_
  rintro e w1 ⟨rfl, hb1⟩
  have HB := Lib.hid ((alloc_below W (.cells (plc p) 69)).trans (hb1.mono (by simp)))
  clear HC hb1
  go_wp2
  go_ret
  exact ⟨rfl, HB.out⟩

end Go.Proofs.Ytmnjedpnhilndaa
