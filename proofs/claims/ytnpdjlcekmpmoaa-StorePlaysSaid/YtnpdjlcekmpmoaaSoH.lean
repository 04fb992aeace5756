/- Stage 14: slices.IndexFunc, ContainsFunc at ids; the walk of Has. -/
import Derived.Test.YtnpdjlcekmpmoaaSoG
set_option maxRecDepth 20000
namespace Go.Proofs.Ytnpdjlcekmpmoaa
open Go.RowKit Go.Sort Go.Maps

set_option maxHeartbeats 800000 in
theorem indexIds_any (p : Id → Bool) (g : Nat) (lb : Array Value) (eg : ∀ args w, (callFunc g args).run Try.prog w = .ok (.enter g args) w) (A : Option Addr) (n c : Nat) (l : List Id) (w : World)
    (hp : ∀ W, RowKit.Below w.heap.size w W → ∀ x, Calls Try.prog g (#[valId x] ++ lb) W fun e w' => e = .returned (.bool (p x)) ∧ RowKit.Below W.heap.size W w') (hl : l.length = n) (hn : n ≤ 1000) (h : Lies w w.heap.size A (flat encId l)) :
    Calls Try.prog 44 #[.slice A n c, .func (.func g) #[] lb] w fun e w' => ∃ r : Int, e = .returned (.int .i64 r) ∧ Hid (FirstAt p l r) ∧ RowKit.Below w.heap.size w w' := by
  have HL := Lib.hid hl
  have HP := Lib.hid hp
  clear hl hp
  go_enter Try.func44, Try.ntmps44
  go_wp2
  go_loopw [5, 8] (fun _ i wr => ∃ k : Nat, k ≤ n ∧ i = .int .i64 k ∧ RowKit.Below w.heap.size w wr ∧ Hid (∀ x ∈ l.take k, p x = false)) (fun _ i _ => n - (intOf i).toNat)
  case atStart => exact ⟨0, Nat.zero_le _, rfl, RowKit.Below.refl _ _, by show ∀ x ∈ l.take 0, _; simp⟩
  case round =>
    obtain ⟨k, hk, rfl, hb, hK⟩ := hrel
    by_cases hlt : k < n
    · have hk1 : k < l.length := by rw [HL.out]; exact hlt
      have hcall := HP.out wr hb l[k]
      unfold valId at hcall
      have hK' : Hid (p l[k] = false → ∀ x ∈ l.take (k + 1), p x = false) := fun hq x hx => by
        rw [List.take_succ_eq_append_getElem hk1, List.mem_append] at hx
        rcases hx with h1 | h1
        · exact hK.out x h1
        · simp at h1; subst h1; exact hq
      have hF : Hid (p l[k] = true → FirstAt p l (k : Int)) := fun hq => .inr ⟨k, hk1, rfl, hq, hK.out⟩
      obtain ⟨bb, off, rfl, hbl, c0, c1⟩ := (h.below hb).id hk1
      have hwn : wr.heap.size ≥ w.heap.size := hb.size
      generalize hq : p l[k] = b at hcall hK' hF
      have HB := Lib.hid hb
      clear hK hq hb
      cases b with
      | true =>
        go_wp2_with (go_at_fn g; refine hcall.mono ?_; rintro e w' ⟨rfl, hb'⟩)
        have HB' := Lib.hid hb'
        clear hb'
        go_wp2
        go_ret
        exact ⟨_, rfl, hF.out (by simp), HB.out.trans (HB'.out.mono HB.out.size)⟩
      | false =>
        go_wp2_with (go_at_fn g; refine hcall.mono ?_; rintro e w' ⟨rfl, hb'⟩)
        have HB' := Lib.hid hb'
        clear hb'
        go_wp2
        go_roundw
        case rel => exact ⟨k + 1, by omega, by go_num, HB.out.trans (HB'.out.mono HB.out.size), hK'.out (by simp)⟩
        case measure => simp [intOf]; omega
    · have hF : Hid (FirstAt p l (-1)) := .inl ⟨rfl, fun x hx => hK.out x (by rw [List.take_of_length_le (by rw [HL.out]; omega)]; exact hx)⟩
      go_wp2
      go_ret
      exact ⟨_, rfl, hF.out, hb⟩

theorem containsIds_any (p : Id → Bool) (g : Nat) (lb : Array Value) (eg : ∀ args w, (callFunc g args).run Try.prog w = .ok (.enter g args) w) (A : Option Addr) (n c : Nat) (l : List Id) (w : World)
    (hp : ∀ W, RowKit.Below w.heap.size w W → ∀ x, Calls Try.prog g (#[valId x] ++ lb) W fun e w' => e = .returned (.bool (p x)) ∧ RowKit.Below W.heap.size W w') (hl : l.length = n) (hn : n ≤ 1000) (h : Lies w w.heap.size A (flat encId l)) :
    Calls Try.prog 39 #[.slice A n c, .func (.func g) #[] lb] w fun e w' => e = .returned (.bool (l.any p)) ∧ RowKit.Below w.heap.size w w' := by
  have hc := indexIds_any p g lb eg A n c l w hp hl hn h
  clear hp hl h
  go_enter Try.func39, Try.ntmps39
  go_wp2_with fail
  refine hc.mono ?_
  rintro e w1 ⟨r, rfl, hF, hb⟩
  go_wp2
  go_ret
  exact ⟨by rw [← hF.out.found]; rfl, hb⟩

/-- Has, over whatever is there. -/
theorem has_gen (q : Option Addr) (p : Id → Bool) (A : Option Addr) (n c : Nat) (l : List Id) (w : World)
    (hT : ∀ W, RowKit.Below w.heap.size w W → ∀ x : Id, Calls Try.prog 31 #[.pointer q, .agg #[.int .u8 (x.f : Int), .int .u64 (x.s : Int)]] W fun e w' => e = .returned (.bool (p x)) ∧ RowKit.Below W.heap.size W w')
    (hl : l.length = n) (hn : n ≤ 1000) (h : Lies w w.heap.size A (flat encId l)) :
    Calls Try.prog 22 #[.pointer q, .slice A n c] w fun e w' => e = .returned (.bool (l.all p)) ∧ RowKit.Below w.heap.size w w' := by
  have eg : ∀ args w, (callFunc 40 args).run Try.prog w = .ok (.enter 40 args) w := enters_of Try.func40 (by kernel_rfl) rfl
  have HC : Hid (∀ w0, RowKit.Below w.heap.size w w0 → w.heap.size < w0.heap.size → w0.cell? ⟨w.heap.size, 0, none⟩ = some (.pointer q) →
      Calls Try.prog 39 #[.slice A n c, .func (.func 40) #[] #[.pointer (some ⟨w.heap.size, 0, none⟩)]] w0 fun e w' => e = .returned (.bool (l.any fun x => !p x)) ∧ RowKit.Below w0.heap.size w0 w') := by
    intro w0 hb0 hlt hc
    refine containsIds_any (fun x => !p x) 40 _ eg A n c l w0 (fun W hW x => ?_) hl hn (h.later hb0)
    have c0 : W.cell? ⟨w.heap.size, 0, none⟩ = some (.pointer q) := (hW.cell (p := ⟨w.heap.size, 0, none⟩) hlt).trans hc
    have hlt' : w.heap.size < W.heap.size := Nat.lt_of_lt_of_le hlt hW.size
    have hT' : Hid (∀ W1, RowKit.Below W.heap.size W W1 → Calls Try.prog 31 #[.pointer q, .agg #[.int .u8 (x.f : Int), .int .u64 (x.s : Int)]] W1 fun e w' => e = .returned (.bool (p x)) ∧ RowKit.Below W1.heap.size W1 w') := fun W1 h1 => hT W1 (hb0.trans ((hW.mono hb0.size).trans (h1.mono (Nat.le_trans hb0.size hW.size)))) x
    generalize p x = b at hT' ⊢
    clear hT hc hW hlt hb0 h hl
    show Calls Try.prog _ #[valId x, .pointer (some ⟨w.heap.size, 0, none⟩)] W _
    unfold valId
    go_enter Try.func40, Try.ntmps40
    go_wp2_with (go_at_call 31; refine (hT'.out _ ((RowKit.Below.refl _ _).alloc (Nat.le_refl _) _)).mono ?_; rintro e w' ⟨rfl, hb'⟩)
    go_wp2
    go_ret
    exact ⟨rfl, ((RowKit.Below.refl _ _).alloc (Nat.le_refl _) _).trans (hb'.mono (by simp))⟩
  have hq : Hid (l.all p = !(l.any fun x => !p x)) := by show _ = _; rw [List.not_any_eq_all_not]; simp
  generalize (l.any fun x => !p x) = r at HC hq
  rw [hq.out]
  clear hT h hl hq
  go_enter Try.func22, Try.ntmps22
  go_wp2_with fail
  generalize hw0 : World.alloc w _ = w0
  obtain ⟨hs0, hG, hcc⟩ := box1 w w0 _ _ hw0
  have hb0 : RowKit.Below w.heap.size w w0 := hG.below
  have x0 := hcc 0 _ rfl
  refine (HC.out w0 hb0 (by omega) x0).mono ?_
  rintro e w1 ⟨rfl, hb1⟩
  have HB := Lib.hid (hb0.trans (hb1.mono hb0.size))
  clear hb0 hb1 hcc hw0 hG x0 HC
  go_wp2
  go_ret
  exact ⟨rfl, HB.out⟩

section
variable {w : World} {base g mb fb : Nat} {m : Sm} {D : Nat → Prop}
theorem has_any (h : StAt w base g mb fb m D) (A : Option Addr) (n c : Nat) (l : List Id) (hl : l.length = n) (hn : n ≤ 1000) (hL : Lies w w.heap.size A (flat encId l)) :
    Calls Try.prog 22 #[sptr g, .slice A n c] w fun e w' => e = .returned (.bool (l.all (hasL m.l))) ∧ RowKit.Below w.heap.size w w' :=
  has_gen _ _ A n c l w (fun _ hW x => there_lit (h.on hW) x) hl hn hL
end

end Go.Proofs.Ytnpdjlcekmpmoaa
