/- Walks of a gate (as in stage 9). -/
import Derived.Test.YtbkkpimhoeagdaaLgA
namespace Go.Proofs.Ytbkkpimhoeagdaa
open Go.RowKit Go.Sort
set_option maxRecDepth 20000


/-! ### A nil gate -/
theorem count_nil (k : Int) (w : World) : Calls Try.prog 52 #[.pointer none, .int .u8 k] w fun e w' => e = .returned (.int .u64 0) ∧ w' = w := by
  go_enter Try.func52, Try.ntmps52
  go_wp2
  go_ret
  exact ⟨rfl, rfl⟩
theorem upto_nil (w : World) : Calls Try.prog 43 #[.pointer none] w fun e w' => e = .returned (.int .u64 0) ∧ w' = w := by
  go_enter Try.func43, Try.ntmps43
  go_wp2_with (go_at_call 52; refine (count_nil _ _).mono ?_; rintro e w' ⟨rfl, rfl⟩)
  go_ret
  exact ⟨rfl, rfl⟩
theorem owes_nil (w : World) : Calls Try.prog 48 #[.pointer none] w fun e w' => e = .returned (.bool false) ∧ w' = w := by
  go_enter Try.func48, Try.ntmps48
  go_wp2
  go_ret
  exact ⟨rfl, rfl⟩
theorem told_nil (w : World) : Calls Try.prog 49 #[.pointer none] w fun e w' => e = .returned (.tuple #[]) ∧ w' = w := by
  go_enter Try.func49, Try.ntmps49
  go_wp2
  go_end0
  exact ⟨rfl, rfl⟩
theorem take_nil (v : Value) (w : World) : Calls Try.prog 35 #[.pointer none, v] w fun e w' => e = .returned (.int .u8 0) ∧ w' = w := by
  go_enter Try.func35, Try.ntmps35
  go_wp2
  go_ret
  exact ⟨rfl, rfl⟩

/-! ### A gate -/
theorem gate_any (w : World) : Calls Try.prog 25 #[] w fun e w' => e = .returned (.pointer (some ⟨w.heap.size, 0, none⟩)) ∧ GateAt w' w.heap.size ⟨0, 0, 0, false⟩ ∧ RowKit.Below w.heap.size w w' := by
  go_enter Try.func25, Try.ntmps25
  go_wp2
  go_ret
  exact ⟨rfl, heap_alloc_new w _, (RowKit.Below.refl _ _).alloc (Nat.le_refl _) _⟩

theorem made_any (n u : Nat) (w : World) (hn : n < 18446744073709551616) (hu : u ≤ 1000000) : Calls Try.prog 46 #[.int .u64 (n : Int), .int .u64 (u : Int)] w fun e w' => e = .returned (.int .u8 (kindN u n : Int)) ∧ w' = w := by
  rcases kindN_cases u n with ⟨e, h⟩ | ⟨e, h⟩ | ⟨e, h⟩
  · rw [e]
    subst h
    have h1 : decide (u + 1 ≤ u) = false := by simp
    have h2 : ((u + 1 : Nat) : Int) - (u : Int) = 1 := by omega
    clear e
    generalize u + 1 = n at h1 h2 hn
    have h3 : 0 ≤ (n : Int) - (u : Int) := by omega
    go_enter Try.func46, Try.ntmps46
    go_wp2
    go_ret
    exact ⟨rfl, rfl⟩
  · rw [e]
    have h1 : decide (n ≤ u) = true := by simpa using h
    clear e
    go_enter Try.func46, Try.ntmps46
    go_wp2
    go_ret
    exact ⟨rfl, rfl⟩
  · rw [e]
    have h1 : decide (n ≤ u) = false := by simp; omega
    have h3 : 1 < (n : Int) - (u : Int) := by omega
    have h4 : (n : Int) - (u : Int) < 18446744073709551616 := by omega
    clear e
    go_enter Try.func46, Try.ntmps46
    go_wp2
    go_ret
    exact ⟨rfl, rfl⟩

section
variable {w : World} {p : Nat} {g : Gt}
theorem count_any (h : GateAt w p g) (k : Nat) (hk8 : k < 256) : Calls Try.prog 52 #[.pointer (some ⟨p, 0, none⟩), .int .u8 (k : Int)] w fun e w' => e = .returned (.int .u64 (g.cnt k : Int)) ∧ w' = w := by
  have c0 := h.c0
  have c1 := h.c1
  have c2 := h.c2
  have c3 := h.c3
  clear h
  by_cases hk : k < 4
  · rcases (by omega : k = 0 ∨ k = 1 ∨ k = 2 ∨ k = 3) with rfl | rfl | rfl | rfl
    all_goals
      unfold Gt.cnt
      go_enter Try.func52, Try.ntmps52
      go_wp2
      go_ret
      exact ⟨rfl, rfl⟩
  · have e : g.cnt k = 0 := by unfold Gt.cnt; rw [if_neg (by omega), if_neg (by omega), if_neg (by omega)]
    rw [e]
    clear e
    have h4 : (4 : Int) ≤ (k : Int) := by omega
    go_enter Try.func52, Try.ntmps52
    go_wp2
    go_ret
    exact ⟨rfl, rfl⟩
theorem upto_any (h : GateAt w p g) : Calls Try.prog 43 #[.pointer (some ⟨p, 0, none⟩)] w fun e w' => e = .returned (.int .u64 (g.u : Int)) ∧ w' = w := by
  have hc := count_any h 1 (by decide)
  have e : g.cnt 1 = g.u := rfl
  rw [e] at hc
  clear e
  go_enter Try.func43, Try.ntmps43
  go_wp2_with (go_at_call 52; refine Calls.mono hc ?_; rintro e w' ⟨rfl, rfl⟩)
  go_ret
  exact ⟨rfl, rfl⟩
theorem owes_any (h : GateAt w p g) : Calls Try.prog 48 #[.pointer (some ⟨p, 0, none⟩)] w fun e w' => e = .returned (.bool g.b) ∧ w' = w := by
  have c4 := h.c4
  clear h
  go_enter Try.func48, Try.ntmps48
  go_wp2
  go_ret
  exact ⟨rfl, rfl⟩
theorem told_any (h : GateAt w p g) : Calls Try.prog 49 #[.pointer (some ⟨p, 0, none⟩)] w fun e w' => e = .returned (.tuple #[]) ∧ GateAt w' p ⟨g.u, g.o, g.a, false⟩ ∧ OnlyE w w' (fun k => k = p) := by
  have c4 := h.c4
  have f4 := h.fr 4
  have H := Lib.hid h
  clear h
  go_enter Try.func49, Try.ntmps49
  go_wp2
  go_end0
  exact ⟨rfl, H.out.set4 false, onlyE_set (D := fun k => k = p) rfl 4 _⟩
end



theorem LiesX.at_ {w : World} {D : Nat → Prop} {A : Option Addr} {xs : List Value} (h : LiesX w D A xs) {k : Nat} {u : Value} (hk : xs[k]? = some u) : ∃ b off, A = some ⟨b, off, none⟩ ∧ b < w.heap.size ∧ ¬ D b ∧ w.cell? ⟨b, off + k, none⟩ = some u := by
  obtain ⟨b, off, e, h1, h2, hc⟩ := h (by rintro rfl; simp at hk)
  exact ⟨b, off, e, h1, h2, hc k u hk⟩

/-- What Take leaves: the gate behind these numbers; nothing else is turned. -/
def TakeW (w : World) (p : Nat) (g : Gt) (l : List Nat) (w' : World) : Prop := GateAt w' p (takes g l).2 ∧ OnlyE w w' (fun k => k = p)

theorem TakeW.zero {w : World} {p : Nat} {g : Gt} (h : GateAt w p g) : TakeW w p g [] w := ⟨h, OnlyE.refl _ _⟩
theorem TakeW.next {w wr w' : World} {p : Nat} {g g' : Gt} {l : List Nat} {k : Nat} (h : TakeW w p g (l.take k) wr) (hk : k < l.length) (hg : (takes g (l.take k)).2.step l[k] = g') (h1 : GateAt w' p g') (h2 : OnlyE wr w' (fun k => k = p)) : TakeW w p g (l.take (k + 1)) w' := by
  refine ⟨?_, h.2.trans h2⟩
  rw [takes_next g l k hk, hg]
  exact h1

set_option maxHeartbeats 1600000 in
theorem take_any {w : World} {p : Nat} {g : Gt} (h : GateAt w p g) (A : Option Addr) (n c : Nat) (l : List Nat) (hl : l.length = n) (hn : n ≤ 1000) (hL : LiesX w (fun k => k = p) A (uvs l)) (hls : ∀ x ∈ l, x < 18446744073709551616) (hlow : g.sum + n ≤ 1000000) :
    Calls Try.prog 35 #[.pointer (some ⟨p, 0, none⟩), .slice A n c] w fun e w' => e = .returned (.int .u8 ((takes g l).1 : Int)) ∧ TakeW w p g l w' := by
  have HL := Lib.hid hl
  have HX := Lib.hid hL
  have HLS := Lib.hid hls
  have HG := Lib.hid h
  have HSUM : ∀ k, k ≤ n → (takes g (l.take k)).2.sum ≤ 1000000 := fun k hk => by rw [takes_sum, List.length_take]; omega
  have HSM := Lib.hid HSUM
  clear hl hL hls h HSUM hlow
  go_enter Try.func35, Try.ntmps35
  go_wp2
  go_loopw [5, 7, 12] (fun s5 _ s12 wr => ∃ k : Nat, k ≤ n ∧ s12 = .int .i64 k ∧ s5 = .int .u8 ((takes g (l.take k)).1 : Int) ∧ TakeW w p g (l.take k) wr) (fun _ _ s12 _ => n - (intOf s12).toNat)
  case atStart => exact ⟨0, Nat.zero_le _, rfl, rfl, TakeW.zero HG.out⟩
  case round =>
    obtain ⟨k, hk, rfl, rfl, hT⟩ := hrel
    by_cases hlt : k < n
    · have hkl : k < l.length := by rw [HL.out]; exact hlt
      obtain ⟨b, off, rfl, hb, hbp, hc⟩ := (HX.out.kept hT.2).at_ (uvs_at hkl)
      have hv := HLS.out l[k] (List.getElem_mem hkl)
      have hsum := HSM.out k hk
      have HST : Hid (∀ (g' : Gt) (w' : World), (takes g (l.take k)).2.step l[k] = g' → GateAt w' p g' → OnlyE wr w' (fun k => k = p) → TakeW w p g (l.take (k + 1)) w') := fun g' w' h1 h2 h3 => hT.next hkl h1 h2 h3
      have HKD : Hid ((takes g (l.take (k + 1))).1 = kindN (takes g (l.take k)).2.u l[k]) := by show _ = _; rw [takes_next g l k hkl]
      have hG := hT.1
      generalize hg' : (takes g (l.take k)).2 = g' at hG HKD HST hsum
      generalize l[k] = v at hc hv HST HKD
      clear hg' hT hkl
      have hup : ∀ W, GateAt W p g' → Calls Try.prog 43 #[.pointer (some ⟨p, 0, none⟩)] W fun e w' => e = .returned (.int .u64 (g'.u : Int)) ∧ w' = W := fun W h => upto_any h
      have HU := Lib.hid (hup wr hG)
      have hul : g'.u ≤ 1000000 := by unfold Gt.sum at hsum; omega
      have hol : g'.o ≤ 1000000 := by unfold Gt.sum at hsum; omega
      have hal : g'.a ≤ 1000000 := by unfold Gt.sum at hsum; omega
      have HMD := Lib.hid (made_any v g'.u wr hv hul)
      have c1 := hG.c1
      have c2 := hG.c2
      have c3 := hG.c3
      have f1 := hG.fr 1
      have f2 := hG.fr 2
      have f3 := hG.fr 3
      have f4 := hG.fr 4
      have c4 := hG.c4
      have HG2 := Lib.hid hG
      clear hup hG hsum
      rcases kindN_cases g'.u v with ⟨e, h⟩ | ⟨e, h⟩ | ⟨e, h⟩
      · rw [e] at HMD HKD
        have HF := Lib.hid (step_one h)
        clear e h
        go_wp2_with (first
          | (go_at_call 43; refine Calls.mono HU.out ?_; rintro e w' ⟨rfl, rfl⟩)
          | (go_at_call 46; refine Calls.mono HMD.out ?_; rintro e w' ⟨rfl, rfl⟩))
        go_region
        all_goals
          go_wp2
          go_roundw
          case rel => exact ⟨k + 1, by omega, by go_num, by rw [HKD.out]; rfl, HST.out _ _ HF.out ((HG2.out.set1 (g'.u + 1)).set4 true) ((onlyE_set (D := fun k => k = p) rfl 1 _).trans ((onlyE_set (D := fun k => k = p) rfl 4 _).trans (onlyE_drew _ _)))⟩
          case measure => simp [intOf]; omega
      · rw [e] at HMD HKD
        have HF := Lib.hid (step_two h)
        clear e h
        go_wp2_with (first
          | (go_at_call 43; refine Calls.mono HU.out ?_; rintro e w' ⟨rfl, rfl⟩)
          | (go_at_call 46; refine Calls.mono HMD.out ?_; rintro e w' ⟨rfl, rfl⟩))
        go_region
        all_goals
          go_wp2
          go_roundw
          case rel => exact ⟨k + 1, by omega, by go_num, by rw [HKD.out]; rfl, HST.out _ _ HF.out ((HG2.out.set2 (g'.o + 1)).set4 true) ((onlyE_set (D := fun k => k = p) rfl 2 _).trans ((onlyE_set (D := fun k => k = p) rfl 4 _).trans (onlyE_drew _ _)))⟩
          case measure => simp [intOf]; omega
      · rw [e] at HMD HKD
        have HF := Lib.hid (step_three h)
        clear e h
        go_wp2_with (first
          | (go_at_call 43; refine Calls.mono HU.out ?_; rintro e w' ⟨rfl, rfl⟩)
          | (go_at_call 46; refine Calls.mono HMD.out ?_; rintro e w' ⟨rfl, rfl⟩))
        go_region
        all_goals
          go_wp2
          go_roundw
          case rel => exact ⟨k + 1, by omega, by go_num, by rw [HKD.out]; rfl, HST.out _ _ HF.out ((HG2.out.set3 (g'.a + 1)).set4 true) ((onlyE_set (D := fun k => k = p) rfl 3 _).trans ((onlyE_set (D := fun k => k = p) rfl 4 _).trans (onlyE_drew _ _)))⟩
          case measure => simp [intOf]; omega
    · obtain rfl : k = n := by omega
      have HE : Hid (l.take k = l) := by show _ = _; exact List.take_of_length_le (by rw [HL.out]; omega)
      have HT := Lib.hid hT
      clear hT
      go_wp2
      go_ret
      rw [HE.out] at HT ⊢
      exact ⟨rfl, HT.out⟩



/-- What one number leaves. -/
def StepW (w : World) (p : Nat) (g : Gt) (w' : World) : Prop := GateAt w' p g ∧ OnlyE w w' (fun k => k = p)

theorem take_one {w : World} {p : Nat} {g : Gt} (h : GateAt w p g) (v : Nat) (i : Int) (hi : i = (v : Int)) (hv : v < 18446744073709551616) (hlow : g.sum < 1000000) :
    Calls Try.prog 35 #[.pointer (some ⟨p, 0, none⟩), .slice (some ⟨w.heap.size, 0, none⟩) 1 1] (w.alloc (.cells #[.int .u64 i] 27)) fun e w' => e = .returned (.int .u8 (kindN g.u v : Int)) ∧ StepW w p (g.step v) w' := by
  subst hi
  have hb : RowKit.Below w.heap.size w (w.alloc (.cells #[.int .u64 (v : Int)] 27)) := (RowKit.Below.refl _ _).alloc (Nat.le_refl _) _
  have hp := h.lt
  refine (take_any (h.on hb) (some ⟨w.heap.size, 0, none⟩) 1 1 [v] rfl (by decide) (LiesX.of_new (w := w) (D := fun k => k = p) #[.int .u64 (v : Int)] 27 (by show ¬ w.heap.size = p; omega)) (fun x hx => ?_) hlow).mono ?_
  · simp only [List.mem_cons, List.not_mem_nil, or_false] at hx
    subst hx
    exact hv
  · rintro e w' ⟨he, hG, ho⟩
    exact ⟨he, hG, (OnlyE.of_below hb).trans ho⟩

theorem StepW.below {w w' : World} {p B : Nat} {g : Gt} (h : StepW w p g w') (hp : B ≤ p) (hB : B ≤ w.heap.size) : RowKit.Below B w w' := h.2.below (fun k hk => by subst hk; exact hp) hB

end Go.Proofs.Ytbkkpimhoeagdaa
