/- Take: numbers come. -/
import Derived.Test.YtpnihkepfcnglaaAcB
namespace Go.Proofs.Ytpnihkepfcnglaa
open Go.RowKit Go.Sort

theorem LiesX.at_ {w : World} {D : Nat → Prop} {A : Option Addr} {xs : List Value} (h : LiesX w D A xs) {k : Nat} {u : Value} (hk : xs[k]? = some u) : ∃ b off, A = some ⟨b, off, none⟩ ∧ b < w.heap.size ∧ ¬ D b ∧ w.cell? ⟨b, off + k, none⟩ = some u := by
  obtain ⟨b, off, e, h1, h2, hc⟩ := h (by rintro rfl; simp at hk)
  exact ⟨b, off, e, h1, h2, hc k u hk⟩

/-- What Take leaves: the gate behind these numbers; nothing else is turned. -/
def TakeW (w : World) (p : Nat) (g : Gt) (l : List Nat) (w' : World) : Prop := GateAt w' p (takes g l).2 ∧ OnlyE w w' (fun k => k = p)

theorem TakeW.zero {w : World} {p : Nat} {g : Gt} (h : GateAt w p g) : TakeW w p g [] w := ⟨h, OnlyE.refl _ _⟩
theorem TakeW.next {w wr w' : World} {p : Nat} {g g' : Gt} {l : List Nat} {k : Nat} (h : TakeW w p g (l.take k) wr) (hk : k < l.length) (hg : (takes g (l.take k)).2.step l[k] = g') (h1 : GateAt w' p g') (h2 : OnlyE wr w' (fun k => k = p)) : TakeW w p g (l.take (k + 1)) w' := by
  refine ⟨?_, h.2.trans h2⟩
  rw [takes_next g l k hk, hg]
  exact h1

set_option maxHeartbeats 1600000 in
theorem take_any {w : World} {p : Nat} {g : Gt} (h : GateAt w p g) (A : Option Addr) (n c : Nat) (l : List Nat) (hl : l.length = n) (hn : n ≤ 1000) (hL : LiesX w (fun k => k = p) A (uvs l)) (hls : ∀ x ∈ l, x < 18446744073709551616) (hlow : g.sum + n ≤ 1000000) :
    Calls Try.prog 11 #[.pointer (some ⟨p, 0, none⟩), .slice A n c] w fun e w' => e = .returned (.int .u8 ((takes g l).1 : Int)) ∧ TakeW w p g l w' := by
  have HL := Lib.hid hl
  have HX := Lib.hid hL
  have HLS := Lib.hid hls
  have HG := Lib.hid h
  have HSUM : ∀ k, k ≤ n → (takes g (l.take k)).2.sum ≤ 1000000 := fun k hk => by rw [takes_sum, List.length_take]; omega
  have HSM := Lib.hid HSUM
  clear hl hL hls h HSUM hlow
  go_enter Try.func11, Try.ntmps11
  go_wp2
  go_loopw [5, 7, 12] (fun s5 _ s12 wr => ∃ k : Nat, k ≤ n ∧ s12 = .int .i64 k ∧ s5 = .int .u8 ((takes g (l.take k)).1 : Int) ∧ TakeW w p g (l.take k) wr) (fun _ _ s12 _ => n - (intOf s12).toNat)
  case atStart => exact ⟨0, Nat.zero_le _, rfl, rfl, TakeW.zero HG.out⟩
  case round =>
    obtain ⟨k, hk, rfl, rfl, hT⟩ := hrel
    by_cases hlt : k < n
    · have hkl : k < l.length := by rw [HL.out]; exact hlt
      obtain ⟨b, off, rfl, hb, hbp, hc⟩ := (HX.out.kept hT.2).at_ (uvs_at hkl)
      have hv := HLS.out l[k] (List.getElem_mem hkl)
      have hsum := HSM.out k hk
      have HST : Hid (∀ (g' : Gt) (w' : World), (takes g (l.take k)).2.step l[k] = g' → GateAt w' p g' → OnlyE wr w' (fun k => k = p) → TakeW w p g (l.take (k + 1)) w') := fun g' w' h1 h2 h3 => hT.next hkl h1 h2 h3
      have HKD : Hid ((takes g (l.take (k + 1))).1 = kindN (takes g (l.take k)).2.u l[k]) := by show _ = _; rw [takes_next g l k hkl]
      have hG := hT.1
      generalize hg' : (takes g (l.take k)).2 = g' at hG HKD HST hsum
      generalize l[k] = v at hc hv HST HKD
      clear hg' hT hkl
      have hup : ∀ W, GateAt W p g' → Calls Try.prog 9 #[.pointer (some ⟨p, 0, none⟩)] W fun e w' => e = .returned (.int .u64 (g'.u : Int)) ∧ w' = W := fun W h => upto_any h
      have HU := Lib.hid (hup wr hG)
      have hul : g'.u ≤ 1000000 := by unfold Gt.sum at hsum; omega
      have hol : g'.o ≤ 1000000 := by unfold Gt.sum at hsum; omega
      have hal : g'.a ≤ 1000000 := by unfold Gt.sum at hsum; omega
      have HMD := Lib.hid (made_any v g'.u wr hv hul)
      have c1 := hG.c1
      have c2 := hG.c2
      have c3 := hG.c3
      have f1 := hG.fr 1
      have f2 := hG.fr 2
      have f3 := hG.fr 3
      have f4 := hG.fr 4
      have c4 := hG.c4
      have HG2 := Lib.hid hG
      clear hup hG hsum
      rcases kindN_cases g'.u v with ⟨e, h⟩ | ⟨e, h⟩ | ⟨e, h⟩
      · rw [e] at HMD HKD
        have HF := Lib.hid (step_one h)
        clear e h
        go_wp2_with (first
          | (go_at_call 9; refine Calls.mono HU.out ?_; rintro e w' ⟨rfl, rfl⟩)
          | (go_at_call 15; refine Calls.mono HMD.out ?_; rintro e w' ⟨rfl, rfl⟩))
        go_region
        all_goals
          go_wp2
          go_roundw
          case rel => exact ⟨k + 1, by omega, by go_num, by rw [HKD.out]; rfl, HST.out _ _ HF.out ((HG2.out.set1 (g'.u + 1)).set4 true) ((onlyE_set (D := fun k => k = p) rfl 1 _).trans ((onlyE_set (D := fun k => k = p) rfl 4 _).trans (onlyE_drew _ _)))⟩
          case measure => simp [intOf]; omega
      · rw [e] at HMD HKD
        have HF := Lib.hid (step_two h)
        clear e h
        go_wp2_with (first
          | (go_at_call 9; refine Calls.mono HU.out ?_; rintro e w' ⟨rfl, rfl⟩)
          | (go_at_call 15; refine Calls.mono HMD.out ?_; rintro e w' ⟨rfl, rfl⟩))
        go_region
        all_goals
          go_wp2
          go_roundw
          case rel => exact ⟨k + 1, by omega, by go_num, by rw [HKD.out]; rfl, HST.out _ _ HF.out ((HG2.out.set2 (g'.o + 1)).set4 true) ((onlyE_set (D := fun k => k = p) rfl 2 _).trans ((onlyE_set (D := fun k => k = p) rfl 4 _).trans (onlyE_drew _ _)))⟩
          case measure => simp [intOf]; omega
      · rw [e] at HMD HKD
        have HF := Lib.hid (step_three h)
        clear e h
        go_wp2_with (first
          | (go_at_call 9; refine Calls.mono HU.out ?_; rintro e w' ⟨rfl, rfl⟩)
          | (go_at_call 15; refine Calls.mono HMD.out ?_; rintro e w' ⟨rfl, rfl⟩))
        go_region
        all_goals
          go_wp2
          go_roundw
          case rel => exact ⟨k + 1, by omega, by go_num, by rw [HKD.out]; rfl, HST.out _ _ HF.out ((HG2.out.set3 (g'.a + 1)).set4 true) ((onlyE_set (D := fun k => k = p) rfl 3 _).trans ((onlyE_set (D := fun k => k = p) rfl 4 _).trans (onlyE_drew _ _)))⟩
          case measure => simp [intOf]; omega
    · obtain rfl : k = n := by omega
      have HE : Hid (l.take k = l) := by show _ = _; exact List.take_of_length_le (by rw [HL.out]; omega)
      have HT := Lib.hid hT
      clear hT
      go_wp2
      go_ret
      rw [HE.out] at HT ⊢
      exact ⟨rfl, HT.out⟩

end Go.Proofs.Ytpnihkepfcnglaa
