/- Stage 11: the document's Missing and Same. -/
import Derived.Test.YtjkolneonhfjnaaDoorBsH
set_option maxRecDepth 20000
namespace Go.Proofs.YtjkolneonhfjnaaDoor
open Go.RowKit Go.Sort

section
variable {w w' : World} {m : List Bool}

set_option maxHeartbeats 1600000 in
theorem refMissing_any (A : Option Addr) (n c : Nat) (hl : m.length = n) (hn : n ≤ 2000) (hL : Lies w w.heap.size A (bls m)) (fz most : Int) (f : Nat) (hf : fz.toNat = f) :
    Calls Tryd.prog 19 #[.slice A n c, .int .i64 fz, .int .i64 most] w fun e w' => OwnedK w w.heap.size (missL m f most) e w' := by
  have HL := Lib.hid hl
  have H := Lib.hid hL
  clear hl hL
  go_enter Tryd.func19, Tryd.ntmps19
  go_wp2_with fail
  have HST := Lib.hid (show (w.alloc (.cells #[] 3)).ownsRow w.heap.size 3 1 (.slice (some ⟨w.heap.size, 0, none⟩) 0 0) 0 (kvs []) from World.ownsRow_lit w #[] 0 (Nat.le_refl _) (Nat.zero_le _) rfl)
  have HB0 := Lib.hid (show RowKit.Below w.heap.size w (w.alloc (.cells #[] 3)) from (RowKit.Below.refl _ _).alloc (Nat.le_refl _) _)
  generalize hW : World.alloc w _ = w0
  rw [hW] at HST HB0
  clear hW
  go_loopw [7, 12] (fun s7 s12 wr => ∃ (r k c : Nat) (A : Option Addr), s12 = .int .i64 (r : Int) ∧ s7 = .slice A k c ∧ r ≤ n ∧ k ≤ r ∧ ((upTo m f r).take most.toNat).length = k ∧ wr.ownsRow w.heap.size 3 1 (.slice A k c) k (kvs ((upTo m f r).take most.toNat)) ∧ RowKit.Below w.heap.size w wr) (fun _ s12 _ => n - (Lib.intOf s12).toNat)
  case atStart => exact ⟨0, 0, 0, _, rfl, rfl, Nat.zero_le _, Nat.zero_le _, by simp [upTo_zero], by simp [upTo_zero]; exact HST.out, HB0.out⟩
  case round =>
    obtain ⟨r, k, c1, A1, rfl, rfl, hr, hkr, hlen, hown, hb⟩ := hrel
    have HO := Lib.hid hown
    have HB := Lib.hid hb
    have HN := Lib.hid hlen
    have hbase := hb.size
    clear hown hb hlen
    by_cases hrn : r < n
    · have hrl : r < m.length := by have := HL.out; omega
      obtain ⟨b, off, eA, hlt, hc⟩ := (H.out.below HB.out).at_ (bls_at hrl)
      subst eA
      have HP := Lib.hid (msP_in (f := f) hrl)
      clear hlt
      have hkB : k ≤ 2000 := by omega
      by_cases h1 : fz ≤ (r : Int)
      · have hd1 : decide (fz ≤ (r : Int)) = true := by simpa using h1
        have hfr : f ≤ r := by omega
        cases hv : m.getD r false
        · rw [hv] at hc HP
          have HY := Lib.hid (HP.out.trans (by simp [hfr]) : msP m f r = true)
          clear hv
          by_cases h2 : (k : Int) < most
          · have hd2 : decide ((k : Int) < most) = true := by simpa using h2
            have HE := Lib.hid (take_yes HY.out (t := most.toNat) (by have := HN.out; omega))
            have ho := HO.out
            clear h1 h2
            go_wp2_with (at_builtin; refine wpList_pushK rfl (.tmp 31) (.tmp 33) rfl _ k ((upTo m f r).take most.toNat) r _ rfl rfl ho ?a1 hbase ?_)
            case a1 => omega
            intro v2 w2 hown2 hb2
            obtain ⟨A2, c2, rfl, hc1, hc2⟩ := own_slice hown2
            have HO2 := Lib.hid hown2
            have HB2 := Lib.hid (HB.out.trans hb2)
            clear hown2 hb2 ho HO
            go_wp2_with fail
            refine ⟨⟨r + 1, k + 1, c2, A2, rfl, rfl, hrn, by omega, ?_, ?_, HB2.out⟩, by simp [Lib.intOf]; omega⟩
            · rw [HE.out, List.length_append, HN.out]; rfl
            · rw [HE.out]; exact HO2.out
          · have hd2 : decide ((k : Int) < most) = false := by simpa using h2
            have HE := Lib.hid (take_full (m := m) (f := f) (r := r) (t := most.toNat) (by have := HN.out; omega))
            clear h1 h2
            go_wp2_with fail
            refine ⟨⟨r + 1, k, c1, A1, rfl, rfl, hrn, by omega, ?_, ?_, HB.out⟩, by simp [Lib.intOf]; omega⟩
            · rw [HE.out, HN.out]
            · rw [HE.out]; exact HO.out
        · rw [hv] at hc HP
          have HY := Lib.hid (HP.out.trans (by simp) : msP m f r = false)
          clear hv h1
          go_wp2_with fail
          refine ⟨⟨r + 1, k, c1, A1, rfl, rfl, hrn, by omega, ?_, ?_, HB.out⟩, by simp [Lib.intOf]; omega⟩
          · rw [upTo_no HY.out, HN.out]
          · rw [upTo_no HY.out]; exact HO.out
      · have hd1 : decide (fz ≤ (r : Int)) = false := by simpa using h1
        have hfr : ¬ f ≤ r := by omega
        have HY := Lib.hid (HP.out.trans (by simp [hfr]) : msP m f r = false)
        clear h1
        go_wp2_with fail
        refine ⟨⟨r + 1, k, c1, A1, rfl, rfl, hrn, by omega, ?_, ?_, HB.out⟩, by simp [Lib.intOf]; omega⟩
        · rw [upTo_no HY.out, HN.out]
        · rw [upTo_no HY.out]; exact HO.out
    · obtain rfl : n = r := by omega
      have e : (upTo m f n).take most.toNat = missL m f most := by unfold missL; rw [HL.out]
      rw [e] at HO
      go_wp2_with fail
      go_ret
      exact OwnedK.of HO.out HB.out

set_option maxHeartbeats 800000 in
theorem refSame_any (A A2 : Option Addr) (n c c2 : Nat) (l : List Nat) (hl : l.length = n) (hn : n ≤ 2000) (hL : Lies w w.heap.size A (kvs l)) (hL2 : Lies w w.heap.size A2 (kvs l)) :
    Calls Tryd.prog 17 #[.slice A n c, .slice A2 n c2] w fun e w' => e = .returned (.bool true) ∧ RowKit.Below w.heap.size w w' := by
  have HL := Lib.hid hl
  have H := Lib.hid hL
  have H2 := Lib.hid hL2
  clear hl hL hL2
  go_enter Tryd.func17, Tryd.ntmps17
  go_wp2_with fail
  go_loopw [13] (fun s13 wr => ∃ k : Nat, s13 = .int .i64 (k : Int) ∧ k ≤ n ∧ RowKit.Below w.heap.size w wr) (fun s13 _ => n - (Lib.intOf s13).toNat)
  case atStart => exact ⟨0, rfl, Nat.zero_le _, RowKit.Below.refl _ _⟩
  case round =>
    obtain ⟨k, rfl, hk, hb⟩ := hrel
    by_cases hkn : k < n
    · have hkl : k < l.length := by have := HL.out; omega
      obtain ⟨b, off, eA, hlt, hc⟩ := (H.out.below hb).at_ (kvs_at hkl)
      obtain ⟨b2, off2, eA2, hlt2, hc2⟩ := (H2.out.below hb).at_ (kvs_at hkl)
      subst eA eA2
      generalize l[k] = x at hc hc2
      have HB := Lib.hid hb
      clear hb hlt hlt2 hkl
      go_wp2_with fail
      go_region
      go_wp2_with fail
      exact ⟨⟨k + 1, rfl, hkn, HB.out.trans (RowKit.Below.refl _ _).drew⟩, by simp [Lib.intOf]; omega⟩
    · obtain rfl : n = k := by omega
      have HB := Lib.hid hb
      clear hb
      go_wp2_with fail
      go_ret
      exact ⟨rfl, HB.out⟩
end

end Go.Proofs.YtjkolneonhfjnaaDoor
