/- Stage 16: the walk of great. -/
import Derived.Test.YtmnjedpnhilndaaReT
set_option maxRecDepth 20000
namespace Go.Proofs.Ytmnjedpnhilndaa
open Go.RowKit Go.Sort

set_option maxHeartbeats 1600000 in
theorem great_any (y : Ra) (w : World) (h : RaOk w w.heap.size y) : Calls Try.prog 10 #[.agg (encRa y).toArray] w fun e w' => e = .returned (.bool (greatR y)) ∧ RowKit.Below w.heap.size w w' := by
  have hb0 := alloc_below w (.cells (encRa y).toArray 43)
  have hA0 : ABox w.heap.size y (w.alloc (.cells (encRa y).toArray 43)) := heap_alloc_new _ _
  have HG := Lib.hid (refGreat_any y.x.F y.x.cs (w.alloc (.cells (encRa y).toArray 43)) ((h.x.on hb0).x.frl))
  have HFR := Lib.hid hA0.fr
  have HA0 := Lib.hid hA0
  have HB0 := Lib.hid hb0
  have HO := Lib.hid h
  clear h hA0 hb0
  obtain ⟨ac, hac⟩ : ∃ ac, (encRa y).toArray = ac := ⟨_, rfl⟩
  rw [hac] at HG HFR HA0 HB0 ⊢
  clear hac
  have HT0 : Hid (greatB y.x.F = true → greatR y = true) := fun h => by unfold greatR; rw [h]; rfl
  have HT1 : Hid (100 < y.but.length → greatR y = true) := fun h => by unfold greatR; rw [decide_eq_true h]; simp
  have HT2 : Hid (10 < y.ls.length → greatR y = true) := fun h => by unfold greatR; rw [decide_eq_true h]; simp
  have HT3 : Hid (greatB y.x.F = false → ¬ 100 < y.but.length → ¬ 10 < y.ls.length → ∀ q, (y.ls.any fun v => decide (100 < v.length)) = q → greatR y = q) := fun h1 h2 h3 q hq => by
    unfold greatR
    rw [h1, decide_eq_false h2, decide_eq_false h3, hq]
    rfl
  generalize greatR y = res at HT0 HT1 HT2 HT3 ⊢
  generalize hgb : greatB y.x.F = gb at HG
  have HGB := Lib.hid hgb
  clear hgb
  go_enter Try.func10, Try.ntmps10
  go_wp2_with (first | (refine load_elem (.tmp 4) rfl HFR.out ?_) | fail)
  refine HG.out.mono ?_
  rintro e w1 ⟨rfl, hb1⟩
  have HA1 := Lib.hid (HA0.out.on hb1)
  have HB1 := Lib.hid (HB0.out.trans (hb1.mono HB0.out.size))
  clear HG HFR HA0 HB0 hb1
  have z8 := HA1.out.buts
  have z9 := HA1.out.upto
  have hnb : (y.but.length : Int) ≤ 9223372036854775807 := by have := HO.out.nb; unfold maxLen at this; omega
  have hnu : (y.ls.length : Int) ≤ 9223372036854775807 := by have := HO.out.nu; unfold maxLen at this; omega
  generalize hnbE : y.but.length = nb at z8 hnb
  generalize hnuE : y.ls.length = nu at z9 hnu
  have HNB := Lib.hid hnbE
  have HNU := Lib.hid hnuE
  clear hnbE hnuE
  cases gb with
  | true =>
    go_wp2
    go_ret
    exact ⟨by rw [HT0.out HGB.out]; rfl, HB1.out⟩
  | false =>
    by_cases h1 : 100 < nb
    · have d1 : decide ((100 : Int) < (nb : Int)) = true := by simp; omega
      go_wp2
      go_ret
      exact ⟨by rw [HT1.out (by rw [HNB.out]; exact h1)]; rfl, HB1.out⟩
    · have d1 : decide ((100 : Int) < (nb : Int)) = false := by simp; omega
      by_cases h2 : 10 < nu
      · have d2 : decide ((10 : Int) < (nu : Int)) = true := by simp; omega
        go_wp2
        go_ret
        exact ⟨by rw [HT2.out (by rw [HNU.out]; exact h2)]; rfl, HB1.out⟩
      · have d2 : decide ((10 : Int) < (nu : Int)) = false := by simp; omega
        have HRES := Lib.hid (HT3.out HGB.out (by rw [HNB.out]; exact h1) (by rw [HNU.out]; exact h2))
        clear HT0 HT1 HT2 HT3
        go_wp2_with fail
        go_loopw [3] (fun s3 V => ∃ k : Nat, k ≤ nu ∧ s3 = .int .i64 k ∧ V = w1 ∧ Hid (((y.ls.take k).any fun v => decide (100 < v.length)) = false)) (fun s3 _ => nu - (intOf s3).toNat)
        case atStart => exact ⟨0, Nat.zero_le _, rfl, rfl, by show _ = _; simp⟩
        case round =>
          obtain ⟨k, hk, rfl, rfl, hK⟩ := hrel
          by_cases hlt : k < nu
          · have hkl : k < y.ls.length := by rw [HNU.out]; exact hlt
            have hkv : k < y.vs.length := by rw [HO.out.ru.1]; exact hkl
            have HOr := Lib.hid (HO.out.on HB1.out)
            obtain ⟨Av, nv, cv, e1, e2, e3, e4, -⟩ := HOr.out.ru.2 k hkv hkl
            obtain ⟨bu, ou, eU, -, cv0⟩ := HOr.out.lu.at_ (List.getElem?_eq_getElem hkv)
            rw [e1] at cv0
            rw [eU] at z9
            have hnv : (nv : Int) ≤ 9223372036854775807 := by unfold maxLen at e4; omega
            have HST : Hid (((y.ls.take (k + 1)).any fun v => decide (100 < v.length)) = decide (100 < nv)) := by
              show _ = _
              rw [List.take_succ_eq_append_getElem hkl, List.any_append, hK.out]
              simp [e2]
            have HIN : Hid (100 < nv → (y.ls.any fun v => decide (100 < v.length)) = true) := fun h => by
              rw [List.any_eq_true]
              exact ⟨_, List.getElem_mem hkl, by rw [e2]; exact decide_eq_true h⟩
            clear e1 e2 e3 e4 eU
            by_cases h3 : 100 < nv
            · have d3 : decide ((100 : Int) < (nv : Int)) = true := by simp; omega
              go_wp2
              go_ret
              rw [HRES.out true (HIN.out h3)]
              exact ⟨rfl, HB1.out⟩
            · have d3 : decide ((100 : Int) < (nv : Int)) = false := by simp; omega
              have HST2 : Hid (((y.ls.take (k + 1)).any fun v => decide (100 < v.length)) = false) := by show _ = _; rw [HST.out, decide_eq_false h3]
              clear HST HIN
              go_wp2
              go_roundw
              case rel => exact ⟨k + 1, by omega, by go_num, trivial, HST2⟩
              case measure => simp [intOf]; omega
          · have hq : (y.ls.any fun v => decide (100 < v.length)) = false := by
              have := hK.out
              rwa [List.take_of_length_le (by rw [HNU.out]; omega)] at this
            have HQ := Lib.hid (HRES.out false hq)
            clear hq
            go_wp2
            go_ret
            rw [HQ.out]
            exact ⟨rfl, HB1.out⟩

theorem greatR_no {y : Ra} (h : greatR y = false) : greatB y.x.F = false ∧ y.but.length ≤ 100 ∧ y.ls.length ≤ 10 := by
  unfold greatR at h
  simp only [Bool.or_eq_false_iff, decide_eq_false_iff_not] at h
  exact ⟨h.1.1.1, by omega, by omega⟩

end Go.Proofs.Ytmnjedpnhilndaa
