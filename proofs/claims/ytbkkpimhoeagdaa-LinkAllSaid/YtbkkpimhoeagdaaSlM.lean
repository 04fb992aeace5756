/- Waiting, walked. -/
import Derived.Test.YtbkkpimhoeagdaaSlL
namespace Go.Proofs.Ytbkkpimhoeagdaa
open Go.RowKit Go.Sort
set_option maxRecDepth 20000

section
variable {w : World} {base p : Nat} {T : Value} {width last : Nat} {l : List Pf} {D : Nat → Prop}

theorem waiting_past (h : WinAt w base p T width last l D) (fr : Nat) (most : Int) (hf : last < fr) : Calls Try.prog 51 #[.pointer (some ⟨p, 0, none⟩), .int .u64 (fr : Int), .int .i64 most] w (Waited w (waitF (l.map Pf.F) (firstN last l.length) fr most)) := by
  have HE : Hid (waitF (l.map Pf.F) (firstN last l.length) fr most = []) := by
    show _ = _
    have := h.fit2
    unfold waitF firstN
    rw [List.drop_eq_nil_of_le (by rw [List.length_map]; omega), List.take_nil]
  rw [HE.out]
  have hd0 : ((some ⟨p, 0, none⟩ : Option Addr) == none) = false := rfl
  have c2 := h.c2
  have d2 : decide (last < fr) = true := by simpa using hf
  clear h
  go_enter Try.func51, Try.ntmps51
  go_wp2
  go_ret
  exact ⟨_, _, _, rfl, rfl, FrsOwn.nil _ _, RowKit.Below.refl _ _⟩

set_option maxRecDepth 20000 in
set_option maxHeartbeats 3200000 in
theorem waiting_any (h : WinAt w base p T width last l D) (fr : Nat) (most : Int) (hf : fr ≤ last) (hm1 : -9223372036854775808 ≤ most) (hm2 : most ≤ 9223372036854775807) : Calls Try.prog 51 #[.pointer (some ⟨p, 0, none⟩), .int .u64 (fr : Int), .int .i64 most] w (Waited w (waitF (l.map Pf.F) (firstN last l.length) fr most)) := by
  have hF := first_any h
  have hd0 : ((some ⟨p, 0, none⟩ : Option Addr) == none) = false := rfl
  have c2 := h.c2
  have d2 : decide (last < fr) = false := by simpa using hf
  have hlow := h.low
  have hfit := h.fit
  have hfit2 := h.fit2
  have hwid := h.wid2
  -- how far the front goes
  have hdn : fr - firstN last l.length ≤ l.length := by unfold firstN; omega
  have HM1 : Hid (max (fr : Int) (firstN last l.length : Int) - (firstN last l.length : Int) = ((fr - firstN last l.length : Nat) : Int)) := by show _ = _; omega
  have HM2 : Hid (max 0 (min most (((l.length - (fr - firstN last l.length) : Nat)) : Int)) = ((min most.toNat (l.length - (fr - firstN last l.length)) : Nat) : Int)) := by show _ = _; omega
  have hq : min most.toNat (l.length - (fr - firstN last l.length)) ≤ l.length - (fr - firstN last l.length) := Nat.min_le_right _ _
  have HW : Hid (waitF (l.map Pf.F) (firstN last l.length) fr most = ((l.map Pf.F).drop (fr - firstN last l.length)).take (min most.toNat (l.length - (fr - firstN last l.length)))) := by
    show _ = _
    unfold waitF
    rw [← List.take_take, show ((l.map Pf.F).drop (fr - firstN last l.length)).take (l.length - (fr - firstN last l.length)) = (l.map Pf.F).drop (fr - firstN last l.length) from List.take_of_length_le (by rw [List.length_drop, List.length_map]; omega)]
  rw [HW.out]
  have k1 : max (fr : Int) (firstN last l.length : Int) ≤ 1000001 := by unfold firstN; omega
  have k2 : (0 : Int) ≤ max (fr : Int) (firstN last l.length : Int) := by omega
  have k3 : (firstN last l.length : Int) ≤ max (fr : Int) (firstN last l.length : Int) := by omega
  generalize min most.toNat (l.length - (fr - firstN last l.length)) = q at HM2 hq ⊢
  generalize fr - firstN last l.length = d at hdn HM1 HM2 hq ⊢
  have k4 : firstN last l.length ≤ 1000001 := by unfold firstN; omega
  generalize firstN last l.length = fs at hF HM1 k1 k2 k3 k4
  clear HW
  obtain ⟨A, c, rfl, hnc, hcm⟩ := h.slice
  have H := Lib.hid h
  clear h
  by_cases hcd : c = d
  · obtain rfl : q = 0 := by omega
    obtain rfl : d = l.length := by omega
    have hcl : (c : Int) ≤ 9223372036854775807 := by unfold maxLen at hcm; omega
    have hm := HM1.out
    have HM0 : Hid (max 0 (min most 0) = 0) := by show _ = _; omega
    have hm0 := HM0.out
    have hlen : l.length = c := hcd.symm
    have HLEN := Lib.hid hlen
    rw [List.take_zero]
    rw [hlen] at hm
    clear hcd HM2 hdn hq hlen
    go_enter Try.func51, Try.ntmps51
    go_wp2_with fail
    refine hF.mono ?_
    rintro e w1 ⟨rfl, hb1⟩
    have HB1 := Lib.hid hb1
    have c0 := (H.out.on hb1).c0
    rw [HLEN.out] at c0
    clear hb1 hF c2
    go_wp2_with fail
    go_loop [9, 42] (fun v i => v = .slice none 0 0 ∧ i = .int .i64 0) (fun _ _ => 0)
    case atStart => exact ⟨rfl, rfl⟩
    case round =>
      obtain ⟨rfl, rfl⟩ := hrel
      go_wp2
      go_ret
      exact ⟨_, _, _, rfl, rfl, FrsOwn.nil _ _, HB1.out⟩
  · have hcd2 : d < c := by omega
    obtain ⟨g, rfl⟩ : ∃ g, A = some ⟨g, 0, none⟩ := by
      rcases H.out.row.2 with ⟨h0, h1⟩ | ⟨g, cap, cur, hv, _⟩
      · injection h0 with e1 e2 e3
        omega
      · injection hv with e1 e2 e3
        exact ⟨g, e1⟩
    have hcl : (c : Int) ≤ 9223372036854775807 := by unfold maxLen at hcm; omega
    have hm := HM1.out
    have hm2 := HM2.out
    have hqc : q ≤ c - d := by omega
    have HQ := Lib.hid hq
    have HDN := Lib.hid hdn
    generalize hN : l.length = n at *
    have HN := Lib.hid hN
    have k6 : (d : Int) ≤ (n : Int) := by omega
    have k7 : n ≤ 64 := by omega
    have k8 : q ≤ n - d := hq
    clear hN HM1 HM2
    go_enter Try.func51, Try.ntmps51
    go_wp2_with fail
    refine hF.mono ?_
    rintro e w1 ⟨rfl, hb1⟩
    have HB1 := Lib.hid hb1
    have c0 := (H.out.on hb1).c0
    clear hb1 hF c2
    go_wp2_with fail
    generalize hFs : ((l.map Pf.F).drop d).take q = Fs
    have HFS := Lib.hid hFs
    have HFL : Hid (Fs.length = q) := by show _ = _; rw [← hFs, List.length_take, List.length_drop, List.length_map, HN.out]; omega
    clear hFs hm2 hm c0
    go_loopw [9, 11, 42] (fun v _ i wr => ∃ (k : Nat) (Ak : Option Addr) (ck : Nat), k ≤ q ∧ i = .int .i64 k ∧ v = .slice Ak k ck ∧ FrsOwn wr w.heap.size (Fs.take k) (.slice Ak k ck) ∧ RowKit.Below w.heap.size w wr) (fun _ _ i _ => q - (intOf i).toNat)
    case atStart => exact ⟨0, none, 0, Nat.zero_le _, rfl, rfl, by rw [List.take_zero]; exact FrsOwn.nil _ _, HB1.out⟩
    case round =>
      obtain ⟨k, Ak, ck, hk, rfl, rfl, hO, hB⟩ := hrel
      by_cases hlt : k < q
      · have hdk : d + k < l.length := by rw [HN.out]; omega
        have hkF : k < Fs.length := by rw [HFL.out]; exact hlt
        have hTL : Hid ((Fs.take k).length = k) := by show _ = _; rw [List.length_take]; omega
        have hHr := H.out.on hB
        obtain ⟨b, off, e, hbw, hc⟩ := row_at (hHr.lies rfl) hdk
        injection e with e
        injection e with e1 e2
        subst e1 e2
        rw [Nat.zero_add, Nat.add_mul] at hc
        have hx := hHr.frs _ (List.getElem_mem hdk)
        have hxo := hHr.oks _ (List.getElem_mem hdk)
        have HTK : Hid (Fs.take (k + 1) = Fs.take k ++ [l[d + k].F]) := by
          show _ = _
          rw [List.take_succ_eq_append_getElem hkF]
          congr 2
          simp only [← HFS.out, List.getElem_take, List.getElem_drop, List.getElem_map]
        generalize l[d + k] = x at hc hx hxo HTK
        have HXX := Lib.hid hx.frl
        have HXO := Lib.hid hxo
        have HOO := Lib.hid hO
        have HB := Lib.hid hB
        clear hx hxo hHr hO hB hdk hkF
        have hbA : RowKit.Below wr.heap.size wr (wr.alloc (.cells x.cs 44)) := (RowKit.Below.refl _ _).alloc (Nat.le_refl _) _
        have HCP : Hid (∀ W, W = wr.alloc (.cells x.cs 44) → Calls Try.prog 36 #[.agg x.cs] W (Copied W x.F)) := by
          rintro W rfl
          exact fresh_any x.F x.cs _ (HXX.out.on hbA) HXO.out
        have HBA := Lib.hid hbA
        have HR5 : Hid ((wr.alloc (.cells x.cs 44)).heap[wr.heap.size]? = some (.cells x.cs 44 (0, 0))) := heap_alloc_new _ _
        clear hbA
        go_wp2_with (first | (refine load_elem (.tmp 44) rfl hc ?_) | (refine store_frame_new (.tmp 11) (.tmp 45) rfl rfl rfl rfl (Pf.size x) (Pf.one x) ?_) | (refine load_frame (.tmp 11) rfl HR5.out (Pf.size x) ?_) | fail)
        refine (HCP.out _ rfl).mono ?_
        rintro e w6 ⟨y, hF6, rfl, ho6, hb6⟩
        have hb7 : RowKit.Below wr.heap.size wr w6 := HBA.out.trans (hb6.mono HBA.out.size)
        have hs := HB.out.size
        obtain ⟨A2, c2, w2, hrun, hO2, hB2⟩ := FrsOwn.step hTL.out HOO.out HB.out.size hb7 (ho6.base (by have := HBA.out.size; omega)) (by omega)
        rw [hF6, ← HTK.out] at hO2
        have HO2 := Lib.hid hO2
        have HB2 : Hid (RowKit.Below w.heap.size w w2) := HB.out.trans hB2
        have HRUN := Lib.hid hrun
        clear hO2 hB2 hrun hb6 hb7 ho6 hF6 hc
        go_wp2_with (first | (refine wpList_build1 rfl (x := .tmp 48) (y := y) rfl rfl ?_) | (at_builtin; refine wpList_append_run rfl (.tmp 46) (.tmp 49) 26 rfl rfl rfl HRUN.out ?_) | fail)
        go_roundw
        case rel => exact ⟨k + 1, A2, c2, by omega, by go_num, rfl, HO2.out, HB2.out⟩
        case measure => simp [intOf]; omega
      · obtain rfl : k = q := by omega
        have HOO := Lib.hid hO
        have HB := Lib.hid hB
        clear hO hB hlt
        have hTL : Hid (Fs.take k = Fs) := List.take_of_length_le (by rw [HFL.out]; exact Nat.le_refl _)
        go_wp2
        go_ret
        have h1 := HOO.out
        rw [hTL.out, ← HFS.out] at h1
        have h2 := HFL.out
        rw [← HFS.out] at h2
        exact ⟨_, _, _, rfl, h2, h1, HB.out⟩
end

end Go.Proofs.Ytbkkpimhoeagdaa
