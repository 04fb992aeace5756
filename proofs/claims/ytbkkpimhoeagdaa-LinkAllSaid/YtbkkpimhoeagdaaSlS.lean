/- The document's Acked. -/
import Derived.Test.YtbkkpimhoeagdaaSlR
namespace Go.Proofs.Ytbkkpimhoeagdaa
open Go.RowKit Go.Sort
set_option maxRecDepth 20000

theorem refAcked_past (A : Option Addr) (n c width last upto : Nat) (lm : List Pf) (w : World) (hl : lm.length = n) (hnc : n ≤ c) (hcm : c ≤ maxLen) (hu : last < upto) :
    Calls Try.prog 32 #[.agg #[.int .i64 (width : Int), .slice A n c, .int .u64 (last : Int)], .int .u64 (upto : Int)] w (RGot w A lm width (lm.drop (ackN last n upto)) last (ackN last n upto)) := by
  have e0 : ackN last n upto = 0 := by unfold ackN; rw [if_neg (by omega)]
  rw [e0, List.drop_zero]
  have hd : decide (last < upto) = true := by simpa using hu
  have HL := Lib.hid hl
  clear hl e0
  go_enter Try.func32, Try.ntmps32
  go_wp2
  refine bodyPost_ret (results_cell_tmp rfl _ _ (w.heap.size + 1) _ rfl (load_rowW (alloc2_new _ _ _) rfl)) rfl ?_
  have hbw : ∀ o1 o2, RowKit.Below w.heap.size w ((w.alloc o1).alloc o2) := fun o1 o2 => ((RowKit.Below.refl _ _).alloc (Nat.le_refl _) _).alloc (by simp) _
  exact ⟨A, c, by rw [HL.out]; rfl, by rw [HL.out]; exact hnc, hcm, KeepsP.same A lm (hbw _ _), hbw _ _⟩

/-- What stands while those are gathered that are left. -/
def AckS (w : World) (gs : Array Value) (lm : List Pf) (d i : Nat) (v : Value) (W : World) : Prop :=
  RBox w gs zeroW W ∧ W.ownsRow (w.heap.size + 2) 44 16 v (i - d) (flat encPf ((lm.take i).drop d))

theorem AckS.step {w W : World} {gs : Array Value} {lm : List Pf} {d i : Nat} {A : Option Addr} {c : Nat} (h : AckS w gs lm d i (.slice A (i - d) c) W) (hi : i < lm.length) (hd : d ≤ i) (hn : lm.length ≤ 100) :
    ∃ A' c' w2, (Builtin.append_ #[26, 26] 26 #[.slice A (i - d) c, .slice (some ⟨W.heap.size, 0, none⟩) 1 1]).run Try.prog (W.alloc (.cells lm[i].cs 44)) = .ok (.slice A' (i + 1 - d) c') w2 ∧
      AckS w gs lm d (i + 1) (.slice A' (i + 1 - d) c') w2 := by
  obtain ⟨h1, h2⟩ := h
  have hbA : RowKit.Below W.heap.size W (W.alloc (.cells lm[i].cs 44)) := (RowKit.Below.refl _ _).alloc (Nat.le_refl _) _
  have hA := h2.alloc (.cells lm[i].cs 44)
  have hL := lies_new W lm[i].cs 44
  rw [← flat_single] at hL
  have hs : w.heap.size + 2 ≤ (W.alloc (.cells lm[i].cs 44)).heap.size := (h1.on hbA).lt
  obtain ⟨A', c', w2, hrun, hown, hg, -, -, -⟩ := app_frame (m := 1) (c := 1) hA (List.length_singleton : [lm[i]].length = 1) hL hs (by omega)
  rw [show i - d + 1 = i + 1 - d by omega] at hrun hown
  refine ⟨A', c', w2, hrun, ?_, ?_⟩
  · exact (h1.on hbA).up ((RowKit.Below.refl _ _).grown hg hs (fun k e => (hA.lt k e).1))
  · rw [← flat_append] at hown
    rw [List.take_succ_eq_append_getElem hi, List.drop_append_of_le_length (by rw [List.length_take]; omega)]
    exact hown

set_option maxRecDepth 20000 in
set_option maxHeartbeats 3200000 in
theorem refAcked_any (A : Option Addr) (n c width last upto : Nat) (lm : List Pf) (w : World) (hl : lm.length = n) (hu : upto ≤ last) (hA : Lies w w.heap.size A (flat encPf lm)) (hn : n ≤ last) (hn1 : n ≤ 100) (hs : ∀ i (h : i < lm.length), lm[i].F.seq = firstN last n + i) :
    Calls Try.prog 32 #[.agg #[.int .i64 (width : Int), .slice A n c, .int .u64 (last : Int)], .int .u64 (upto : Int)] w (RGot w A lm width (lm.drop (ackN last n upto)) last (ackN last n upto)) := by
  have hk : ackN last n upto ≤ n := ackN_le last n upto hn
  have hkd : ackN last n upto = upto + 1 - firstN last n := by unfold ackN; rw [if_pos hu]
  generalize ackN last n upto = d at hk hkd ⊢
  have hd0 : decide (last < upto) = false := by simp; omega
  have hd1 : ¬ last < upto := by omega
  have HL := Lib.hid hl
  have HA := Lib.hid hA
  have HSQ := Lib.hid hs
  have HKD := Lib.hid hkd
  have H0 : Hid (∀ W, (w.alloc (.cells #[.int .i64 (width : Int), .slice A n c, .int .u64 (last : Int)] 29)).alloc (.cells zeroW 29) = W → RBox w (rCells width (.slice A n c) last) zeroW W) := fun W h => RBox.start h
  clear hl hA hs hkd
  go_enter Try.func32, Try.ntmps32
  go_wp2_with fail
  have hO9 : ((((w.alloc (.cells #[.int .i64 (width : Int), .slice A n c, .int .u64 (last : Int)] 29)).alloc (.cells zeroW 29))).alloc (.cells #[] 44)).ownsRow (w.heap.size + 2) 44 16 (.slice (some ⟨w.heap.size + 1 + 1, 0, none⟩) 0 0) 0 [] := by
    have h1 := (H0.out _ rfl).lt
    have := World.ownsRow_lit (base := w.heap.size + 2) (size := 16) (e := 44) ((w.alloc (.cells #[.int .i64 (width : Int), .slice A n c, .int .u64 (last : Int)] 29)).alloc (.cells zeroW 29)) #[] 0 h1 (Nat.zero_le _) rfl
    rw [show ((w.alloc (.cells #[.int .i64 (width : Int), .slice A n c, .int .u64 (last : Int)] 29)).alloc (.cells zeroW 29)).heap.size = w.heap.size + 1 + 1 by simp] at this
    exact this
  have HS0 : Hid (AckS w (rCells width (.slice A n c) last) lm d 0 (.slice (some ⟨w.heap.size + 1 + 1, 0, none⟩) 0 0) _) := ⟨(H0.out _ rfl).on ((RowKit.Below.refl _ _).alloc (Nat.le_refl _) _), by rw [List.take_zero, List.drop_nil, Nat.zero_sub]; exact hO9⟩
  clear hO9
  go_loopw [6, 7, 18] (fun v _ s18 wr => ∃ (i : Nat) (Ai : Option Addr) (ci : Nat), i ≤ n ∧ s18 = .int .i64 i ∧ v = .slice Ai (i - d) ci ∧ AckS w (rCells width (.slice A n c) last) lm d i (.slice Ai (i - d) ci) wr) (fun _ _ s18 _ => n - (intOf s18).toNat)
  case atStart => exact ⟨0, _, 0, Nat.zero_le _, rfl, by rw [Nat.zero_sub], by rw [Nat.zero_sub]; exact HS0.out⟩
  case round =>
    clear HS0
    obtain ⟨i, Ai, ci, hi, rfl, rfl, hS⟩ := hrel
    have z1 : wr.cell? ⟨w.heap.size, 1, none⟩ = some (.slice A n c) := hS.1.cell 1
    have hlt0 := hS.1.lt
    have HS := Lib.hid hS
    by_cases hlt : i < n
    · have hil : i < lm.length := by rw [HL.out]; exact hlt
      obtain ⟨b, off, rfl, hbw, hc⟩ := row_at ((HA.out.below hS.1.below).more hS.1.below.size) hil
      have hsq := range_seq hc
      rw [HSQ.out i hil] at hsq
      have hkd := HKD.out
      by_cases hdi : d ≤ i
      · have hgt : decide (upto < firstN last n + i) = true := by simp; omega
        have hgt1 : upto < firstN last n + i := by omega
        obtain ⟨A2, c2, w2, hrun, hS2⟩ := HS.out.step hil hdi (by rw [HL.out]; omega)
        have HRUN := Lib.hid hrun
        have HS2 := Lib.hid hS2
        generalize lm[i] = x at hc HRUN
        generalize firstN last n + i = sq at hsq hgt hgt1
        clear hrun hS2 hS hil hkd HS
        go_wp2_with (first | (refine load_elem (.tmp 33) rfl hc ?_) | (refine wpList_build1 rfl (x := .tmp 34) (y := x) rfl rfl ?_) | (at_builtin; refine wpList_append_run rfl (.tmp 29) (.tmp 35) 26 rfl rfl rfl HRUN.out ?_) | fail)
        go_roundw
        case rel => exact ⟨i + 1, A2, c2, by omega, by go_num, rfl, HS2.out⟩
        case measure => simp [intOf]; omega
      · have hgt : decide (upto < firstN last n + i) = false := by simp; omega
        have hgt1 : ¬ upto < firstN last n + i := by omega
        have HE : Hid (AckS w (rCells width (.slice (some ⟨b, off, none⟩) n c) last) lm d (i + 1) (.slice Ai (i - d) ci) wr) := by
          refine ⟨HS.out.1, ?_⟩
          have h2 := HS.out.2
          rw [show i + 1 - d = i - d by omega, List.drop_eq_nil_of_le (by rw [List.length_take]; omega)]
          rw [List.drop_eq_nil_of_le (by rw [List.length_take]; omega)] at h2
          exact h2
        have hid : i + 1 - d = i - d := by omega
        have HID := Lib.hid hid
        generalize firstN last n + i = sq at hsq hgt hgt1
        clear hS hil hkd HS hc hid
        go_wp2
        go_roundw
        case rel => exact ⟨i + 1, Ai, ci, by omega, by go_num, by rw [HID.out], by rw [HID.out]; exact HE.out⟩
        case measure => simp [intOf]; omega
    · obtain rfl : i = n := by omega
      have htk : lm.take i = lm := List.take_of_length_le (by rw [HL.out]; exact Nat.le_refl _)
      have hO : wr.ownsRow (w.heap.size + 2) 44 16 (.slice Ai (i - d) ci) (i - d) (flat encPf (lm.drop d)) := by
        have := hS.2
        rw [htk] at this
        exact this
      obtain ⟨A9, c9, e, hc5, hm5⟩ := own_sliceK hO
      injection e with e1 e2 e3
      subst e1 e3
      clear e2
      have HO5 := Lib.hid hO
      have HG5 := Lib.hid hS.1
      have HC5 := Lib.hid hc5
      have HM5 := Lib.hid hm5
      have z0 := hS.1.cell 0
      have z2 := hS.1.cell 2
      have q0 := hS.1.cellR 0
      have q1 := hS.1.cellR 1
      have q2 := hS.1.cellR 2
      have y1 := hS.1.fr 1
      have r0 := hS.1.frR 0
      have r1 := hS.1.frR 1
      have r2 := hS.1.frR 2
      simp only [rCells, zeroW, List.getElem?_toArray, List.getElem?_cons_succ, List.getElem?_cons_zero] at z0 z2 q0 q1 q2
      have HDL : Hid ((lm.drop d).length = i - d) := by show _ = _; rw [List.length_drop, HL.out]
      have HEK : Hid ((i : Int) - ((i - d : Nat) : Int) = (d : Int)) := by show _ = _; omega
      have hek := HEK.out
      clear hS hO hc5 hm5 htk HS
      go_wp2_with fail
      have hG := HG5.out.setBox 1 (.slice Ai (i - d) ci)
      have hR := ((hG.setRes 0 (.int .i64 (width : Int))).setRes 1 (.slice Ai (i - d) ci)).setRes 2 (.int .u64 (last : Int))
      have hbw := hR.below
      refine bodyPost_ret (results_cell_tmp rfl _ _ (w.heap.size + 1) _ rfl (load_rowW hR.res rfl)) rfl ?_
      refine ⟨Ai, ci, by rw [HDL.out]; rfl, by rw [HDL.out]; exact HC5.out, HM5.out, ?_, hbw⟩
      have hD : ∀ b, (Value.slice Ai (i - d) ci).ownBlock = some b → ¬ (b = w.heap.size ∨ b = w.heap.size + 1) := fun b hb e => by have := (HO5.out.lt b hb).1; omega
      have h1 := own_only HO5.out ((onlyE_set (D := fun k => k = w.heap.size ∨ k = w.heap.size + 1) (.inl rfl) 1 (.slice Ai (i - d) ci)).trans ((onlyE_set (D := fun k => k = w.heap.size ∨ k = w.heap.size + 1) (.inr rfl) 0 (.int .i64 (width : Int))).trans ((onlyE_set (D := fun k => k = w.heap.size ∨ k = w.heap.size + 1) (.inr rfl) 1 (.slice Ai (i - d) ci)).trans (onlyE_set (D := fun k => k = w.heap.size ∨ k = w.heap.size + 1) (.inr rfl) 2 (.int .u64 (last : Int)))))) hD
      exact KeepsP.new h1 (by omega)

end Go.Proofs.Ytbkkpimhoeagdaa
