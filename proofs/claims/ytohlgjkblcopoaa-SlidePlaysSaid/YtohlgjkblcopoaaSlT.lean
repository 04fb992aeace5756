/- The document's From. -/
import Derived.Test.YtohlgjkblcopoaaSlS
namespace Go.Proofs.Ytohlgjkblcopoaa
open Go.RowKit Go.Sort

/-- What stands while those are gathered that are told. -/
def FroS (w : World) (gs : Array Value) (lm : List Pf) (d M i : Nat) (v : Value) (W : World) : Prop :=
  RowKit.Below w.heap.size w W ∧ W.heap[w.heap.size]? = some (.cells gs 29 (0, 0)) ∧ W.ownsRow (w.heap.size + 1) 40 16 v (min M (i - d)) (flat encPf (((lm.take i).drop d).take M))

theorem FroS.step {w W : World} {gs : Array Value} {lm : List Pf} {d M i L : Nat} {A : Option Addr} {c : Nat} (h : FroS w gs lm d M i (.slice A L c) W) (hL : L = i - d) (hi : i < lm.length) (hd : d ≤ i) (hM : i - d < M) (hn : lm.length ≤ 100) :
    ∃ A' c' w2, (Builtin.append_ #[27, 27] 27 #[.slice A L c, .slice (some ⟨W.heap.size, 0, none⟩) 1 1]).run Try.prog (W.alloc (.cells lm[i].cs 40)) = .ok (.slice A' (L + 1) c') w2 ∧
      FroS w gs lm d M (i + 1) (.slice A' (L + 1) c') w2 := by
  obtain ⟨h1, h3, h2⟩ := h
  subst hL
  rw [Nat.min_eq_right (by omega), List.take_of_length_le (by rw [List.length_drop, List.length_take]; omega)] at h2
  have hlt := (Array.getElem?_eq_some_iff.1 h3).1
  have hbA : RowKit.Below W.heap.size W (W.alloc (.cells lm[i].cs 40)) := (RowKit.Below.refl _ _).alloc (Nat.le_refl _) _
  have hA := h2.alloc (.cells lm[i].cs 40)
  have hL := lies_new W lm[i].cs 40
  rw [← flat_single] at hL
  have hs : w.heap.size + 1 ≤ (W.alloc (.cells lm[i].cs 40)).heap.size := by simp; omega
  obtain ⟨A', c', w2, hrun, hown, hg, -, -, -⟩ := app_frame (m := 1) (c := 1) hA (List.length_singleton : [lm[i]].length = 1) hL hs (by omega)
  have hb2 : RowKit.Below (w.heap.size + 1) (W.alloc (.cells lm[i].cs 40)) w2 := (RowKit.Below.refl _ _).grown hg hs (fun k e => (hA.lt k e).1)
  refine ⟨A', c', w2, hrun, ?_, ?_, ?_⟩
  · exact (h1.alloc (by omega) _).trans (hb2.mono (by omega))
  · exact (hb2.block _ (by omega)).trans ((hbA.block _ hlt).trans h3)
  · rw [← flat_append] at hown
    rw [show min M (i + 1 - d) = i - d + 1 by omega, List.take_succ_eq_append_getElem hi, List.drop_append_of_le_length (by rw [List.length_take]; omega), List.take_of_length_le (by rw [List.length_append, List.length_drop, List.length_take, List.length_singleton]; omega)]
    exact hown
theorem FroS.skip {w W : World} {gs : Array Value} {lm : List Pf} {d M i L : Nat} {A : Option Addr} {c : Nat} (h : FroS w gs lm d M i (.slice A L c) W) (hi : i < lm.length) (hd : ¬ (d ≤ i ∧ i - d < M)) : FroS w gs lm d M (i + 1) (.slice A L c) W := by
  refine ⟨h.1, h.2.1, ?_⟩
  have h2 := h.2.2
  by_cases hdi : d ≤ i
  · have hM : M ≤ i - d := by omega
    rw [show min M (i + 1 - d) = min M (i - d) by omega, List.take_succ_eq_append_getElem hi, List.drop_append_of_le_length (by rw [List.length_take]; omega), List.take_append_of_le_length (by rw [List.length_drop, List.length_take]; omega)]
    exact h2
  · rw [show min M (i + 1 - d) = min M (i - d) by omega, List.drop_eq_nil_of_le (by rw [List.length_take]; omega)]
    rw [List.drop_eq_nil_of_le (by rw [List.length_take]; omega)] at h2
    exact h2
theorem FroS.len {w W : World} {gs : Array Value} {lm : List Pf} {d M i L : Nat} {A : Option Addr} {c : Nat} (h : FroS w gs lm d M i (.slice A L c) W) : L = min M (i - d) := by
  obtain ⟨A', c', e, -, -⟩ := own_sliceK h.2.2
  injection e

set_option maxRecDepth 20000 in
set_option maxHeartbeats 3200000 in
theorem refFrom_any (A : Option Addr) (n c width last fr : Nat) (most : Int) (lm : List Pf) (w : World) (hl : lm.length = n) (hA : Lies w w.heap.size A (flat encPf lm)) (hn : n ≤ last) (hn1 : n ≤ 100) (hs : ∀ i (h : i < lm.length), lm[i].F.seq = firstN last n + i) :
    Calls Try.prog 22 #[.agg #[.int .i64 (width : Int), .slice A n c, .int .u64 (last : Int)], .int .u64 (fr : Int), .int .i64 most] w fun e w' =>
      ∃ A' n' c', e = .returned (.slice A' n' c') ∧ Hid (((lm.drop (fr - firstN last n)).take most.toNat).length = n') ∧ w'.ownsRow w.heap.size 40 16 (.slice A' n' c') n' (flat encPf ((lm.drop (fr - firstN last n)).take most.toNat)) ∧ RowKit.Below w.heap.size w w' := by
  have HF1 : Hid (1 ≤ firstN last n) := by show _ ≤ _; unfold firstN; omega
  have HL := Lib.hid hl
  have HA := Lib.hid hA
  have HSQ := Lib.hid hs
  clear hl hA hs hn
  generalize hD : fr - firstN last n = d
  have HD := Lib.hid hD
  have HMM : Hid (∀ L : Nat, ((L : Int) < most) ↔ L < most.toNat) := fun L => by omega
  generalize most.toNat = M at HMM ⊢
  clear hD
  have hO9 : ((w.alloc (.cells #[.int .i64 (width : Int), .slice A n c, .int .u64 (last : Int)] 29)).alloc (.cells #[] 40)).ownsRow (w.heap.size + 1) 40 16 (.slice (some ⟨w.heap.size + 1, 0, none⟩) 0 0) 0 [] := by
    have := World.ownsRow_lit (base := w.heap.size + 1) (size := 16) (e := 40) (w.alloc (.cells #[.int .i64 (width : Int), .slice A n c, .int .u64 (last : Int)] 29)) #[] 0 (by simp) (Nat.zero_le _) rfl
    rw [show (w.alloc (.cells #[.int .i64 (width : Int), .slice A n c, .int .u64 (last : Int)] 29)).heap.size = w.heap.size + 1 by simp] at this
    exact this
  have HS0 : Hid (FroS w (rCells width (.slice A n c) last) lm d M 0 (.slice (some ⟨w.heap.size + 1, 0, none⟩) 0 0) _) :=
    ⟨((RowKit.Below.refl _ _).alloc (Nat.le_refl _) _).alloc (by simp) _, (heap_alloc_old _ _ (by simp)).trans (heap_alloc_new _ _), by rw [List.take_zero, List.drop_nil, List.take_nil, Nat.zero_sub, Nat.min_zero]; exact hO9⟩
  clear hO9
  go_enter Try.func22, Try.ntmps22
  go_wp2_with fail
  go_loopw [7, 8, 13] (fun v _ s13 wr => ∃ (i : Nat) (Ai : Option Addr) (L ci : Nat), i ≤ n ∧ s13 = .int .i64 i ∧ v = .slice Ai L ci ∧ FroS w (rCells width (.slice A n c) last) lm d M i (.slice Ai L ci) wr) (fun _ _ s13 _ => n - (intOf s13).toNat)
  case atStart => exact ⟨0, _, 0, 0, Nat.zero_le _, rfl, rfl, HS0.out⟩
  case round =>
    clear HS0
    obtain ⟨i, Ai, L, ci, hi, rfl, rfl, hS⟩ := hrel
    have z1 : wr.cell? ⟨w.heap.size, 1, none⟩ = some (.slice A n c) := cell_of_row _ _ 1 _ _ _ hS.2.1
    have HS := Lib.hid hS
    by_cases hlt : i < n
    · have hil : i < lm.length := by rw [HL.out]; exact hlt
      obtain ⟨b, off, rfl, hbw, hc⟩ := row_at ((HA.out.below hS.1).more hS.1.size) hil
      have hsq := range_seq hc
      rw [HSQ.out i hil] at hsq
      have hkd := HD.out
      have hf1 := HF1.out
      have hLn := hS.len
      by_cases hdi : d ≤ i
      · have hge : decide (fr ≤ firstN last n + i) = true := by simp; omega
        have hge1 : fr ≤ firstN last n + i := by omega
        by_cases hM : i - d < M
        · have hLL : L = i - d := by omega
          have hlm : decide ((L : Int) < most) = true := decide_eq_true ((HMM.out L).2 (by omega))
          have hlm1 : (L : Int) < most := (HMM.out L).2 (by omega)
          obtain ⟨A2, c2, w2, hrun, hS2⟩ := HS.out.step hLL hil hdi hM (by rw [HL.out]; omega)
          have HRUN := Lib.hid hrun
          have HS2 := Lib.hid hS2
          have hL1 : L ≤ 100 := by omega
          generalize lm[i] = x at hc HRUN
          generalize firstN last n + i = sq at hsq hge hge1
          clear hrun hS2 hS hil hkd HS hf1 hLn hLL
          go_wp2_with (first | (refine load_elem (.tmp 34) rfl hc ?_) | (refine wpList_build1 rfl (x := .tmp 35) (y := x) rfl rfl ?_) | (at_builtin; refine wpList_append_run rfl (.tmp 30) (.tmp 36) 27 rfl rfl rfl HRUN.out ?_) | fail)
          go_roundw
          case rel => exact ⟨i + 1, A2, L + 1, c2, by omega, by go_num, rfl, HS2.out⟩
          case measure => simp [intOf]; omega
        · have hlm : decide ((L : Int) < most) = false := decide_eq_false fun h => by have := (HMM.out L).1 h; omega
          have hlm1 : ¬ (L : Int) < most := fun h => by have := (HMM.out L).1 h; omega
          have HE := Lib.hid (HS.out.skip hil (by omega))
          generalize firstN last n + i = sq at hsq hge hge1
          clear hS hil hkd HS hc hf1 hLn
          go_wp2
          go_roundw
          case rel => exact ⟨i + 1, Ai, L, ci, by omega, by go_num, rfl, HE.out⟩
          case measure => simp [intOf]; omega
      · have hge : decide (fr ≤ firstN last n + i) = false := by simp; omega
        have hge1 : ¬ fr ≤ firstN last n + i := by omega
        have HE := Lib.hid (HS.out.skip hil (by omega))
        generalize firstN last n + i = sq at hsq hge hge1
        clear hS hil hkd HS hc hf1 hLn
        go_wp2
        go_roundw
        case rel => exact ⟨i + 1, Ai, L, ci, by omega, by go_num, rfl, HE.out⟩
        case measure => simp [intOf]; omega
    · obtain rfl : i = n := by omega
      have htk : lm.take i = lm := List.take_of_length_le (by rw [HL.out]; exact Nat.le_refl _)
      have hO := hS.2.2
      rw [htk] at hO
      have hLn := hS.len
      have HLL : Hid (((lm.drop d).take M).length = L) := by show _ = _; rw [List.length_take, List.length_drop, HL.out, hLn]
      rw [← hLn] at hO
      have HO := Lib.hid hO
      have HB := Lib.hid hS.1
      clear hS hO htk HS hLn
      go_wp2
      go_ret
      exact ⟨_, _, _, rfl, HLL.out, own_base HO.out (by omega), HB.out⟩

end Go.Proofs.Ytohlgjkblcopoaa
