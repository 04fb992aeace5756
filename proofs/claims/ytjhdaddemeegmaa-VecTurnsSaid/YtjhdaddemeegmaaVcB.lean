/- The walks of fold, Min and Max: new vectors, in memory of the call's own. -/
import Derived.Test.YtjhdaddemeegmaaVcA
namespace Go.Proofs.Ytjhdaddemeegmaa
open Go.RowKit

/-- What comes of the numbers of one process, two at a time. -/
def foldN (op : Nat → Nat → Nat) (ls : List (List Nat)) (i : Nat) : Nat := (ls.drop 1).foldl (fun n a => op n (num a i)) (num (ls.headD []) i)
def firstN (op : Nat → Nat → Nat) (ls : List (List Nat)) (i k : Nat) : Nat := ((ls.drop 1).take k).foldl (fun n a => op n (num a i)) (num (ls.headD []) i)
def frontV (op : Nat → Nat → Nat) (ls : List (List Nat)) (m : Nat) : List Nat := (List.range m).map (foldN op ls)
def foldV (op : Nat → Nat → Nat) (ls : List (List Nat)) : List Nat := frontV op ls (longN ls)

theorem firstN_next (op : Nat → Nat → Nat) (ls : List (List Nat)) (i k : Nat) (h : k < (ls.drop 1).length) : firstN op ls i (k + 1) = op (firstN op ls i k) (num (ls.drop 1)[k] i) := by
  unfold firstN
  rw [List.take_succ_eq_append_getElem h, List.foldl_append]
  rfl
theorem firstN_all (op : Nat → Nat → Nat) (ls : List (List Nat)) (i k : Nat) (h : (ls.drop 1).length ≤ k) : firstN op ls i k = foldN op ls i := by
  unfold firstN foldN
  rw [List.take_of_length_le h]
theorem frontV_next (op : Nat → Nat → Nat) (ls : List (List Nat)) (m : Nat) : frontV op ls (m + 1) = frontV op ls m ++ [foldN op ls m] := by
  unfold frontV
  rw [List.range_succ, List.map_append]
  rfl
theorem frontV_length (op : Nat → Nat → Nat) (ls : List (List Nat)) (m : Nat) : (frontV op ls m).length = m := by simp [frontV]
theorem foldV_length (op : Nat → Nat → Nat) (ls : List (List Nat)) : (foldV op ls).length = longN ls := frontV_length op ls _

set_option maxHeartbeats 1600000 in
theorem fold_any (op : Nat → Nat → Nat) (g : Nat) (eg : ∀ args w, (callFunc g args).run Try.prog w = .ok (.enter g args) w)
    (hg : ∀ (x y : Nat) (W : World), Calls Try.prog g #[.int .u64 (x : Int), .int .u64 (y : Int)] W fun e w' => e = .returned (.int .u64 (op x y : Nat)) ∧ W = w')
    (A : Option Addr) (n c : Nat) (vs : List Value) (ls : List (List Nat)) (w : World) (hn : n ≤ 1000) (hnc : n ≤ c) (hcm : c ≤ maxLen) (hlong : longN ls ≤ 1000) (hl : vs.length = n) (h : Lies w w.heap.size A vs) (hr : VecRows w w.heap.size vs ls) :
    Calls Try.prog 26 #[.slice A n c, .func (.func g) #[] #[]] w (OwnedV w w.heap.size (foldV op ls)) := by
  obtain ⟨i0, hi, hz0, hz1, hz2⟩ := info_parts Try.infoU
  have HL := Lib.hid hl
  have HR := Lib.hid hr
  have HG := Lib.hid hg
  have hlg := longest_any A n c w.heap.size vs ls w hn hl h hr
  unfold foldV
  generalize hN : longN ls = N at hlong hlg
  have HN := Lib.hid hN
  clear hl hr hg hN
  unfold maxLen at hcm
  go_enter Try.func26, Try.ntmps26
  go_wp2_with fail
  refine hlg.mono ?_
  rintro e w1 ⟨rfl, rfl⟩
  clear hlg
  go_wp2
  go_loopw [5, 6, 7, 9, 12] (fun v _ _ _ i wr => ∃ (k : Nat), k ≤ N ∧ i = .int .i64 k ∧ Mk w (frontV op ls k) v wr) (fun _ _ _ _ i _ => N - (intOf i).toNat)
  case atStart => exact ⟨0, Nat.zero_le _, rfl, Mk.of (n := 0) (World.ownsRow_nil _ _ _ _) (Below.refl _ _)⟩
  case round =>
    obtain ⟨k, hk, rfl, hM⟩ := hrel
    obtain ⟨wo, rfl⟩ : ∃ wo : World, wo = wr := ⟨_, rfl⟩
    by_cases hlt : k < N
    · have hp : 0 < ls.length := by
        rcases ls with _ | ⟨x, t⟩
        · have := HN.out; simp [longN] at this; omega
        · simp
      have hp1 : 0 < vs.length := by rw [HR.out.1]; exact hp
      have hpn : 0 < n := by rw [← HL.out]; exact hp1
      have hb := hM.below
      obtain ⟨A0, n0, c0, hv0, hl0, _, _, hL0⟩ := (HR.out.2 0 hp1 hp).below hb
      obtain ⟨b, off, rfl, hbb, hc⟩ := (h.below hb).at_ (List.getElem?_eq_getElem hp1)
      rw [hv0, Nat.add_zero] at hc
      have hd := lies_drop (h.below hb) 1
      have HD := Lib.hid ((HR.out.below hb).drop 1)
      have HDL : Hid ((vs.drop 1).length = n - 1) := by show _ = _; rw [List.length_drop, HL.out]
      have hat := at_nat A0 n0 c0 k w.heap.size ls[0] wo hl0 hL0
      have HF : Hid (num ls[0] k = firstN op ls k 0) := by
        rcases ls with _ | ⟨x, t⟩
        · simp at hp
        · rfl
      have HF2 := Lib.hid (firstN_next op ls k)
      have HF3 := Lib.hid (firstN_all op ls k)
      rw [HF.out] at hat
      obtain ⟨L, hoL, hbL, hLL⟩ := id hM
      have hLx : L ≤ 1000 := by have := hLL.out; rw [frontV_length] at this; omega
      have hLk : L = k := by have := hLL.out; rw [frontV_length] at this; omega
      clear hv0 hl0 hL0 hM
      have hn1 : n - 1 ≤ 1000 := by omega
      go_wp2_with fail
      refine hat.mono ?_
      rintro e w1 ⟨rfl, rfl⟩
      clear hat HF
      go_wp2
      case' inl =>
        subst h
        replace hd : Lies wo w.heap.size (some ⟨b, off, none⟩) (vs.drop 1) := by
          rw [List.drop_of_length_le (by rw [HL.out]; omega)]
          exact Lies.nil
      all_goals
        go_loop [7, 9, 23] (fun s7 _ s23 => ∃ (j : Nat), j ≤ n - 1 ∧ s23 = .int .i64 j ∧ s7 = .int .u64 (firstN op ls k j : Int)) (fun _ _ s23 => n - 1 - (intOf s23).toNat)
        case atStart => exact ⟨0, Nat.zero_le _, rfl, rfl⟩
        case round =>
          obtain ⟨j, hj, rfl, rfl⟩ := hrel
          by_cases hjl : j < n - 1
          · first
            | (exfalso; omega)
            | (have hj1 : j < (vs.drop 1).length := by rw [HDL.out]; exact hjl
               have hj2 : j < (ls.drop 1).length := by rw [← HD.out.1]; exact hj1
               obtain ⟨Ar, nr, cr, hvr, hlr, _, _, hLr⟩ := HD.out.2 j hj1 hj2
               obtain ⟨b', off', he, _, hcj⟩ := hd.at_ (List.getElem?_eq_getElem hj1)
               injection he with he
               injection he with e1 e2
               subst e1 e2
               rw [hvr] at hcj
               have hat := at_nat Ar nr cr k w.heap.size (ls.drop 1)[j] wo hlr hLr
               have hstep := Lib.hid (HF2.out j hj2)
               generalize num (ls.drop 1)[j] k = y at hat hstep
               generalize firstN op ls k j = x at hstep ⊢
               have hcall := HG.out x y wo
               rw [← hstep.out] at hcall
               clear hvr hlr hLr hstep
               go_wp2_with fail
               refine hat.mono ?_
               rintro e w1 ⟨rfl, rfl⟩
               go_wp2_with fail
               go_at_fn g
               refine hcall.mono ?_
               rintro e w1 ⟨rfl, rfl⟩
               go_wp2
               go_round
               case rel => exact ⟨j + 1, by omega, by go_num, rfl⟩
               case measure => simp [intOf]; omega)
          · rw [HF3.out j (by rw [← HD.out.1, HDL.out]; omega)]
            have hnx := Lib.hid (frontV_next op ls k)
            generalize foldN op ls k = x at hnx ⊢
            have hsz : w.heap.size ≤ wo.heap.size := hb.size
            clear hd HD HDL HF2 HF3 hc
            go_wp2_with (at_builtin; refine wpList_push rfl (.tmp 34) (.tmp 36) rfl w.heap.size L (frontV op ls k) x _ rfl rfl hoL hLx hsz ?_)
            intro v7 w7 hown7 hb7
            have hM7 : Mk w (frontV op ls (k + 1)) v7 w7 := by
              rw [hnx.out]
              exact Mk.of hown7 (hbL.trans hb7)
            clear hown7 hb7
            go_wp2
            go_roundw
            case rel => exact ⟨k + 1, by omega, by go_num, hM7⟩
            case measure => simp [intOf]; omega
    · have hkN : k = N := by omega
      subst hkN
      have HM := Lib.hid hM
      clear hM
      go_wp2
      go_ret
      exact HM.out.owned

theorem min_any (A : Option Addr) (n c : Nat) (vs : List Value) (ls : List (List Nat)) (w : World) (hn : n ≤ 1000) (hnc : n ≤ c) (hcm : c ≤ maxLen) (hlong : longN ls ≤ 1000) (hl : vs.length = n) (h : Lies w w.heap.size A vs) (hr : VecRows w w.heap.size vs ls) :
    Calls Try.prog 20 #[.slice A n c] w (OwnedV w w.heap.size (foldV min ls)) := by
  have hf := fold_any min 27 (enters_of Try.func27 (by kernel_rfl) rfl) minF_any A n c vs ls w hn hnc hcm hlong hl h hr
  clear hl h hr hcm
  go_enter Try.func20, Try.ntmps20
  go_wp2_with fail
  refine hf.mono ?_
  intro e w1 ho
  obtain ⟨A1, n1, c1, rfl, hn1, h1, h2, ho, hb⟩ := ho
  have HO := Lib.hid ho
  clear ho hf
  go_wp2
  go_ret
  exact ⟨A1, n1, c1, rfl, hn1, h1, h2, HO.out, hb⟩

theorem max_any (A : Option Addr) (n c : Nat) (vs : List Value) (ls : List (List Nat)) (w : World) (hn : n ≤ 1000) (hnc : n ≤ c) (hcm : c ≤ maxLen) (hlong : longN ls ≤ 1000) (hl : vs.length = n) (h : Lies w w.heap.size A vs) (hr : VecRows w w.heap.size vs ls) :
    Calls Try.prog 22 #[.slice A n c] w (OwnedV w w.heap.size (foldV max ls)) := by
  have hf := fold_any max 28 (enters_of Try.func28 (by kernel_rfl) rfl) maxF_any A n c vs ls w hn hnc hcm hlong hl h hr
  clear hl h hr hcm
  go_enter Try.func22, Try.ntmps22
  go_wp2_with fail
  refine hf.mono ?_
  intro e w1 ho
  obtain ⟨A1, n1, c1, rfl, hn1, h1, h2, ho, hb⟩ := ho
  have HO := Lib.hid ho
  clear ho hf
  go_wp2
  go_ret
  exact ⟨A1, n1, c1, rfl, hn1, h1, h2, HO.out, hb⟩

end Go.Proofs.Ytjhdaddemeegmaa
