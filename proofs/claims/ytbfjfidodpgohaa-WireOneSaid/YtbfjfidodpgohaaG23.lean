/- The document's example (layer 6). -/
import Derived.Test.YtbfjfidodpgohaaG22

namespace Go.Proofs.Ytbfjfidodpgohaa
open Go.RowKit Go.Sort

theorem fits_mark (l : List UInt8) : fitsOf (markOf l) = (l, 0) := by
  have h4 := four_length (sumOf l)
  have hl : (markOf l).length = l.length + 4 := by unfold markOf; rw [List.length_append, h4]
  have ht : (markOf l).take ((markOf l).length - 4) = l := by
    rw [hl, Nat.add_sub_cancel]
    unfold markOf
    exact List.take_left' rfl
  unfold fitsOf
  rw [if_neg (by omega), ht, if_pos rfl]

/-- The example: a beat from 0 to 1. -/
def exFr : Fr := bareFr (5, 0, 1)
theorem enc0 : enc 0 = [0] := by simp [enc, digs_zero]
theorem enc9 : enc 9 = [1, 9] := by
  have h : digs 9 = [9] := by rw [digs_pos (by decide)]; simp [digs_zero]
  simp [enc, h]
theorem ex_out : outOf exFr = [0] := by
  rw [outOf5 exFr rfl]
  show encs [0] = [0]
  simp [encs, enc0]
def exAhead : List UInt8 := [1, 9, 1, 5, 0, 1, 0]
theorem ex_ahead : aheadOf exFr = exAhead := by
  unfold aheadOf
  rw [ex_out]
  show enc 9 ++ _ = _
  rw [enc9]
  rfl
theorem ex_may : mayF exFr = true := by
  have e : ckAll exFr = vSeq ckV (exFr, false) := vAll5 ckV (exFr, false) rfl
  unfold mayF
  rw [e]
  have e2 : vSeq ckV (exFr, false) = (exFr, false) := by
    unfold vSeq ckV exFr bareFr
    simp [Fr.zero]
  rw [e2]
  simp [exFr, bareFr, Fr.zero, isKind, bareB, headB, placeB, kindB]

theorem ex_get : getOf (putOf exFr) = (exFr, 0) := by
  have h1 : fitsOf (putOf exFr) = (exAhead, 0) := by unfold putOf; rw [ex_ahead]; exact fits_mark _
  have h2 : rnum exAhead 0 top = (9, [1, 5, 0, 1, 0], 0) := by
    have : exAhead = enc 9 ++ [1, 5, 0, 1, 0] := by rw [enc9]; rfl
    rw [this]
    exact rnum_put 9 top _ (by decide) (by decide)
  have h3 : headRd exAhead = ((5, 0, 1), [0], 0) := by
    unfold headRd
    rw [h2]
    rfl
  have h4 : rN top ([0], 0) = (0, [], 0) := by
    unfold rN
    have : ([0] : List UInt8) = enc 0 ++ [] := by rw [enc0]; rfl
    show ((rnum [0] 0 top).1, (rnum [0] 0 top).2.1, (rnum [0] 0 top).2.2) = _
    rw [this, rnum_put 0 top [] (by decide) (by decide)]
  have h5 : fieldsOf (5, 0, 1) [0] = (exFr, ([], 0)) := by
    unfold fieldsOf
    rw [vAll5 rdV _ rfl, qSeq, h4]
    rfl
  unfold getOf
  rw [h1]
  dsimp only
  rw [if_neg (by simp), h3]
  dsimp only
  rw [if_neg (by simp)]
  unfold bodyOf
  rw [if_neg (by decide), h5]
  dsimp only
  rw [if_neg (by decide), if_neg (by rw [ex_may]; decide)]

theorem ex_ok : exFr.Ok := bare_ok (by decide) (by decide) (by decide)

set_option maxRecDepth 100000 in
set_option maxHeartbeats 1600000 in
theorem awake_any (w : World) : Calls Try.prog 7 #[] w fun e w' => e = .returned (.bool true) ∧ RowKit.Below w.heap.size w w' := by
  have HP : Hid (Calls Try.prog 13 #[.agg #[.int .u8 5, .int .u8 0, .int .u8 1, .int .u8 0, .int .u64 0, .int .u64 0, .int .u32 0, .int .u32 0, .int .u32 0, .int .u64 0, .int .u64 0, .slice none 0 0, .slice none 0 0, .slice none 0 0, .slice none 0 0, .slice none 0 0]] w (PutYes w exFr)) := wirePut_yes exFr _ w ex_ok (bare_frv w (fun _ => False) (5, 0, 1)) ex_may
  go_enter Try.func7, Try.ntmps7
  go_wp2_with fail
  refine HP.out.mono ?_
  rintro e w1 ⟨A1, n1, c1, rfl, hn1, hc1, hcm1, ho1, hb1⟩
  have hlen : (putOf exFr).length = 11 := by unfold putOf markOf; rw [ex_ahead, List.length_append, four_length]; rfl
  have hn11 : n1 = 11 := hn1.out.symm.trans hlen
  subst hn11
  have HL := Lib.hid (Lies.of_own ho1)
  have HB1 := Lib.hid hb1
  have HG : Hid (Calls Try.prog 8 #[.slice A1 11 c1] w1 (GetGot w1 (exFr, 0))) := by
    have := wireGet_any A1 11 c1 (putOf exFr) w1 hlen (by omega) hc1 hcm1 HL.out
    rw [ex_get] at this
    exact this
  clear ho1 hb1 hn1
  go_wp2_with fail
  refine HG.out.mono ?_
  rintro e w2 ⟨cs, rfl, hfv, -, hb2⟩
  have HS := Lib.hid hfv.size
  have H1 := Lib.hid hfv.one
  obtain ⟨k0, -, k2⟩ := hfv.head
  have e0 : cs[0]? = some (.int .u8 5) := k0
  have e2 : cs[2]? = some (.int .u8 1) := k2
  have HB2 : Hid (RowKit.Below w.heap.size w w2) := HB1.out.trans (hb2.mono HB1.out.size)
  have hB3 : RowKit.Below w2.heap.size w2 (w2.alloc (.cells cs 33)) := (RowKit.Below.refl _ _).alloc (Nat.le_refl _) _
  have HB3 := Lib.hid (HB2.out.trans (hB3.mono HB2.out.size))
  have hs := strs_of (n := 7) rfl (show Lies (w2.alloc (.cells cs 33)) _ A1 (bvs exAhead) from by
    have h7 : bvs exAhead = (bvs (putOf exFr)).take 7 := by
      unfold putOf markOf
      rw [ex_ahead, bvs_append, List.take_left' (by rfl)]
    rw [h7]
    exact lies_take ((HL.out.later hb2).later hB3) 7)
  unfold Strs str exAhead at hs
  clear k0 k2 hfv hb2 hB3 HG
  go_wp2_with (first | (refine store_frame_new (.tmp 3) (.tmp 14) rfl rfl rfl rfl HS.out H1.out ?_) | fail)
  go_ret
  exact ⟨rfl, HB3.out⟩

end Go.Proofs.Ytbfjfidodpgohaa
