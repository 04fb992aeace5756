/- The document's example (layer 6). -/
import Derived.Test.YtbfjfidodpgohaaT22
import Derived.Deep.Strs
import Derived.Lib.SmallJoins
import Derived.Test.YtbfjfidodpgohaaT19
import Derived.RegionTactic

namespace Go.Proofs.Ytbfjfidodpgohaa
open Go.RowKit Go.Sort

theorem fits_mark (l : List UInt8) : fitsOf (markOf l) = (l, 0) := by
  have h4 := four_length (sumOf l)
  have hl : (markOf l).length = l.length + 4 := by unfold markOf; rw [List.length_append, h4]
  have ht : (markOf l).take ((markOf l).length - 4) = l := by
    rw [hl, Nat.add_sub_cancel]
    unfold markOf
    exact List.take_left' rfl
  unfold fitsOf
  rw [if_neg (by omega), ht, if_pos rfl]

/-- The example: a beat from 0 to 1. -/
def exFr : Fr := bareFr (5, 0, 1)
theorem enc0 : enc 0 = [0] := by simp [enc, digs_zero]
theorem enc9 : enc 9 = [1, 9] := by
  have h : digs 9 = [9] := by rw [digs_pos (by decide)]; simp [digs_zero]
  simp [enc, h]
theorem ex_out : outOf exFr = [0] := by
  rw [outOf5 exFr rfl]
  show encs [0] = [0]
  simp [encs, enc0]
def exAhead : List UInt8 := [1, 9, 1, 5, 0, 1, 0]
theorem ex_ahead : aheadOf exFr = exAhead := by
  unfold aheadOf
  rw [ex_out]
  show enc 9 ++ _ = _
  rw [enc9]
  rfl
theorem ex_may : mayF exFr = true := by
  have e : ckAll exFr = vSeq ckV (exFr, false) := vAll5 ckV (exFr, false) rfl
  unfold mayF
  rw [e]
  have e2 : vSeq ckV (exFr, false) = (exFr, false) := by
    unfold vSeq ckV exFr bareFr
    simp [Fr.zero]
  rw [e2]
  simp [exFr, bareFr, Fr.zero, isKind, bareB, headB, placeB, kindB]

theorem ex_get : getOf (putOf exFr) = (exFr, 0) := by
  have h1 : fitsOf (putOf exFr) = (exAhead, 0) := by unfold putOf; rw [ex_ahead]; exact fits_mark _
  have h2 : rnum exAhead 0 top = (9, [1, 5, 0, 1, 0], 0) := by
    have : exAhead = enc 9 ++ [1, 5, 0, 1, 0] := by rw [enc9]; rfl
    rw [this]
    exact rnum_put 9 top _ (by decide) (by decide)
  have h3 : headRd exAhead = ((5, 0, 1), [0], 0) := by
    unfold headRd
    rw [h2]
    rfl
  have h4 : rN top ([0], 0) = (0, [], 0) := by
    unfold rN
    have : ([0] : List UInt8) = enc 0 ++ [] := by rw [enc0]; rfl
    show ((rnum [0] 0 top).1, (rnum [0] 0 top).2.1, (rnum [0] 0 top).2.2) = _
    rw [this, rnum_put 0 top [] (by decide) (by decide)]
  have h5 : fieldsOf (5, 0, 1) [0] = (exFr, ([], 0)) := by
    unfold fieldsOf
    rw [vAll5 rdV _ rfl, qSeq, h4]
    rfl
  unfold getOf
  rw [h1]
  dsimp only
  rw [if_neg (by simp), h3]
  dsimp only
  rw [if_neg (by simp)]
  unfold bodyOf
  rw [if_neg (by decide), h5]
  dsimp only
  rw [if_neg (by decide), if_neg (by rw [ex_may]; decide)]

theorem ex_ok : exFr.Ok := bare_ok (by decide) (by decide) (by decide)

set_option maxRecDepth 100000 in
set_option maxHeartbeats 1600000 in
theorem awake_any (w : World) : Calls Try.prog 7 #[] w fun e w' => e = .returned (.bool true) ∧ RowKit.Below w.heap.size w w' := by
  have HP : Hid (Calls Try.prog 13 #[.agg #[.int .u8 5, .int .u8 0, .int .u8 1, .int .u8 0, .int .u64 0, .int .u64 0, .int .u32 0, .int .u32 0, .int .u32 0, .int .u64 0, .int .u64 0, .slice none 0 0, .slice none 0 0, .slice none 0 0, .slice none 0 0, .slice none 0 0]] w (PutYes w exFr)) := wirePut_yes exFr _ w ex_ok (bare_frv w (fun _ => False) (5, 0, 1)) ex_may
  go_enter Try.func7, Try.ntmps7
  go_wp2_with fail
  refine HP.out.mono ?_
  rintro e w1 ⟨A1, n1, c1, rfl, hn1, hc1, hcm1, ho1, hb1⟩
  have hlen : (putOf exFr).length = 11 := by unfold putOf markOf; rw [ex_ahead, List.length_append, four_length]; rfl
  have hn11 : n1 = 11 := hn1.out.symm.trans hlen
  subst hn11
  have HL := Lib.hid (Lies.of_own ho1)
  have HB1 := Lib.hid hb1
  have HG : Hid (Calls Try.prog 8 #[.slice A1 11 c1] w1 (GetGot w1 (exFr, 0))) := by
    have := wireGet_any A1 11 c1 (putOf exFr) w1 hlen (by omega) hc1 hcm1 HL.out
    rw [ex_get] at this
    exact this
  clear ho1 hb1 hn1
  go_wp2_with fail
  refine HG.out.mono ?_
  rintro e w2 ⟨cs, rfl, hfv, -, hb2⟩
  have HS := Lib.hid hfv.size
  have H1 := Lib.hid hfv.one
  obtain ⟨k0, -, k2⟩ := hfv.head
  have e0 : cs[0]? = some (.int .u8 5) := k0
  have e2 : cs[2]? = some (.int .u8 1) := k2
  have HB2 : Hid (RowKit.Below w.heap.size w w2) := HB1.out.trans (hb2.mono HB1.out.size)
  have hB3 : RowKit.Below w2.heap.size w2 (w2.alloc (.cells cs 33)) := (RowKit.Below.refl _ _).alloc (Nat.le_refl _) _
  have HB3 := Lib.hid (HB2.out.trans (hB3.mono HB2.out.size))
  have hs := strs_of (n := 7) rfl (show Lies (w2.alloc (.cells cs 33)) _ A1 (bvs exAhead) from by
    have h7 : bvs exAhead = (bvs (putOf exFr)).take 7 := by
      unfold putOf markOf
      rw [ex_ahead, bvs_append, List.take_left' (by rfl)]
    rw [h7]
    exact lies_take ((HL.out.later hb2).later hB3) 7)
  unfold Strs str exAhead at hs
  clear k0 k2 hfv hb2 hB3 HG
  go_wp2_with (first | (refine store_frame_new (.tmp 3) (.tmp 14) rfl rfl rfl rfl HS.out H1.out ?_) | fail)
  go_ret
  exact ⟨rfl, HB3.out⟩

end Go.Proofs.Ytbfjfidodpgohaa

/- A frame that is handed in: opened. -/
namespace Go.Proofs.Ytbfjfidodpgohaa
open Go.ChangeShapes Go.WideShapes Go.ChangeAt Go.RowKit

section
variable {H : Type} {enc : TypeId × Value → H} {w : World} {base : Nat} {spare : Nat → Bool} {held : Bool}

theorem flat_range {α : Type} [Inhabited α] {en : α → List Value} {k : Nat} (hk : ∀ x, (en x).length = k) (hk0 : 0 < k) {Y : Nat → α} {n t : Nat} {u : Value} (h : (flat en ((List.range n).map Y))[t]? = some u) : t / k < n ∧ (en (Y (t / k)))[t % k]? = some u := by
  have hlt := (List.getElem?_eq_some_iff.1 h).1
  rw [flat_length hk] at hlt
  simp only [List.length_map, List.length_range] at hlt
  have hi : t / k < n := Nat.div_lt_of_lt_mul (by rwa [Nat.mul_comm] at hlt)
  refine ⟨hi, ?_⟩
  have := flat_at hk ((List.range n).map Y) (t / k) (t % k) (Nat.mod_lt _ hk0) (by simpa using hi)
  rw [show t / k * k + t % k = t by rw [Nat.mul_comm]; exact Nat.div_add_mod t k, h] at this
  simpa using this.symm

set_option maxRecDepth 100000 in
theorem open_rns {fuel : Nat} {v : Value} {x : DataW H × List MemPlace} (h : DataW.trod enc Try.prog w base spare held fuel 30 [v] = some x) :
    ∃ A n c, ∃ l : List Rn, v = .slice A n c ∧ l.length = n ∧ n ≤ c ∧ c ≤ maxLen ∧ Lies w w.heap.size A (flat encRn l) := by
  rcases Deep.open_slice Try.underlying30 h with ⟨hcs, _⟩ | ⟨a, len, cap, m, n, D, Pl, hcs, _, hl, hm, hmm, _, hx⟩
  · injection hcs with hcs
    subst hcs
    exact ⟨none, 0, 0, [], rfl, rfl, Nat.le_refl _, Nat.zero_le _, Lies.nil⟩
  · injection hcs with hcs
    subst hcs
    have hlm : len ≤ m := by rw [hmm]; split <;> omega
    have hc2 : Try.prog.cellsOf 102 = 3 := by kernel_rfl
    have hcb : Try.prog.cellsOf 5 = 1 := by kernel_rfl
    have hcu : Try.prog.cellsOf 26 = 1 := by kernel_rfl
    have key : ∀ i, i < len → ∃ y : Rn, w.cell? (a.add (i * 3)) = some (.int .u8 (y.f : Int)) ∧ w.cell? ((a.add (i * 3)).add 1) = some (.int .u64 (y.a : Int)) ∧ w.cell? ((a.add (i * 3)).add 2) = some (.int .u64 (y.c : Int)) := by
      intro i hi
      obtain ⟨cs', h1, h2⟩ := hx i (by omega)
      rw [hc2] at h1
      obtain ⟨_, hlen, hcell⟩ := World.cells?_some h1
      obtain ⟨y0, y1, y2, n', _, _, t0, t1, t2⟩ := Deep.trod_struct3 Try.underlying102 h2
      match cs', hlen with
      | [c0, c1, c2], _ =>
        simp only [hcb, hcu] at t0 t1 t2
        obtain ⟨r0, e0, _, w0⟩ := DataW.trod_int Try.underlying5 t0
        obtain ⟨r1, e1, _, w1⟩ := DataW.trod_int Try.underlying26 t1
        obtain ⟨r2, e2, _, w2⟩ := DataW.trod_int Try.underlying26 t2
        simp at e0 e1 e2
        subst e0 e1 e2
        have b0 := bounds_u8 w0
        have b1 := bounds_u64 w1
        have b2 := bounds_u64 w2
        refine ⟨⟨r0.toNat, r1.toNat, r2.toNat, by omega, by omega, by omega⟩, ?_, ?_, ?_⟩
        · have := hcell 0 (by omega)
          rw [Int.toNat_of_nonneg b0.1]
          simpa [Addr.add] using this
        · have := hcell 1 (by omega)
          rw [Int.toNat_of_nonneg b1.1]
          simpa using this
        · have := hcell 2 (by omega)
          rw [Int.toNat_of_nonneg b2.1]
          simpa using this
    obtain ⟨Y, hY⟩ := Deep.choose_lt (α := Rn) (n := len) key
    refine ⟨some a, len, cap, (List.range len).map Y, rfl, by simp, hl, hm, fun hn => ?_⟩
    have hp : 0 < len := by
      rcases Nat.eq_zero_or_pos len with h0 | h0
      · subst h0; simp [flat] at hn
      · exact h0
    have h0 := (hY 0 hp).1
    obtain ⟨b, off, spot⟩ := a
    have hspot : spot = none := by simpa [Addr.add] using World.cell?_spot h0
    subst hspot
    refine ⟨b, off, rfl, ?_, fun t u hu => ?_⟩
    · have := World.block_lt_of_cell? w _ h0
      rwa [Go.Proofs.Ytbfjfidodpgohaa.add_plain] at this
    · obtain ⟨hi, hu'⟩ := flat_range encRn_len (by decide) hu
      obtain ⟨k0, k1, k2⟩ := hY _ hi
      simp only [Go.Proofs.Ytbfjfidodpgohaa.add_plain] at k0 k1 k2
      have ht : t / 3 * 3 + t % 3 = t := by omega
      have h2 : t % 3 < 3 := Nat.mod_lt _ (by decide)
      generalize t / 3 = i at *
      generalize t % 3 = j at *
      match j, h2 with
      | 0, _ => simp [encRn] at hu'; rw [← ht, ← hu', Nat.add_zero]; exact k0
      | 1, _ => simp [encRn] at hu'; rw [← ht, ← hu', ← Nat.add_assoc]; exact k1
      | 2, _ => simp [encRn] at hu'; rw [← ht, ← hu', ← Nat.add_assoc]; exact k2

theorem one_u8 {n : Nat} {v : Value} {x : DataW H × List MemPlace} (h : DataW.trod enc Try.prog w base spare held n 5 [v] = some x) : ∃ k : Nat, v = .int .u8 (k : Int) ∧ k < 256 := by
  obtain ⟨r0, e0, _, w0⟩ := DataW.trod_int Try.underlying5 h
  injection e0 with e0
  have b0 := bounds_u8 w0
  exact ⟨r0.toNat, by rw [e0, Int.toNat_of_nonneg b0.1], by omega⟩
theorem one_u32 {n : Nat} {v : Value} {x : DataW H × List MemPlace} (h : DataW.trod enc Try.prog w base spare held n 29 [v] = some x) : ∃ k : Nat, v = .int .u32 (k : Int) ∧ k < 4294967296 := by
  obtain ⟨r0, e0, _, w0⟩ := DataW.trod_int Try.underlying29 h
  injection e0 with e0
  have b0 := bounds_u32 w0
  exact ⟨r0.toNat, by rw [e0, Int.toNat_of_nonneg b0.1], by omega⟩
theorem one_u64 {n : Nat} {v : Value} {x : DataW H × List MemPlace} (h : DataW.trod enc Try.prog w base spare held n 26 [v] = some x) : ∃ k : Nat, v = .int .u64 (k : Int) ∧ k < 18446744073709551616 := by
  obtain ⟨r0, e0, _, w0⟩ := DataW.trod_int Try.underlying26 h
  injection e0 with e0
  have b0 := bounds_u64 w0
  exact ⟨r0.toNat, by rw [e0, Int.toNat_of_nonneg b0.1], by omega⟩

theorem sl_of {A : Option Addr} {n c : Nat} {xs : List Value} (h1 : n ≤ c) (h2 : c ≤ maxLen) (h : Lies w w.heap.size A xs) : Sl w (fun _ => False) (.slice A n c) n xs :=
  ⟨A, c, rfl, h1, h2, fun hn => by
    obtain ⟨b, off, e, hb, hc⟩ := h hn
    exact ⟨b, off, e, hb, fun h => h, hc⟩⟩

/-- What a frame that is handed in is: its numbers are numbers of their kinds. -/
structure Fr.Wf (F : Fr) : Prop where
  kind : F.kind < 256
  src : F.src < 256
  dst : F.dst < 256
  seq : F.seq < 18446744073709551616
  at_ : F.at_ < 4294967296
  of_ : F.of_ < 4294967296
  size : F.size < 4294967296
  inst : F.inst < 18446744073709551616
  rnd : F.rnd < 18446744073709551616
  doneN : ∀ x ∈ F.done, x < 18446744073709551616
  heldN : ∀ x ∈ F.held, x < 18446744073709551616

theorem len16 {cs : Array Value} (h : cs.size = 16) : ∃ c0 c1 c2 c3 c4 c5 c6 c7 c8 c9 c10 c11 c12 c13 c14 c15, cs = #[c0, c1, c2, c3, c4, c5, c6, c7, c8, c9, c10, c11, c12, c13, c14, c15] := by
  obtain ⟨l⟩ := cs
  match l, h with
  | [c0, c1, c2, c3, c4, c5, c6, c7, c8, c9, c10, c11, c12, c13, c14, c15], _ => exact ⟨c0, c1, c2, c3, c4, c5, c6, c7, c8, c9, c10, c11, c12, c13, c14, c15, rfl⟩

set_option maxRecDepth 10000 in
theorem open_frame {r : Reach} {b0 : Nat} {v : Value} {d : DataW H} {p : List MemPlace} (hv : Value.okWide Try.prog w r b0 33 v) (h : DataW.Trod enc Try.prog w base spare held 33 v d p) :
    ∃ F cs, v = .agg cs ∧ FrV w (fun _ => False) F cs ∧ F.Wf := by
  have hC : Try.prog.cellsOf 33 = 16 := by kernel_rfl
  have hH : Try.prog.cellsOf 25 = 3 := by kernel_rfl
  have hI : Try.prog.cellsOf 28 = 2 := by kernel_rfl
  have h8 : Try.prog.cellsOf 5 = 1 := by kernel_rfl
  have h64 : Try.prog.cellsOf 26 = 1 := by kernel_rfl
  have h32 : Try.prog.cellsOf 29 = 1 := by kernel_rfl
  have hE : Try.prog.cellsOf 30 = 1 := by kernel_rfl
  have hU : Try.prog.cellsOf 31 = 1 := by kernel_rfl
  have hD : Try.prog.cellsOf 22 = 1 := by kernel_rfl
  obtain ⟨cs, rfl, hsz⟩ := okWide_struct Try.underlying33 hv
  obtain ⟨c0, c1, c2, c3, c4, c5, c6, c7, c8, c9, c10, c11, c12, c13, c14, c15, rfl⟩ := len16 (hsz.trans hC)
  obtain ⟨fuel, hf⟩ := h
  have hf' : DataW.trod enc Try.prog w base spare held fuel 33 [c0, c1, c2, c3, c4, c5, c6, c7, c8, c9, c10, c11, c12, c13, c14, c15] = some (d, p) := by simpa [Value.cells] using hf
  obtain ⟨xs, n, -, -, -, hxl, hfs⟩ := DataW.trod_struct Try.underlying33 hf'
  have hx : ∀ i, i < 13 → ∃ y, xs[i]? = some y := fun i hi => ⟨_, List.getElem?_eq_getElem (by rw [hxl]; exact hi)⟩
  obtain ⟨y0, e0⟩ := hx 0 (by decide)
  obtain ⟨y1, e1⟩ := hx 1 (by decide)
  obtain ⟨y2, e2⟩ := hx 2 (by decide)
  obtain ⟨y3, e3⟩ := hx 3 (by decide)
  obtain ⟨y4, e4⟩ := hx 4 (by decide)
  obtain ⟨y5, e5⟩ := hx 5 (by decide)
  obtain ⟨y6, e6⟩ := hx 6 (by decide)
  obtain ⟨y7, e7⟩ := hx 7 (by decide)
  obtain ⟨y8, e8⟩ := hx 8 (by decide)
  obtain ⟨y9, e9⟩ := hx 9 (by decide)
  obtain ⟨y10, e10⟩ := hx 10 (by decide)
  obtain ⟨y11, e11⟩ := hx 11 (by decide)
  obtain ⟨y12, e12⟩ := hx 12 (by decide)
  have k0 : DataW.trod enc Try.prog w base spare held n 25 (List.take (Try.prog.cellsOf 25) (List.drop 0 [c0, c1, c2, c3, c4, c5, c6, c7, c8, c9, c10, c11, c12, c13, c14, c15])) = some y0 := (hfs 0 _ rfl).trans e0
  have k1 : DataW.trod enc Try.prog w base spare held n 28 (List.take (Try.prog.cellsOf 28) (List.drop 3 [c0, c1, c2, c3, c4, c5, c6, c7, c8, c9, c10, c11, c12, c13, c14, c15])) = some y1 := (hfs 1 _ rfl).trans e1
  have k2 : DataW.trod enc Try.prog w base spare held n 26 (List.take (Try.prog.cellsOf 26) (List.drop 5 [c0, c1, c2, c3, c4, c5, c6, c7, c8, c9, c10, c11, c12, c13, c14, c15])) = some y2 := (hfs 2 _ rfl).trans e2
  have k3 : DataW.trod enc Try.prog w base spare held n 29 (List.take (Try.prog.cellsOf 29) (List.drop 6 [c0, c1, c2, c3, c4, c5, c6, c7, c8, c9, c10, c11, c12, c13, c14, c15])) = some y3 := (hfs 3 _ rfl).trans e3
  have k4 : DataW.trod enc Try.prog w base spare held n 29 (List.take (Try.prog.cellsOf 29) (List.drop 7 [c0, c1, c2, c3, c4, c5, c6, c7, c8, c9, c10, c11, c12, c13, c14, c15])) = some y4 := (hfs 4 _ rfl).trans e4
  have k5 : DataW.trod enc Try.prog w base spare held n 29 (List.take (Try.prog.cellsOf 29) (List.drop 8 [c0, c1, c2, c3, c4, c5, c6, c7, c8, c9, c10, c11, c12, c13, c14, c15])) = some y5 := (hfs 5 _ rfl).trans e5
  have k6 : DataW.trod enc Try.prog w base spare held n 26 (List.take (Try.prog.cellsOf 26) (List.drop 9 [c0, c1, c2, c3, c4, c5, c6, c7, c8, c9, c10, c11, c12, c13, c14, c15])) = some y6 := (hfs 6 _ rfl).trans e6
  have k7 : DataW.trod enc Try.prog w base spare held n 26 (List.take (Try.prog.cellsOf 26) (List.drop 10 [c0, c1, c2, c3, c4, c5, c6, c7, c8, c9, c10, c11, c12, c13, c14, c15])) = some y7 := (hfs 7 _ rfl).trans e7
  have k8 : DataW.trod enc Try.prog w base spare held n 30 (List.take (Try.prog.cellsOf 30) (List.drop 11 [c0, c1, c2, c3, c4, c5, c6, c7, c8, c9, c10, c11, c12, c13, c14, c15])) = some y8 := (hfs 8 _ rfl).trans e8
  have k9 : DataW.trod enc Try.prog w base spare held n 30 (List.take (Try.prog.cellsOf 30) (List.drop 12 [c0, c1, c2, c3, c4, c5, c6, c7, c8, c9, c10, c11, c12, c13, c14, c15])) = some y9 := (hfs 9 _ rfl).trans e9
  have k10 : DataW.trod enc Try.prog w base spare held n 31 (List.take (Try.prog.cellsOf 31) (List.drop 13 [c0, c1, c2, c3, c4, c5, c6, c7, c8, c9, c10, c11, c12, c13, c14, c15])) = some y10 := (hfs 10 _ rfl).trans e10
  have k11 : DataW.trod enc Try.prog w base spare held n 31 (List.take (Try.prog.cellsOf 31) (List.drop 14 [c0, c1, c2, c3, c4, c5, c6, c7, c8, c9, c10, c11, c12, c13, c14, c15])) = some y11 := (hfs 11 _ rfl).trans e11
  have k12 : DataW.trod enc Try.prog w base spare held n 22 (List.take (Try.prog.cellsOf 22) (List.drop 15 [c0, c1, c2, c3, c4, c5, c6, c7, c8, c9, c10, c11, c12, c13, c14, c15])) = some y12 := (hfs 12 _ rfl).trans e12
  simp only [hH, hI, h64, h32, hE, hU, hD, List.drop_succ_cons, List.drop_zero, List.take_succ_cons, List.take_zero] at k0 k1 k2 k3 k4 k5 k6 k7 k8 k9 k10 k11 k12
  clear hfs hx e0 e1 e2 e3 e4 e5 e6 e7 e8 e9 e10 e11 e12
  obtain ⟨m0, m1, m2, n', _, _, t0, t1, t2⟩ := Deep.trod_struct3 Try.underlying25 k0
  simp only [h8, List.drop_succ_cons, List.drop_zero, List.take_succ_cons, List.take_zero] at t0 t1 t2
  obtain ⟨z0, rfl, b0⟩ := one_u8 t0
  obtain ⟨z1, rfl, b1⟩ := one_u8 t1
  obtain ⟨z2, rfl, b2⟩ := one_u8 t2
  obtain ⟨m3, m4, n'', _, _, t3, t4⟩ := trod_struct2 Try.underlying28 k1
  simp only [h8, h64, List.drop_succ_cons, List.drop_zero, List.take_succ_cons, List.take_zero] at t3 t4
  obtain ⟨z3, rfl, b3⟩ := one_u8 t3
  obtain ⟨z4, rfl, b4⟩ := one_u64 t4
  obtain ⟨z5, rfl, b5⟩ := one_u64 k2
  obtain ⟨z6, rfl, b6⟩ := one_u32 k3
  obtain ⟨z7, rfl, b7⟩ := one_u32 k4
  obtain ⟨z8, rfl, b8⟩ := one_u32 k5
  obtain ⟨z9, rfl, b9⟩ := one_u64 k6
  obtain ⟨z10, rfl, b10⟩ := one_u64 k7
  obtain ⟨Ae, ne, ce, le, rfl, hle, q1, q2, hLe⟩ := open_rns k8
  obtain ⟨Ax, nx, cx, lx, rfl, hlx, q3, q4, hLx⟩ := open_rns k9
  obtain ⟨ln, An, nn, cn, rfl, hln, q5, q6, hLn, hbn⟩ := open_nums Try.underlying31 Try.underlying26 h64 k10
  obtain ⟨lh, Ah, nh, ch, rfl, hlh, q7, q8, hLh, hbh⟩ := open_nums Try.underlying31 Try.underlying26 h64 k11
  obtain ⟨ld, Ad, nd, cd, rfl, hld, q9, q10, hLd⟩ := open_bytes Try.underlying22 Try.underlying5 h8 k12
  subst hle hlx hln hlh hld
  refine ⟨⟨z0, z1, z2, ⟨z3, z4, b3, b4⟩, z5, z6, z7, z8, z9, z10, le, lx, ln, lh, ld⟩, _, rfl, ⟨_, _, _, _, _, rfl, sl_of q1 q2 hLe, sl_of q3 q4 hLx, sl_of q5 q6 hLn, sl_of q7 q8 hLh, sl_of q9 q10 hLd⟩, ⟨b0, b1, b2, b5, b6, b7, b8, b9, b10, hbn, hbh⟩⟩
end

end Go.Proofs.Ytbfjfidodpgohaa

/- Bits turned (picked). -/
namespace Go.Proofs.Ytbfjfidodpgohaa
open Go.RowKit

/-- Bit i of bytes. -/
def tb (l : List UInt8) (i : Nat) : Bool := (l.getD (i / 8) 0).toNat.testBit (i % 8)

theorem bitsAll_get (l : List UInt8) (i : Nat) (h : i < 8 * l.length) : (bitsAll l)[i]? = some (tb l i) := by
  induction l generalizing i with
  | nil => simp at h
  | cons c t ih =>
    have e : bitsAll (c :: t) = bitsOf c ++ bitsAll t := rfl
    rw [e]
    by_cases h8 : i < 8
    · rw [List.getElem?_append_left (by rw [bitsOf_length]; exact h8)]
      have h0 : i / 8 = 0 := by omega
      have h1 : i % 8 = i := by omega
      simp [bitsOf, tb, h0, h1, h8]
    · rw [List.getElem?_append_right (by rw [bitsOf_length]; omega), bitsOf_length, ih (i - 8) (by simp at h; omega)]
      have h0 : i / 8 = (i - 8) / 8 + 1 := by omega
      have h1 : i % 8 = (i - 8) % 8 := by omega
      simp [tb, h0, h1]

/-- Bytes in which bit k is turned. -/
def flip (l : List UInt8) (k : Nat) : List UInt8 := l.set (k / 8) (UInt8.ofNat ((l.getD (k / 8) 0).toNat ^^^ 2 ^ (k % 8)))

theorem flip_length (l : List UInt8) (k : Nat) : (flip l k).length = l.length := by simp [flip]

theorem flip_byte (x j : Nat) (hx : x < 256) (hj : j < 8) : x ^^^ 2 ^ j < 256 :=
  Nat.xor_lt_two_pow (n := 8) hx (Nat.pow_lt_pow_right (by decide) hj)

theorem tb_flip (l : List UInt8) (k i : Nat) (hk : k < 8 * l.length) : tb (flip l k) i = (tb l i ^^ decide (i = k)) := by
  unfold tb flip
  have hk8 : k / 8 < l.length := by omega
  by_cases hb : i / 8 = k / 8
  · have hg : (l.set (k / 8) (UInt8.ofNat ((l.getD (k / 8) 0).toNat ^^^ 2 ^ (k % 8)))).getD (i / 8) 0 = UInt8.ofNat ((l.getD (k / 8) 0).toNat ^^^ 2 ^ (k % 8)) := by
      rw [hb, List.getD_eq_getElem?_getD, List.getElem?_set_self hk8]; rfl
    rw [hg, hb]
    have hx := (l.getD (k / 8) 0).toNat_lt
    generalize (l.getD (k / 8) 0).toNat = x at hx ⊢
    have hm := Nat.mod_lt k (show 0 < 8 by decide)
    have hv : (UInt8.ofNat (x ^^^ 2 ^ (k % 8))).toNat = x ^^^ 2 ^ (k % 8) := by
      rw [UInt8.toNat_ofNat', Nat.mod_eq_of_lt (flip_byte x (k % 8) hx hm)]
    rw [hv, Nat.testBit_xor, Nat.testBit_two_pow]
    congr 1
    have : (k % 8 = i % 8) ↔ i = k := by omega
    simp [this]
  · have hg : (l.set (k / 8) (UInt8.ofNat ((l.getD (k / 8) 0).toNat ^^^ 2 ^ (k % 8)))).getD (i / 8) 0 = l.getD (i / 8) 0 := by
      rw [List.getD_eq_getElem?_getD, List.getElem?_set_ne (by omega), ← List.getD_eq_getElem?_getD]
    rw [hg]
    have : i ≠ k := by intro h; subst h; exact hb rfl
    simp [this]

/-- What has been turned when q of the bits have been looked at. -/
def Turned (l0 l : List UInt8) (p s q : Nat) : Prop := l.length = l0.length ∧ ∀ i, i < 8 * l0.length → tb l i = (tb l0 i ^^ (decide (p ≤ i ∧ i < p + q) && s.testBit (i - p)))

theorem Turned.start (l0 : List UInt8) (p s : Nat) : Turned l0 l0 p s 0 := ⟨rfl, fun i _ => by
  rw [decide_eq_false (by omega : ¬ (p ≤ i ∧ i < p + 0)), Bool.false_and, Bool.xor_false]⟩

theorem Turned.no {l0 l : List UInt8} {p s q : Nat} (h : Turned l0 l p s q) (hs : s.testBit q = false) : Turned l0 l p s (q + 1) := ⟨h.1, fun i hi => by
  rw [h.2 i hi]
  congr 1
  by_cases he : i = p + q
  · subst he; simp [hs]
  · have : (p ≤ i ∧ i < p + (q + 1)) ↔ (p ≤ i ∧ i < p + q) := by omega
    simp only [this]⟩

theorem Turned.yes {l0 l : List UInt8} {p s q : Nat} (h : Turned l0 l p s q) (hs : s.testBit q = true) (hk : p + q < 8 * l0.length) : Turned l0 (flip l (p + q)) p s (q + 1) := ⟨by rw [flip_length]; exact h.1, fun i hi => by
  rw [tb_flip l (p + q) i (by rw [h.1]; exact hk), h.2 i hi, Bool.xor_assoc]
  congr 1
  by_cases he : i = p + q
  · subst he; simp [hs]
  · have : (p ≤ i ∧ i < p + (q + 1)) ↔ (p ≤ i ∧ i < p + q) := by omega
    simp [he, this]⟩

theorem Turned.bits {l0 l : List UInt8} {p s : Nat} (h : Turned l0 l p s 32) (hp : p + 32 ≤ 8 * l0.length) :
    bitsAll l = List.zipWith (· ^^ ·) (bitsAll l0) (List.replicate p false ++ ((List.range 32).map (fun k => s.testBit k) ++ List.replicate (8 * l0.length - p - 32) false)) := by
  apply List.ext_getElem?
  intro i
  by_cases hi : i < 8 * l0.length
  · rw [bitsAll_get l i (by rw [h.1]; exact hi), List.getElem?_zipWith, bitsAll_get l0 i hi, h.2 i hi]
    have e : (List.replicate p false ++ ((List.range 32).map (fun k => s.testBit k) ++ List.replicate (8 * l0.length - p - 32) false))[i]? = some (decide (p ≤ i ∧ i < p + 32) && s.testBit (i - p)) := by
      by_cases h1 : i < p
      · rw [List.getElem?_append_left (by simp; exact h1), List.getElem?_replicate, if_pos h1]
        have : ¬ (p ≤ i ∧ i < p + 32) := by omega
        simp [this]
      · rw [List.getElem?_append_right (by simp; omega), List.length_replicate]
        by_cases h2 : i - p < 32
        · rw [List.getElem?_append_left (by simp; exact h2), List.getElem?_map, List.getElem?_range h2]
          have : p ≤ i ∧ i < p + 32 := by omega
          simp [this]
        · rw [List.getElem?_append_right (by simp; omega), List.getElem?_replicate, if_pos (by simp; omega)]
          have : ¬ (p ≤ i ∧ i < p + 32) := by omega
          simp [this]
    rw [e]
  · rw [List.getElem?_eq_none (by rw [bitsAll_length, h.1]; omega), List.getElem?_eq_none (by rw [List.length_zipWith, bitsAll_length]; omega)]

theorem word_bits (s : Nat) (h : s < 4294967296) (h0 : s ≠ 0) : word ((List.range 32).map fun k => s.testBit k) ≠ 0#32 := by
  intro hw
  apply h0
  apply Nat.eq_of_testBit_eq
  intro i
  rw [Nat.zero_testBit]
  by_cases hi : i < 32
  · have h1 := word_get ((List.range 32).map fun k => s.testBit k) i hi
    rw [hw] at h1
    rw [List.getElem?_map, List.getElem?_range hi] at h1
    simpa using h1.symm
  · exact Nat.testBit_lt_two_pow (Nat.lt_of_lt_of_le h (by
      have : (2 : Nat) ^ 32 ≤ 2 ^ i := Nat.pow_le_pow_right (by decide) (by omega)
      exact this))

/-- P2.2: marked bytes in which something is turned within 32 bits in a row don't fit. -/
theorem turned_bad {a l : List UInt8} {p s : Nat} (h : Turned (markOf a) l p s 32) (hp : p + 32 ≤ 8 * (markOf a).length) (hs : s < 4294967296) (h0 : s ≠ 0) : fitsOf l = ([], 5) := by
  have hl : l.length = a.length + 4 := by rw [h.1]; simp [markOf, four_length]
  unfold fitsOf
  rw [if_neg (by omega), if_neg]
  intro hm
  have r1 : regOf l = downs 32 ones := by rw [← hm]; exact reg_mark _
  have r2 : regOf (markOf a) = downs 32 ones := reg_mark a
  have hb := h.bits hp
  have := reg_turned (bitsAll (markOf a)) ((List.range 32).map fun k => s.testBit k) p (8 * (markOf a).length - p - 32) (by simp) (word_bits s hs h0) (by rw [bitsAll_length]; simp; omega) ones
  rw [← hb] at this
  exact this (r1.trans r2.symm)

end Go.Proofs.Ytbfjfidodpgohaa

/- Bits that are being turned (picked). -/
namespace Go.Proofs.Ytbfjfidodpgohaa
open Go.RowKit

/-- Marked bytes that are being turned: they lie in block g, which the call owns. -/
def BurstRel (w : World) (l : List UInt8) (p s q g N c : Nat) (wr : World) : Prop :=
  ∃ l', Turned (markOf l) l' p s q ∧ wr.ownsRow w.heap.size 5 1 (.slice (some ⟨g, 0, none⟩) N c) N (bvs l') ∧ Below w.heap.size w wr

theorem BurstRel.no {w wr : World} {l : List UInt8} {p s q g N c : Nat} (h : BurstRel w l p s q g N c wr) (hs : s.testBit q = false) : BurstRel w l p s (q + 1) g N c wr := by
  obtain ⟨l', h1, h2, h3⟩ := h
  exact ⟨l', h1.no hs, h2, h3⟩

theorem flip_val (y j : Nat) (hy : y < 256) (hj : j < 8) : Value.int .u8 (bits .xor .u8 (y : Int) (2 ^ j % 256)) = bv (UInt8.ofNat (y ^^^ 2 ^ j)) := by
  have h2 : (2 : Nat) ^ j < 256 := (Nat.pow_lt_pow_right (by decide) hj : 2 ^ j < 2 ^ 8)
  have e : ((2 : Int) ^ j % 256) = ((2 ^ j : Nat) : Int) := by
    rw [show ((2 : Int) ^ j) = ((2 ^ j : Nat) : Int) by rw [Int.natCast_pow]; rfl, Int.emod_eq_of_lt (Int.natCast_nonneg _) (by omega)]
  rw [e, u8_xor_nat _ _ hy h2]
  unfold bv
  rw [UInt8.toNat_ofNat', Nat.mod_eq_of_lt (flip_byte y j hy hj)]

theorem BurstRel.yes {w wr : World} {l l' : List UInt8} {p s q g N c k y : Nat} (hT : Turned (markOf l) l' p s q) (hown : wr.ownsRow w.heap.size 5 1 (.slice (some ⟨g, 0, none⟩) N c) N (bvs l')) (hb : Below w.heap.size w wr)
    (hs : s.testBit q = true) (hk : p + q = k) (hl : k < 8 * (markOf l).length) (hy : (l'.getD (k / 8) 0).toNat = y) (hg : w.heap.size ≤ g) :
    BurstRel w l p s (q + 1) g N c (wr.setCell ⟨g, k / 8, none⟩ (Value.int .u8 (bits .xor .u8 (y : Int) (2 ^ (k % 8) % 256)))).drew := by
  have hy8 : y < 256 := by rw [← hy]; exact UInt8.toNat_lt _
  subst hk
  refine ⟨flip l' (p + q), hT.yes hs hl, ?_, ?_⟩
  · have := (hown.stored ((p + q) / 8) (Value.int .u8 (bits .xor .u8 (y : Int) (2 ^ ((p + q) % 8) % 256)))).1
    rw [flip_val y _ hy8 (Nat.mod_lt _ (by decide))] at this ⊢
    have e : bvs (flip l' (p + q)) = (bvs l').set ((p + q) / 8) (bv (UInt8.ofNat (y ^^^ 2 ^ ((p + q) % 8)))) := by
      unfold bvs flip
      rw [List.map_set, hy]
    rw [e]
    exact this.drew
  · exact (hb.setCell hg _).drew

theorem bit_tmod (s q : Nat) : ((s : Int) / 2 ^ q).tmod 2 = ((s / 2 ^ q % 2 : Nat) : Int) := by
  have e : ((s : Int) / 2 ^ q) = ((s / 2 ^ q : Nat) : Int) := by rw [Int.natCast_ediv, Int.natCast_pow]; rfl
  rw [e, Int.tmod_eq_emod_of_nonneg (Int.natCast_nonneg _)]
  rfl

end Go.Proofs.Ytbfjfidodpgohaa

/- The document's words on a frame: in, fields, rows, counts. -/
namespace Go.Proofs.Ytbfjfidodpgohaa
open Go.RowKit Go.Sort

/-- Does a letter stand in a text? -/
def inB (s : ByteArray) (c : UInt8) : Bool := s.data.toList.contains c

theorem in_step (s : ByteArray) (c : UInt8) (k : Nat) (h : k < s.size) (hn : ∀ j, (hj : j < k) → s.data.toList[j]? ≠ some c) (hk : s[k] ≠ c) : ∀ j, (hj : j < k + 1) → s.data.toList[j]? ≠ some c := by
  intro j hj
  by_cases e : j = k
  · subst e
    have : s.data.toList[j]? = some s[j] := List.getElem?_eq_getElem (by simpa using h)
    rw [this]
    intro e
    exact hk (by injection e)
  · exact hn j (by omega)

set_option maxRecDepth 100000 in
theorem in_any (s : ByteArray) (c : UInt8) (w : World) (hs : s.size ≤ 100) : Calls Try.prog 38 #[.string s, .int .u8 (c.toNat : Int)] w fun e w' => e = .returned (.bool (inB s c)) ∧ w = w' := by
  generalize hB : inB s c = B
  have HB := Lib.hid hB
  clear hB
  go_enter Try.func38, Try.ntmps38
  go_wp2
  go_loop [5] (fun i => ∃ k : Nat, k ≤ s.size ∧ i = .int .i64 k ∧ Hid (∀ j, (hj : j < k) → s.data.toList[j]? ≠ some c)) (fun i => s.size - (intOf i).toNat)
  case atStart => exact ⟨0, Nat.zero_le _, rfl, fun j hj => by omega⟩
  case round =>
    obtain ⟨k, hk, rfl, HN⟩ := hrel
    by_cases hlt : k < s.size
    · by_cases hc : s[k] = c
      · have hd : ((s[k].toNat : Int) == (c.toNat : Int)) = true := by rw [hc]; simp
        have HT : Hid (B = true) := by
          rw [← HB.out]
          unfold inB
          rw [List.contains_iff_mem]
          exact List.mem_iff_getElem?.2 ⟨k, by rw [← hc]; exact List.getElem?_eq_getElem (by simpa using hlt)⟩
        clear hc
        go_wp2
        go_ret
        exact ⟨(by rw [HT.out]; rfl), rfl⟩
      · have hd : ((s[k].toNat : Int) == (c.toNat : Int)) = false := by
          simp
          intro e
          exact hc (UInt8.toNat_inj.1 (by omega))
        have HN2 := Lib.hid (in_step s c k hlt HN.out hc)
        clear hc HN
        go_wp2
        go_round
        case rel => exact ⟨k + 1, by omega, by go_num, HN2⟩
        case measure => simp [intOf]; omega
    · have HF : Hid (B = false) := by
        rw [← HB.out]
        unfold inB
        rw [Bool.eq_false_iff]
        intro h
        rw [List.contains_iff_mem] at h
        obtain ⟨j, hj⟩ := List.mem_iff_getElem?.1 h
        exact HN.out j (by have := (List.getElem?_eq_some_iff.1 hj).1; simp at this; omega) hj
      clear HN
      go_wp2
      go_ret
      exact ⟨(by rw [HF.out]; rfl), rfl⟩

theorem in_lit (s : ByteArray) (c : UInt8) (b : Bool) (v : Int) (h : inB s c = b) (hs : s.size ≤ 100) (hv : v = (c.toNat : Int)) (w : World) : Calls Try.prog 38 #[.string s, .int .u8 v] w fun e w' => e = .returned (.bool b) ∧ w = w' := by
  subst hv
  have := in_any s c w hs
  rw [h] at this
  exact this

/-- The letters of a kind's fields. -/
def fldS (k : Nat) : ByteArray :=
  if k = 1 then ⟨#[113, 100, 97, 111, 122, 98]⟩ else if k = 2 ∨ k = 5 ∨ k = 10 then ⟨#[113]⟩ else if k = 3 then ⟨#[100, 97]⟩ else if k = 4 then ⟨#[100, 97, 111, 122, 98]⟩
  else if k = 6 then ⟨#[105, 114, 101]⟩ else if k = 7 then ⟨#[105, 114, 101, 120]⟩ else if k = 8 then ⟨#[105, 101]⟩ else if k = 9 then ⟨#[105, 110, 104]⟩ else ⟨#[]⟩

set_option maxRecDepth 100000 in
theorem fields_any (k : Nat) (w : World) (hk : k < 256) : Calls Try.prog 24 #[.int .u8 (k : Int)] w fun e w' => e = .returned (.string (fldS k)) ∧ w = w' := by
  by_cases hr : 1 ≤ k ∧ k ≤ 10
  · have hc : k = 1 ∨ k = 2 ∨ k = 3 ∨ k = 4 ∨ k = 5 ∨ k = 6 ∨ k = 7 ∨ k = 8 ∨ k = 9 ∨ k = 10 := by omega
    clear hr hk
    rcases hc with rfl | rfl | rfl | rfl | rfl | rfl | rfl | rfl | rfl | rfl
    all_goals
      go_enter Try.func24, Try.ntmps24
      go_wp2
      go_ret
      exact ⟨rfl, rfl⟩
  · have e : fldS k = ⟨#[]⟩ := by
      unfold fldS
      rw [if_neg (by omega), if_neg (by omega), if_neg (by omega), if_neg (by omega), if_neg (by omega), if_neg (by omega), if_neg (by omega), if_neg (by omega)]
    rw [e]
    have z1 : ((k : Int) == 1) = false := by simp; omega
    have z2 : ((k : Int) == 2) = false := by simp; omega
    have z3 : ((k : Int) == 3) = false := by simp; omega
    have z4 : ((k : Int) == 4) = false := by simp; omega
    have z5 : ((k : Int) == 5) = false := by simp; omega
    have z6 : ((k : Int) == 6) = false := by simp; omega
    have z7 : ((k : Int) == 7) = false := by simp; omega
    have z8 : ((k : Int) == 8) = false := by simp; omega
    have z9 : ((k : Int) == 9) = false := by simp; omega
    have z10 : ((k : Int) == 10) = false := by simp; omega
    clear e hr hk
    go_enter Try.func24, Try.ntmps24
    go_wp2
    go_ret
    exact ⟨rfl, rfl⟩

set_option maxRecDepth 100000 in
theorem refRuns_may (A : Option Addr) (n c : Nat) (l : List Rn) (w : World) (hl : l.length = n) (hn : n ≤ 100) (hL : Lies w w.heap.size A (flat encRn l)) :
    Calls Try.prog 40 #[.slice A n c] w fun e w' => e = .returned (.bool (runsB l)) ∧ RowKit.Below w.heap.size w w' := by
  have HR := Lib.hid (refRows_any A n c l w hl (by omega) hL)
  have HC : Hid (∀ W, Below w.heap.size w W → Calls Try.prog 54 #[.slice A n c] W fun e w' => e = .returned (.int .u64 (cntN l)) ∧ RowKit.Below W.heap.size W w') := fun W hW => refCount_any A n c l W hl (by omega) (hL.later hW)
  unfold runsB
  rw [hl]
  clear hL hl
  generalize hq : rowsB l = q at HR ⊢
  have hc : decide (cntN l ≤ 4096) = decide ((cntN l : Int) ≤ 4096) := by simp; omega
  rw [hc]
  generalize cntN l = m at HC ⊢
  clear hq hc
  by_cases hn64 : n ≤ 64
  · have hd : decide ((n : Int) ≤ 64) = true := by simp; omega
    rw [decide_eq_true hn64, Bool.true_and]
    cases q
    · go_enter Try.func40, Try.ntmps40
      go_wp2_with fail
      refine HR.out.mono ?_
      rintro e w1 ⟨rfl, hb1⟩
      go_wp2
      go_ret
      exact ⟨rfl, hb1⟩
    · go_enter Try.func40, Try.ntmps40
      go_wp2_with fail
      refine HR.out.mono ?_
      rintro e w1 ⟨rfl, hb1⟩
      go_wp2_with fail
      refine (HC.out w1 hb1).mono ?_
      rintro e w2 ⟨rfl, hb2⟩
      go_wp2
      go_ret
      exact ⟨rfl, hb1.trans (hb2.mono hb1.size)⟩
  · have hd : decide ((n : Int) ≤ 64) = false := by simp; omega
    rw [decide_eq_false hn64, Bool.false_and, Bool.false_and]
    go_enter Try.func40, Try.ntmps40
    go_wp2
    go_ret
    exact ⟨rfl, RowKit.Below.refl _ _⟩

theorem any_take (l : List Nat) (k : Nat) (h : k < l.length) (hn : (l.take k).any tooGreat = false) (hk : tooGreat l[k] = false) : (l.take (k + 1)).any tooGreat = false := by
  rw [List.take_succ_eq_append_getElem h, List.any_append, hn]
  simp [hk]

set_option maxRecDepth 100000 in
theorem refCounts_may (A : Option Addr) (n c : Nat) (l : List Nat) (w : World) (hl : l.length = n) (hn : n ≤ 100) (hL : Lies w w.heap.size A (uvs l)) :
    Calls Try.prog 41 #[.slice A n c] w fun e w' => e = .returned (.bool (vecB l)) ∧ w = w' := by
  generalize hB : vecB l = B
  have HB := Lib.hid hB
  have HL := Lib.hid hl
  clear hB hl
  go_enter Try.func41, Try.ntmps41
  go_wp2
  go_loop [6] (fun i => ∃ k : Nat, k ≤ n ∧ i = .int .i64 k ∧ Hid ((l.take k).any tooGreat = false)) (fun i => n - (intOf i).toNat)
  case atStart => exact ⟨0, Nat.zero_le _, rfl, rfl⟩
  case round =>
    obtain ⟨k, hk, rfl, HN⟩ := hrel
    by_cases hlt : k < n
    · have hk2 : k < l.length := by rw [HL.out]; exact hlt
      obtain ⟨b, off, rfl, hb, hc⟩ := hL.at_ (uvs_at hk2)
      by_cases hg : tooGreat l[k] = true
      · have HT : Hid (B = false) := by
          show B = false
          rw [← HB.out]
          unfold vecB
          rw [show l.any tooGreat = true from List.any_eq_true.2 ⟨l[k], List.getElem_mem hk2, hg⟩]
          simp
        have hg2 : 4611686018427387904 < l[k] := of_decide_eq_true hg
        have hd : (4611686018427387904 : Int) < (l[k] : Int) := by omega
        have HD : Hid (decide ((4611686018427387904 : Int) < (l[k] : Int)) = true) := decide_eq_true hd
        generalize l[k] = y at hc HD
        clear hg hd hg2
        have hd2 := HD.out
        go_wp2
        go_ret
        exact ⟨(by rw [HT.out]; rfl), rfl⟩
      · have hg' : tooGreat l[k] = false := by simpa using hg
        have HN2 := Lib.hid (any_take l k hk2 HN.out hg')
        have HD : Hid (decide ((4611686018427387904 : Int) < (l[k] : Int)) = false) := by
          show _ = _
          have : ¬ 4611686018427387904 < l[k] := by simpa [tooGreat] using hg'
          simp
          omega
        generalize l[k] = y at hc HD
        clear hg hg' HN
        have hd2 := HD.out
        go_wp2
        go_round
        case rel => exact ⟨k + 1, by omega, by go_num, HN2⟩
        case measure => simp [intOf]; omega
    · have hkn : k = n := by omega
      subst hkn
      have HT : Hid (B = decide ((k : Int) ≤ 64)) := by
        show B = _
        rw [← HB.out]
        unfold vecB
        have h1 := HN.out
        rw [← HL.out, List.take_length] at h1
        rw [h1, HL.out]
        show (decide (k ≤ 64) && !false) = decide ((k : Int) ≤ 64)
        simp
        omega
      clear HN hlt
      go_wp2
      go_ret
      exact ⟨(by rw [HT.out]; rfl), rfl⟩

end Go.Proofs.Ytbfjfidodpgohaa

/- The document's absent: the words. -/
namespace Go.Proofs.Ytbfjfidodpgohaa
open Go.RowKit Go.Sort

theorem bne_zero (a : Nat) : ((a : Int) != 0) = !(a == 0) := by rw [bne, beq_zero]
theorem pos_zero (a : Nat) : decide ((0 : Int) < (a : Int)) = !(a == 0) := by
  rw [Bool.eq_iff_iff]
  simp
  omega

theorem pos_zeroN (a : Nat) : decide (0 < a) = !(a == 0) := by
  rw [Bool.eq_iff_iff]
  simp
  omega

/-- Are all fields zero that these letters don't name? -/
def absB (F : Fr) (s : ByteArray) : Bool :=
  (inB s 113 || F.seq == 0) && (inB s 100 || (F.id.f == 0 && F.id.s == 0)) && (inB s 97 || F.at_ == 0) && (inB s 111 || F.of_ == 0) && (inB s 122 || F.size == 0) && (inB s 105 || F.inst == 0) && (inB s 114 || F.rnd == 0) &&
    (inB s 101 || F.est.length == 0) && (inB s 120 || F.aux.length == 0) && (inB s 110 || F.done.length == 0) && (inB s 104 || F.held.length == 0) && (inB s 98 || F.data.length == 0)

theorem FrL.sls {w : World} {F : Fr} {cs : Array Value} (h : FrL w F cs) : ∃ A1 c1 A2 c2 A3 c3 A4 c4 A5 c5, cs[11]? = some (.slice A1 F.est.length c1) ∧ cs[12]? = some (.slice A2 F.aux.length c2) ∧ cs[13]? = some (.slice A3 F.done.length c3) ∧ cs[14]? = some (.slice A4 F.held.length c4) ∧ cs[15]? = some (.slice A5 F.data.length c5) := by
  obtain ⟨p, rfl, _⟩ := h
  exact ⟨_, _, _, _, _, _, _, _, _, _, rfl, rfl, rfl, rfl, rfl⟩

end Go.Proofs.Ytbfjfidodpgohaa
