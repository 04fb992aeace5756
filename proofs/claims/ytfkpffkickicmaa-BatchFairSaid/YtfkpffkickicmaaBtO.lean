/- The walks of begun, of the functions that Next hands on, and of takeOneEach (batch). -/
import Derived.Test.YtfkpffkickicmaaBtN
namespace Go.Proofs.Ytfkpffkickicmaa
open Go.RowKit Go.Sort

def zeroRn : Rn := ⟨0, 0, 0, by decide, by decide, by decide⟩

theorem made_runs (m : Nat) : (madeCells #[.int .u8 0, .int .u64 0, .int .u64 0] (m * 3)).toList = flat encRn (List.replicate m zeroRn) := by
  refine List.ext_getElem? fun j => ?_
  by_cases h : j < m * 3
  · obtain ⟨q, r, hr, rfl⟩ : ∃ q r, r < 3 ∧ j = q * 3 + r := ⟨j / 3, j % 3, by omega, by omega⟩
    have hi : q < (List.replicate m zeroRn).length := by simp; omega
    rw [flat_at encRn_len _ q r hr hi, List.getElem_replicate]
    have hs : (q * 3 + r) % 3 = r := by omega
    simp only [madeCells, Array.toList_map, List.getElem?_map, Array.toList_range, List.getElem?_range h, Option.map_some]
    show some ((#[Value.int .u8 0, .int .u64 0, .int .u64 0])[(q * 3 + r) % 3]!) = _
    rw [hs]
    rcases (show r = 0 ∨ r = 1 ∨ r = 2 by omega) with rfl | rfl | rfl <;> rfl
  · rw [List.getElem?_eq_none (by simp [madeCells]; omega), List.getElem?_eq_none (by rw [flat_length encRn_len]; simp; omega)]

theorem made_runs' (z : Array Value) (hz : z = #[.int .u8 0, .int .u64 0, .int .u64 0]) (m : Nat) : (madeCells z (m * 3)).toList = flat encRn (List.replicate m zeroRn) := by
  subst hz
  exact made_runs m

def Begun (base : List Nat) (m k : Nat) (dk : List Rn) : Prop := dk.length = m ∧ ∀ j, j < k → dk[j]? = some (runAt base (List.replicate m 0) j)

theorem Begun.start (base : List Nat) (m : Nat) : Begun base m 0 (List.replicate m zeroRn) := ⟨by simp, fun j h => absurd h (by omega)⟩
theorem Begun.next {base : List Nat} {m k : Nat} {dk : List Rn} (h : Begun base m k dk) (hk : k < m) : Begun base m (k + 1) (dk.set k (runAt base (List.replicate m 0) k)) := by
  refine ⟨by simp [h.1], fun j hj => ?_⟩
  rw [List.getElem?_set]
  by_cases e : k = j
  · subst e
    rw [if_pos rfl, if_pos (by rw [h.1]; exact hk)]
  · rw [if_neg e]
    exact h.2 j (by omega)
theorem Begun.done {base : List Nat} {m : Nat} {dk : List Rn} (h : Begun base m m dk) : dk = rowOf base (List.replicate m 0) := by
  refine List.ext_getElem? fun j => ?_
  by_cases hj : j < m
  · rw [h.2 j hj]
    simp [rowOf, hj]
  · rw [List.getElem?_eq_none (by rw [h.1]; omega), List.getElem?_eq_none (by rw [rowOf_length]; simp; omega)]

set_option maxHeartbeats 1600000 in
theorem begun_any (A : Option Addr) (n c m : Nat) (base : List Nat) (w : World) (hn : n ≤ 1000) (hm : m = min n 64) (hl : base.length = n) (h : Lies w w.heap.size A (uvs base)) :
    Calls Try.prog 36 #[.slice A n c] w (OwnRns w w.heap.size (rowOf base (List.replicate m 0))) := by
  obtain ⟨i0, hi, hz0, hz1, hz2⟩ := info_parts Try.infoRun
  have HL := Lib.hid hl
  have hm1 : m ≤ n := by omega
  have hm2 : m ≤ 64 := by omega
  have HM : Hid (min (n : Int) 64 = (m : Int)) := by show _ = _; omega
  clear hl hm
  go_enter Try.func36, Try.ntmps36
  go_wp2_with (at_make; refine wpList_make_full w rfl (.tmp 7) (.tmp 7) 23 rfl w.heap.size 43 i0 (.agg #[.int .u8 0, .int .u64 0, .int .u64 0]) 3 Try.underlying23 hi hz0 hz1 .i64 .i64 _ _ m rfl rfl ?a1 ?a2 ?a3 ?a4 (Nat.le_refl _) ?_)
  case a1 => exact HM.out
  case a2 => exact HM.out
  case a3 => rw [hz2]; omega
  case a4 => unfold maxLen; omega
  intro w1 hown1 hg1
  have hb1 : RowKit.Below w.heap.size w w1 := (RowKit.Below.refl _ _).grown hg1 (Nat.le_refl _) (fun q hq => by cases hq)
  rw [made_runs' _ rfl] at hown1
  have H1 := Lib.hid hown1
  clear hg1 hown1
  go_wp2
  go_loopw [4, 11] (fun _ s11 wr => ∃ (k : Nat) (dk : List Rn), k ≤ m ∧ s11 = .int .i64 k ∧ RowKit.Below w.heap.size w wr ∧ Hid (Begun base m k dk) ∧ wr.ownsRow w.heap.size 43 3 (.slice (some ⟨w.heap.size, 0, none⟩) m m) m (flat encRn dk)) (fun _ s11 _ => m - (intOf s11).toNat)
  case atStart => exact ⟨0, _, Nat.zero_le _, rfl, hb1, Begun.start base m, H1.out⟩
  case round =>
    clear H1 hb1
    obtain ⟨k, dk, hk, rfl, hb, hB, hown⟩ := hrel
    by_cases hlt : k < m
    · have hkn : k < base.length := by rw [HL.out]; omega
      obtain ⟨bb, off, rfl, hbl, hc⟩ := (h.below hb).at_ (uvs_at hkn)
      have hid : k < dk.length := by rw [hB.out.1]; exact hlt
      have HBN := Lib.hid (hB.out.next hlt)
      have o0 : wr.cell? ⟨w.heap.size, k * 3, none⟩ = some (.int .u8 (dk[k].f : Int)) := by rw [hown.cellAt _ (by omega)]; exact rns_at0 dk k hid
      have o1 : wr.cell? ⟨w.heap.size, k * 3 + 1, none⟩ = some (.int .u64 (dk[k].a : Int)) := by rw [hown.cellAt _ (by omega)]; exact rns_at1 dk k hid
      have o2 : wr.cell? ⟨w.heap.size, k * 3 + 2, none⟩ = some (.int .u64 (dk[k].c : Int)) := by rw [hown.cellAt _ (by omega)]; exact rns_at2 dk k hid
      have f0 := hown.frozenAt (k * 3)
      have f1 := hown.frozenAt (k * 3 + 1)
      have f2 := hown.frozenAt (k * 3 + 2)
      have hst := rns_set dk k (runAt base (List.replicate m 0) k) hid
      have r0 : ((runAt base (List.replicate m 0) k).f : Int) = (k : Int) := by show ((k % 256 : Nat) : Int) = _; omega
      have r1 : (runAt base (List.replicate m 0) k).a = (base[k] + 1) % 18446744073709551616 := by show (num base k + 1) % 18446744073709551616 = _; rw [num_in hkn]
      have r2 : (runAt base (List.replicate m 0) k).c = 0 := by
        show num (List.replicate m 0) k % 18446744073709551616 = 0
        rw [num_in (by simpa using hlt)]
        simp
      rw [r0, r1, r2] at hst
      have HST := Lib.hid hst
      generalize (dk[k].f : Int) = of at o0
      generalize (dk[k].a : Int) = oa at o1
      generalize (dk[k].c : Int) = oc at o2
      generalize base[k] = y at hc HST
      have es : IntKind.u64.wrap ((y : Int) + 1) = (((y + 1) % 18446744073709551616 : Nat) : Int) := by rw [IntKind.wrap_u64]; omega
      have e8 : IntKind.u8.wrap (k : Int) = (k : Int) := by simp [IntKind.wrap, IntKind.bits, IntKind.signed]; omega
      have H2 := Lib.hid hown
      clear hown hst r0 r1 r2 hB
      generalize (y + 1) % 18446744073709551616 = z at es HST
      have hkz : (k : Int) < (n : Int) := by omega
      go_wp2
      go_roundw
      case rel =>
        refine ⟨k + 1, _, by omega, by go_num, ?_, HBN, ?_⟩
        · exact ((hb.setCell (p := ⟨w.heap.size, _, none⟩) (Nat.le_refl _) _).setCell (p := ⟨w.heap.size, _, none⟩) (Nat.le_refl _) _).setCell (p := ⟨w.heap.size, _, none⟩) (Nat.le_refl _) _
        · have s2 := (((H2.out.stored (k * 3) (.int .u8 (k : Int))).1.stored (k * 3 + 1) (.int .u64 (z : Int))).1.stored (k * 3 + 2) (.int .u64 ((0 : Nat) : Int))).1
          rwa [HST.out] at s2
      case measure => simp [intOf]; omega
    · have hkm : k = m := by omega
      subst hkm
      have hD := hB.out.done
      rw [hD] at hown
      have HO := Lib.hid hown
      clear hown hD
      go_wp2
      go_ret
      exact OwnRns.of (by rw [rowOf_length]; simp) HO.out hb

theorem noIds_any (x : Rn) (W : World) : Calls Try.prog 41 #[valRn x] W fun e w' => e = .returned (.bool (decide (x.c = 0))) ∧ Grew W w' := by
  unfold valRn
  by_cases h : x.c = 0
  · have hz : ((x.c : Int) == 0) = true := beq_iff_eq.2 (by omega)
    rw [decide_eq_true h]
    have H := Lib.hid h
    clear h
    go_enter Try.func41, Try.ntmps41
    go_wp2
    go_ret
    exact ⟨rfl, (Grew.refl W).alloc _⟩
  · have hz : ((x.c : Int) == 0) = false := beq_eq_false_iff_ne.2 (by omega)
    rw [decide_eq_false h]
    have H := Lib.hid h
    clear h
    go_enter Try.func41, Try.ntmps41
    go_wp2
    go_ret
    exact ⟨rfl, (Grew.refl W).alloc _⟩

set_option maxHeartbeats 1600000 in
theorem more_any (x : Rn) (b : Nat) (A : Option Addr) (n c : Nat) (held : List Nat) (W : World) (hcell : W.cell? ⟨b, 0, none⟩ = some (.slice A n c)) (hbl : b < W.heap.size) (hl : held.length = n) (h : Lies W W.heap.size A (uvs held)) :
    Calls Try.prog 37 #[valRn x, .pointer (some ⟨b, 0, none⟩)] W fun e w' => e = .returned (.bool (heldOne held (longerR x))) ∧ RowKit.Below W.heap.size W w' := by
  have hlg := fun W' => longer_lit x W'
  have HH : Hid (∀ (w1 : World), RowKit.Below W.heap.size W w1 → Calls Try.prog 13 #[.slice A n c, .slice (some ⟨w1.heap.size, 0, none⟩) 1 1] (w1.alloc (.cells #[.int .u8 ((longerR x).f : Int), .int .u64 ((longerR x).a : Int), .int .u64 ((longerR x).c : Int)] 43)) fun e w' => e = .returned (.bool (heldOne held (longerR x))) ∧ RowKit.Below w1.heap.size w1 w') := fun w1 hw => by
    have hal : RowKit.Below w1.heap.size w1 (w1.alloc (.cells #[.int .u8 ((longerR x).f : Int), .int .u64 ((longerR x).a : Int), .int .u64 ((longerR x).c : Int)] 43)) := (RowKit.Below.refl _ _).alloc (Nat.le_refl _) _
    have := held_any A n c held (some ⟨w1.heap.size, 0, none⟩) 1 1 [longerR x] _ hl ((h.on hw).on hal) rfl (by omega) ((lies_new w1 #[.int .u8 ((longerR x).f : Int), .int .u64 ((longerR x).a : Int), .int .u64 ((longerR x).c : Int)] 43).more (by simp))
    refine this.mono fun e w' ⟨he, hb⟩ => ⟨?_, hal.trans (hb.mono hal.size)⟩
    rw [he]
    simp [heldB]
  generalize heldOne held (longerR x) = R at HH ⊢
  generalize longerR x = y at hlg HH
  unfold valRn
  have HLG := Lib.hid hlg
  clear hl h hlg
  go_enter Try.func37, Try.ntmps37
  go_wp2_with fail
  generalize hw0 : World.alloc W _ = w0
  obtain ⟨hs0, hG, hcc⟩ := box1 W w0 _ _ hw0
  have k0 : ∀ W', RowKit.Below w0.heap.size w0 W' → W'.cell? ⟨W.heap.size, 0, none⟩ = some (.int .u8 x.f) := fun W' hb => (hb.cell (p := ⟨W.heap.size, 0, none⟩) (by show W.heap.size < w0.heap.size; omega)).trans (hcc 0 _ rfl)
  have k1 : ∀ W', RowKit.Below w0.heap.size w0 W' → W'.cell? ⟨W.heap.size, 1, none⟩ = some (.int .u64 x.a) := fun W' hb => (hb.cell (p := ⟨W.heap.size, 1, none⟩) (by show W.heap.size < w0.heap.size; omega)).trans (hcc 1 _ rfl)
  have k2 : ∀ W', RowKit.Below w0.heap.size w0 W' → W'.cell? ⟨W.heap.size, 2, none⟩ = some (.int .u64 x.c) := fun W' hb => (hb.cell (p := ⟨W.heap.size, 2, none⟩) (by show W.heap.size < w0.heap.size; omega)).trans (hcc 2 _ rfl)
  have k3 : ∀ W', RowKit.Below w0.heap.size w0 W' → W'.cell? ⟨b, 0, none⟩ = some (.slice A n c) := fun W' hb => (hb.cell (p := ⟨b, 0, none⟩) (by show b < w0.heap.size; omega)).trans ((hG.below.cell (p := ⟨b, 0, none⟩) hbl).trans hcell)
  have hbd : RowKit.Below w0.heap.size w0 w0.drew := (RowKit.Below.refl _ _).drew
  have HB0 : Hid (RowKit.Below W.heap.size W w0) := hG.below
  clear hcc hw0 hG hcell hs0
  refine wp_region_held_drew (S := fun W => RowKit.Below w0.heap.size w0 W) (by kernel_rfl) hbd (fun hHeld => ?_)
  refine wpAnyH_takeAt (i := 0) (d := 4) (v := ?_) rfl rfl (by kernel_rfl) (by kernel_rfl) (by kernel_rfl) (fun _ _ _ h => h) (Or.inl ⟨by rfl, ?_⟩) hHeld ?_
  rotate_left
  · (intro _ hSw; go_simp; try with_reducible rfl)
  simp only [List.setIfInBounds_toArray, List.set_cons_zero, List.set_cons_succ]
  refine wpAnyH_takeAt (i := 1) (d := 5) (v := ?_) rfl rfl (by kernel_rfl) (by kernel_rfl) (by kernel_rfl) (fun _ _ _ h => h) (Or.inl ⟨by rfl, ?_⟩) hHeld ?_
  rotate_left
  · (intro _ hSw; go_simp; try with_reducible rfl)
  simp only [List.setIfInBounds_toArray, List.set_cons_zero, List.set_cons_succ]
  refine wpAnyH_ready (rs := [2]) (by kernel_rfl) (by simp) ?_
  refine AllReadyH.cons rfl (fun K hK => ?_) AllReadyH.nil
  go_simp
  refine (HLG.out _).mono ?_
  rintro e w1 ⟨rfl, hg1⟩
  dsimp only
  have hb1 : RowKit.Below w0.heap.size w0 w1 := hbd.trans hg1.below
  refine hK.out _ _ hb1 (fun hHeld => ?_)
  clear hK K
  refine wpAnyH_ready (rs := [3]) (by kernel_rfl) (by simp) ?_
  refine AllReadyH.cons rfl (fun K hK => ?_) AllReadyH.nil
  go_simp
  refine hK.out _ _ (hb1.alloc hb1.size _) (fun hHeld => ?_)
  clear hK K
  refine wpAnyH_ready (rs := [4]) (by kernel_rfl) (by simp) ?_
  refine AllReadyH.cons rfl (fun K hK => ?_) AllReadyH.nil
  go_simp
  refine (HH.out w1 (HB0.out.trans (hb1.mono HB0.out.size))).mono ?_
  rintro e w2 ⟨rfl, hb2⟩
  dsimp only
  refine hK.out _ _ (hb1.trans (hb2.mono hb1.size)) (fun hHeld => ?_)
  clear hK K
  refine wpAnyH_takeAt (i := 5) (d := 3) (v := ?_) rfl rfl (by kernel_rfl) (by kernel_rfl) (by kernel_rfl) (fun _ _ _ h => h) (Or.inl ⟨by rfl, ?_⟩) hHeld ?_
  rotate_left
  · (intro _ hSw; go_simp; try with_reducible rfl)
  simp only [List.setIfInBounds_toArray, List.set_cons_zero, List.set_cons_succ]
  refine wpAnyH_done (by kernel_rfl) ?_ _
  clear k0 k1 k2 k3
  go_wp2
  go_ret
  exact ⟨rfl, HB0.out.trans ((hb1.trans (hb2.mono hb1.size)).mono HB0.out.size)⟩

end Go.Proofs.Ytfkpffkickicmaa
