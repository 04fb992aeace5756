/- Stage 14: the document's Held. -/
import Derived.Test.YtnpdjlcekmpmoaaSpC
set_option maxRecDepth 20000
namespace Go.Proofs.Ytnpdjlcekmpmoaa
open Go.RowKit Go.Sort Go.Maps

/-- Where the count stands: it goes on, or it has stopped. -/
def CntS (m : Sm) (i k n : Nat) (more : Bool) : Prop := (more = true ∧ n = num m.fl i + k ∧ ∀ s, num m.fl i < s → s ≤ n → hasS m.l i s = true) ∨ (more = false ∧ n = heldN m.l i (num m.fl i))
theorem CntS.start (m : Sm) (i : Nat) : CntS m i 0 (num m.fl i) true := .inl ⟨rfl, rfl, fun s h1 h2 => absurd h1 (by omega)⟩
theorem CntS.le {m : Sm} {i k n : Nat} (h : CntS m i k n true) : k ≤ m.l.length := by
  rcases h with ⟨-, rfl, h⟩ | ⟨h, -⟩
  · exact run_le (f := i) (n := num m.fl i) h
  · cases h
theorem CntS.top {m : Sm} {i k n : Nat} {more : Bool} (h : CntS m i k n more) (hm : m.Ok) : n ≤ MaxS := by
  rcases h with ⟨-, rfl, h⟩ | ⟨-, rfl⟩
  · rcases Nat.eq_zero_or_pos k with h0 | h0
    · subst h0
      have := num_le hm.top i
      omega
    · exact (hm.seq (h (num m.fl i + k) (by omega) (Nat.le_refl _))).2.2
  · exact hm.held_le i
theorem CntS.yes {m : Sm} {i k n : Nat} (h : CntS m i k n true) (hh : hasS m.l i (n + 1) = true) : CntS m i (k + 1) (n + 1) true := by
  rcases h with ⟨-, rfl, h⟩ | ⟨h, -⟩
  · refine .inl ⟨rfl, by omega, fun s h1 h2 => ?_⟩
    by_cases e : s = num m.fl i + k + 1
    · rw [e]; exact hh
    · exact h s h1 (by omega)
  · cases h
theorem CntS.no {m : Sm} {i k n : Nat} (h : CntS m i k n true) (hh : hasS m.l i (n + 1) = false) : CntS m i (k + 1) n false := by
  rcases h with ⟨-, rfl, h⟩ | ⟨h, -⟩
  · exact .inr ⟨rfl, (heldN_is (by omega) h hh).symm⟩
  · cases h
theorem CntS.done {m : Sm} {i k n : Nat} (h : CntS m i k n false) : n = heldN m.l i (num m.fl i) := by
  rcases h with ⟨h, -⟩ | ⟨-, h⟩
  · cases h
  · exact h

section
variable {w : World} {D : Nat → Prop} {A A2 : Option Addr} {c c2 : Nat} {m : Sm}
set_option maxHeartbeats 3200000 in
theorem refHeld_any (h : RsAt w D A c A2 c2 m) (hm : m.Ok) (hlen : m.l.length ≤ 1000) : Calls Try.prog 18 #[.agg (rsCells A c A2 c2 m)] w (OwnedV w w.heap.size m.held) := by
  have HM := Lib.hid hm
  have HG : Hid (∀ W, RowKit.Below w.heap.size w W → ∀ i s : Nat, i < 64 → s ≤ MaxS → Calls Try.prog 27 #[.agg #[.int .i64 (m.n : Int), .int .i64 (m.room : Int), .slice A m.l.length c, .slice A2 m.n c2], .agg #[.int .u8 (i : Int), .int .u64 ((s : Int) + 1)]] W fun e w' => ∃ b, e = .returned (.tuple #[.string b, .bool (hasS m.l i (s + 1))]) ∧ RowKit.Below W.heap.size W w') := by
    intro W hW i s hi hs
    have := refGet_any (h.on hW) ⟨i, s + 1, by omega, by unfold MaxS at hs; omega⟩
    refine this.mono ?_
    rintro e w' ⟨rfl, hb⟩
    exact ⟨_, rfl, hb⟩
  have HF : Hid (Lies w w.heap.size A2 (uvs m.fl)) := h.floors.lies
  have hn1 := hm.n1
  have hn2 := hm.n2
  have HFL : Hid (m.fl.length = m.n) := hm.fl
  clear h hm
  unfold rsCells
  generalize hN : m.n = N at *
  have HN := Lib.hid hN
  obtain ⟨L, hL⟩ : ∃ L, m.l.length = L := ⟨_, rfl⟩
  have HL := Lib.hid hL
  rw [hL] at HG hlen ⊢
  clear hN hL
  go_enter Try.func18, Try.ntmps18
  go_wp2_with fail
  generalize hw0 : World.alloc (World.alloc w _) _ = w0
  have hr0 : w0.heap[w.heap.size]? = some (.cells #[.int .i64 (N : Int), .int .i64 (m.room : Int), .slice A L c, .slice A2 N c2] 29 (0, 0)) := by
    subst hw0
    exact (heap_alloc_old _ _ (by simp)).trans (heap_alloc_new _ _)
  have ho0 : w0.ownsRow (w.heap.size + 1) 31 1 (.slice (some ⟨w.heap.size + 1, 0, none⟩) 0 0) 0 (uvs []) := by
    subst hw0
    have := World.ownsRow_lit (base := w.heap.size + 1) (size := 1) (e := 31) (w.alloc (.cells #[.int .i64 (N : Int), .int .i64 (m.room : Int), .slice A L c, .slice A2 N c2] 29)) #[] 0 (by simp) (Nat.zero_le _) rfl
    simpa [uvs] using this
  have hb0 : RowKit.Below w.heap.size w w0 := by
    subst hw0
    exact ((RowKit.Below.refl _ _).alloc (Nat.le_refl _) _).alloc (by simp) _
  have HB0 := Lib.hid hb0
  have HR0 := Lib.hid hr0
  have HO0 := Lib.hid ho0
  have x3 := cell_of_row w0 w.heap.size 3 _ _ _ hr0
  simp only [List.getElem?_toArray, List.getElem?_cons_succ, List.getElem?_cons_zero] at x3
  clear hw0 hr0 ho0 hb0
  go_wp2_with fail
  clear x3
  go_loopw [3, 12] (fun s3 s12 wr => ∃ i : Nat, i ≤ N ∧ s12 = .int .i64 (i : Int) ∧ Hid (wr.ownsRow (w.heap.size + 1) 31 1 s3 i (uvs (m.held.take i))) ∧ Hid (RowKit.Below w.heap.size w wr) ∧ Hid (wr.heap[w.heap.size]? = some (.cells #[.int .i64 (N : Int), .int .i64 (m.room : Int), .slice A L c, .slice A2 N c2] 29 (0, 0)))) (fun _ s12 _ => N - (intOf s12).toNat)
  case atStart => exact ⟨0, Nat.zero_le _, rfl, HO0, HB0, HR0⟩
  case round =>
    obtain ⟨i, hi, rfl, HO, HB, HR⟩ := hrel
    clear HB0 HR0 HO0
    obtain ⟨Av, cv, rfl, q1, q2⟩ := own_slice HO.out
    by_cases hlt : i < N
    · have hif : i < m.fl.length := by rw [HFL.out]; exact hlt
      obtain ⟨bf, of', rfl, hbf, cf⟩ := (HF.out.below HB.out).at_ (uvs_at hif)
      rw [← num_in hif] at cf
      have C0 := Lib.hid (CntS.start m i)
      generalize num m.fl i = fv at cf C0
      have x3 := cell_of_row wr w.heap.size 3 _ _ _ HR.out
      simp only [List.getElem?_toArray, List.getElem?_cons_succ, List.getElem?_cons_zero] at x3
      have hK256 : (i : Int) % 256 = (i : Int) := by omega
      clear hif
      go_wp2_with fail
      clear x3 cf
      obtain ⟨WK, rfl⟩ : ∃ V, V = wr := ⟨wr, rfl⟩
      go_loopw [5, 6, 7] (fun s5 s6 s7 w2 => ∃ k n : Nat, ∃ more : Bool, k ≤ L + 1 ∧ s7 = .int .i64 (k : Int) ∧ s6 = .bool more ∧ s5 = .int .u64 (n : Int) ∧ Hid (CntS m i k n more) ∧ Hid (RowKit.Below WK.heap.size WK w2)) (fun _ _ s7 _ => L + 1 - (intOf s7).toNat)
      case atStart => exact ⟨0, fv, true, by omega, rfl, rfl, rfl, C0, RowKit.Below.refl _ _⟩
      case round =>
        obtain ⟨k, n, more, hk, rfl, rfl, rfl, hC, hb2⟩ := hrel
        clear C0
        have hsz : w.heap.size < WK.heap.size := (Array.getElem?_eq_some_iff.1 HR.out).1
        have HR2 : Hid (wr.heap[w.heap.size]? = some (.cells #[.int .i64 (N : Int), .int .i64 (m.room : Int), .slice A L c, .slice (some ⟨bf, of', none⟩) N c2] 29 (0, 0))) := (hb2.out.block _ hsz).trans HR.out
        have x0 := cell_of_row wr w.heap.size 0 _ _ _ HR2.out
        have x1 := cell_of_row wr w.heap.size 1 _ _ _ HR2.out
        have x2 := cell_of_row wr w.heap.size 2 _ _ _ HR2.out
        have x3 := cell_of_row wr w.heap.size 3 _ _ _ HR2.out
        simp only [List.getElem?_toArray, List.getElem?_cons_succ, List.getElem?_cons_zero] at x0 x1 x2 x3
        have hBB : Hid (RowKit.Below w.heap.size w wr) := HB.out.trans (hb2.out.mono HB.out.size)
        cases more with
        | true =>
          have hkL : k ≤ L := by have := hC.out.le; rw [HL.out] at this; exact this
          have hdk : decide (k ≤ L) = true := decide_eq_true hkL
          have hcall := HG.out wr hBB.out i n (by omega) (hC.out.top HM.out)
          have hn64 : n + 1 < 9223372036854775809 := by have := hC.out.top HM.out; unfold MaxS at this; omega
          have hy : Hid (hasS m.l i (n + 1) = true → CntS m i (k + 1) (n + 1) true) := hC.out.yes
          have hno : Hid (hasS m.l i (n + 1) = false → CntS m i (k + 1) n false) := hC.out.no
          generalize hasS m.l i (n + 1) = q at hcall hy hno
          clear hC HR2 hBB
          cases q with
          | true =>
            go_wp2_with fail
            refine hcall.mono ?_
            rintro e w3 ⟨bb, rfl, hb3⟩
            have HC3 := Lib.hid (hy.out (by simp))
            have HB3 := Lib.hid (hb2.out.trans (hb3.mono hb2.out.size))
            clear hcall hb3 hb2 hy hno x0 x1 x2 x3
            go_wp2
            go_roundw
            case rel => exact ⟨k + 1, n + 1, true, by omega, by go_num, rfl, rfl, HC3, HB3⟩
            case measure => simp [intOf]; omega
          | false =>
            go_wp2_with fail
            refine hcall.mono ?_
            rintro e w3 ⟨bb, rfl, hb3⟩
            have HC3 := Lib.hid (hno.out (by simp))
            have HB3 := Lib.hid (hb2.out.trans (hb3.mono hb2.out.size))
            clear hcall hb3 hb2 hy hno x0 x1 x2 x3
            go_wp2
            go_roundw
            case rel => exact ⟨k + 1, n, false, by omega, by go_num, rfl, rfl, HC3, HB3⟩
            case measure => simp [intOf]; omega
        | false =>
          have ht : Hid (m.held.take i ++ [n] = m.held.take (i + 1)) := by
            show _ = _
            have hl : i < m.held.length := by rw [Sm.held_length, HN.out]; exact hlt
            rw [List.take_succ_eq_append_getElem hl, hC.out.done, ← Sm.held_num (by rw [HN.out]; exact hlt), num_in hl]
          have hO := own_below HO.out hb2.out
          have hsz2 : w.heap.size + 1 ≤ wr.heap.size := by have := hb2.out.size; omega
          clear hC HG
          cases hdk : decide (k ≤ L) <;>
          (go_wp2_with (first | (at_builtin; refine wpList_push rfl (.tmp 43) (.tmp 45) rfl (w.heap.size + 1) i (m.held.take i) n (.slice Av i cv) rfl rfl hO (by omega) hsz2 ?_) | fail)
           intro v2 w3 hO2 hb3
           rw [ht.out] at hO2
           have HO2 := Lib.hid hO2
           have HB3 := Lib.hid (hBB.out.trans (hb3.mono (by omega)))
           have HR3 := Lib.hid ((hb3.block w.heap.size (by omega)).trans HR2.out)
           clear hO hO2 hb3 x0 x1 x2 x3 HR2 hBB hb2
           go_wp2
           go_roundw
           case rel => exact ⟨i + 1, by omega, by go_num, HO2, HB3, HR3⟩
           case measure => simp [intOf]; omega)
    · have hie : i = m.held.length := by rw [Sm.held_length, HN.out]; omega
      have hq : Hid (OwnedV w w.heap.size m.held (.returned (.slice Av i cv)) wr) := ⟨_, _, _, rfl, by show _ = _; rw [hie], q1, q2, by
        have := HO.out
        rw [hie, List.take_length] at this
        rw [hie]
        exact own_base this (Nat.le_succ _), HB.out⟩
      clear HO HB HR hie
      go_wp2
      go_ret
      exact hq.out
end

end Go.Proofs.Ytnpdjlcekmpmoaa
