/- Stage 14: the walk of Held. -/
import Derived.Test.YtnpdjlcekmpmoaaSoI
set_option maxRecDepth 20000
namespace Go.Proofs.Ytnpdjlcekmpmoaa
open Go.RowKit Go.Sort Go.Maps

/-- Held, when the first k are done. -/
def heldK (m : Sm) (k : Nat) : List Nat := (List.range m.n).map fun i => if i < k then heldN m.l i (num m.fl i) else num m.fl i
theorem heldK_length (m : Sm) (k : Nat) : (heldK m k).length = m.n := by simp [heldK]
theorem heldK_zero {m : Sm} (h : m.Ok) : heldK m 0 = m.fl := by
  refine List.ext_getElem (by rw [heldK_length, h.fl]) fun i h1 h2 => ?_
  simp [heldK, num_in h2]
theorem heldK_all (m : Sm) : heldK m m.n = m.held := by
  unfold heldK Sm.held
  refine List.map_congr_left fun i hi => ?_
  rw [if_pos (List.mem_range.1 hi)]
theorem heldK_at {m : Sm} {k : Nat} (hk : k < m.n) : (heldK m k)[k]? = some (num m.fl k) := by
  rw [List.getElem?_eq_getElem (by rw [heldK_length]; exact hk)]
  simp [heldK]
theorem heldK_next {m : Sm} {k : Nat} (hk : k < m.n) : (heldK m k).set k (heldN m.l k (num m.fl k)) = heldK m (k + 1) := by
  refine List.ext_getElem (by simp [heldK]) fun i h1 h2 => ?_
  by_cases e : i = k
  · subst e
    simp [heldK]
  · rw [List.getElem_set_ne (fun h => e h.symm)]
    simp only [heldK, List.getElem_map, List.getElem_range]
    by_cases h : i < k
    · rw [if_pos h, if_pos (by omega)]
    · rw [if_neg h, if_neg (by omega)]
theorem heldK_start {m : Sm} {k : Nat} (hk : k < m.n) : (heldK m k).set k (num m.fl k) = heldK m k := by
  refine List.ext_getElem (by simp) fun i h1 h2 => ?_
  by_cases e : i = k
  · subst e
    simp [heldK]
  · rw [List.getElem_set_ne (fun h => e h.symm)]

def cellN (w : World) (b o : Nat) : Nat := match w.cell? ⟨b, o, none⟩ with
  | some (.int _ x) => x.toNat
  | _ => 0

/-- Inside: the k-th is at cur. -/
structure HeldS (m : Sm) (w : World) (g hb n c k cur : Nat) (wr : World) : Prop where
  own : wr.ownsRow w.heap.size 31 1 (.slice (some ⟨hb, 0, none⟩) n c) n (uvs ((heldK m k).set k cur))
  below : RowKit.Below w.heap.size w wr
  ge : num m.fl k ≤ cur
  all : ∀ s, num m.fl k < s → s ≤ cur → hasS m.l k s = true
  top : cur ≤ MaxS

section
variable {w wr w' : World} {m : Sm} {g hb n c k cur : Nat}
theorem HeldS.cell (h : HeldS m w g hb n c k cur wr) (hk : k < m.n) (hn : m.n = n) : wr.cell? ⟨hb, k, none⟩ = some (.int .u64 (cur : Int)) := by
  rw [h.own.cellAt k (by omega)]
  have hl : k < (heldK m k).length := by rw [heldK_length]; exact hk
  simp [uvs, uv, hl]
theorem HeldS.step (h : HeldS m w g hb n c k cur wr) (hb' : RowKit.Below wr.heap.size wr w') (hm : m.Ok) (hh : hasS m.l k (cur + 1) = true) : HeldS m w g hb n c k (cur + 1) (w'.setCell ⟨hb, k, none⟩ (.int .u64 ((cur : Int) + 1))) := by
  have h1 := (own_below h.own hb').stored k (.int .u64 ((cur + 1 : Nat) : Int))
  have h2 := h1.1
  rw [← uvs_set, List.set_set] at h2
  have hlt := h.own.lt hb rfl
  exact {
    own := h2
    below := (h.below.trans (hb'.mono h.below.size)).setCell (p := ⟨hb, k, none⟩) hlt.1 _
    ge := Nat.le_succ_of_le h.ge
    all := fun s h1 h2 => by
      by_cases e : s = cur + 1
      · rw [e]; exact hh
      · exact h.all s h1 (by omega)
    top := (hm.seq hh).2.2 }
end

section
variable {w : World} {base g mb fb : Nat} {m : Sm} {D : Nat → Prop}
set_option maxHeartbeats 1600000 in
theorem held_any (h : StAt w base g mb fb m D) : Calls Try.prog 17 #[sptr g] w (OwnedV w w.heap.size m.held) := by
  have HF := Lib.hid (floor_any h)
  have HT : Hid (∀ W, RowKit.Below w.heap.size w W → ∀ k cur : Nat, k < m.n → cur ≤ MaxS → Calls Try.prog 31 #[.pointer (some ⟨g, 0, none⟩), .agg #[.int .u8 (k : Int), .int .u64 ((cur : Int) + 1)]] W fun e w' => e = .returned (.bool (hasS m.l k (cur + 1))) ∧ RowKit.Below W.heap.size W w') :=
    fun W hW k cur hk hc => there_lit (h.on hW) ⟨k, cur + 1, by have := h.ok.n2; omega, by unfold MaxS at hc; omega⟩
  have HO := Lib.hid h.ok
  have hn1 := h.ok.n1
  have hn2 := h.ok.n2
  obtain ⟨n, hn⟩ : ∃ n, m.n = n := ⟨_, rfl⟩
  have HN := Lib.hid hn
  rw [hn] at hn1 hn2
  clear h hn
  unfold sptr at HF ⊢
  go_enter Try.func17, Try.ntmps17
  go_wp2_with (go_at_call 16; refine HF.out.mono ?_; rintro e w1 ⟨A, n', c, rfl, hl, hnc, hcm, ho, hb1⟩)
  obtain rfl : n = n' := by
    have := HO.out.fl
    have := hl.out
    have := HN.out
    omega
  obtain ⟨hb, rfl⟩ : ∃ hb, A = some ⟨hb, 0, none⟩ := by
    rcases ho.2 with ⟨-, h0⟩ | ⟨gg, cap, cur, e, -⟩
    · omega
    · injection e with e
      exact ⟨gg, e⟩
  rw [← heldK_zero HO.out] at ho
  have HOW := Lib.hid ho
  have HB1 := Lib.hid hb1
  clear ho hb1 hl HF
  go_wp2
  go_loopw [9] (fun s9 wr => ∃ k : Nat, k ≤ n ∧ s9 = .int .i64 (k : Int) ∧ Hid (wr.ownsRow w.heap.size 31 1 (.slice (some ⟨hb, 0, none⟩) n c) n (uvs (heldK m k))) ∧ Hid (RowKit.Below w.heap.size w wr)) (fun s9 _ => n - (intOf s9).toNat)
  case atStart => exact ⟨0, Nat.zero_le _, rfl, HOW, HB1⟩
  case round =>
    obtain ⟨k, hk, rfl, hO, hB⟩ := hrel
    clear HOW HB1
    by_cases hlt : k < n
    · have hkn : k < m.n := by rw [HN.out]; exact hlt
      have hK256 : (k : Int) % 256 = (k : Int) := by omega
      have hS0 : Hid (HeldS m w g hb n c k (num m.fl k) wr) := ⟨by rw [heldK_start hkn]; exact hO.out, hB.out, Nat.le_refl _, fun s h1 h2 => absurd h1 (by omega), num_le HO.out.top k⟩
      clear hO hB
      go_wp2
      go_loopw [12] (fun _ w2 => ∃ cur : Nat, Hid (HeldS m w g hb n c k cur w2)) (fun _ w2 => num m.fl k + m.l.length - cellN w2 hb k)
      case atStart => exact ⟨_, hS0⟩
      case round =>
        obtain ⟨cur, hS⟩ := hrel
        clear hS0
        have c0 := hS.out.cell hkn HN.out
        have f0 := hS.out.own.frozenAt k
        have hcall := HT.out wr hS.out.below k cur hkn hS.out.top
        have hcm2 : cur + 1 < 18446744073709551616 := by have := hS.out.top; unfold MaxS at this; omega
        have hlt2 : hb < wr.heap.size := (hS.out.own.lt hb rfl).2
        have hstep : Hid (∀ w', RowKit.Below wr.heap.size wr w' → hasS m.l k (cur + 1) = true → HeldS m w g hb n c k (cur + 1) (w'.setCell ⟨hb, k, none⟩ (.int .u64 ((cur : Int) + 1)))) := fun w' hb' hh => hS.out.step hb' HO.out hh
        have hend : Hid (∀ w', RowKit.Below wr.heap.size wr w' → hasS m.l k (cur + 1) = false → w'.ownsRow w.heap.size 31 1 (.slice (some ⟨hb, 0, none⟩) n c) n (uvs (heldK m (k + 1))) ∧ RowKit.Below w.heap.size w w') := fun w' hb' hh => by
          have hh2 := heldN_is hS.out.ge hS.out.all hh
          refine ⟨?_, hS.out.below.trans (hb'.mono hS.out.below.size)⟩
          rw [← heldK_next hkn, hh2]
          exact own_below hS.out.own hb'
        have hmz : Hid (hasS m.l k (cur + 1) = true → cur < num m.fl k + m.l.length) := fun hh => by
          have := run_le (l := m.l) (f := k) (n := num m.fl k) (k := cur + 1 - num m.fl k) fun s h1 h2 => by
            by_cases e : s = cur + 1
            · rw [e]; exact hh
            · exact hS.out.all s h1 (by have := hS.out.ge; omega)
          have := hS.out.ge
          omega
        have hcn : Hid (cellN wr hb k = cur) := by show cellN wr hb k = cur; unfold cellN; rw [c0]; simp
        generalize hasS m.l k (cur + 1) = q at hcall hstep hend hmz
        clear hS
        cases q with
        | true =>
          go_wp2_with fail
          refine hcall.mono ?_
          rintro e w3 ⟨rfl, hb3⟩
          have c3 := (hb3.cell (p := ⟨hb, k, none⟩) hlt2).trans c0
          have f3 : w3.frozen? ⟨hb, k, none⟩ = false := (hb3.frozen (p := ⟨hb, k, none⟩) hlt2).trans f0
          have hS := Lib.hid (hstep.out w3 hb3 (by simp))
          clear hcall hb3 hstep hend c0 f0
          go_wp2
          go_roundw
          case rel => exact ⟨_, hS⟩
          case measure =>
            have c4 := hS.out.cell hkn HN.out
            have h1 := hmz.out (by simp)
            have h2 := hcn.out
            rw [h2]
            unfold cellN
            rw [c4]
            simp
            omega
        | false =>
          go_wp2_with fail
          refine hcall.mono ?_
          rintro e w3 ⟨rfl, hb3⟩
          have hS := Lib.hid (hend.out w3 hb3 (by simp))
          clear hcall hb3 hstep hend c0 f0
          go_wp2
          go_roundw
          case rel => exact ⟨k + 1, by omega, by go_num, hS.out.1, hS.out.2⟩
          case measure => simp [intOf]; omega
    · have hke : k = m.n := by rw [HN.out]; omega
      have hO' : Hid (OwnedV w w.heap.size m.held (.returned (.slice (some ⟨hb, 0, none⟩) n c)) wr) := ⟨_, _, _, rfl, by show _ = _; rw [Sm.held_length, HN.out], hnc, hcm, by rw [← heldK_all, ← hke]; exact hO.out, hB.out⟩
      clear hO hB
      go_wp2
      go_ret
      exact hO'.out
end

end Go.Proofs.Ytnpdjlcekmpmoaa
