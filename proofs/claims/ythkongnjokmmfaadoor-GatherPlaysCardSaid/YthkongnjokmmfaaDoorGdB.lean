/- Stage 13: the document's find, First, full (the door seat alone). -/
import Derived.Test.YthkongnjokmmfaaDoorGdA
set_option maxRecDepth 20000
namespace Go.Proofs.YthkongnjokmmfaaDoor
open Go.RowKit Go.Sort

theorem idxP_eq : ∀ (l : List Part) (k : Nat) (hk : k < l.length) (x : Id), l[k].id = x → (∀ j, (hj : j < l.length) → j < k → l[j].id ≠ x) → idxP l x = k
  | p :: r, 0, _, x, e, _ => by
    have e' : p.id = x := e
    rw [idxP, if_pos e']
  | p :: r, k + 1, hk, x, e, h => by
    have h0 : p.id ≠ x := h 0 (by simp) (by omega)
    rw [idxP, if_neg h0, idxP_eq r k (by simpa using hk) x e fun j hj hjk => h (j + 1) (by simpa using hj) (by omega)]
theorem idxP_miss : ∀ (l : List Part) (x : Id), (∀ j, (hj : j < l.length) → l[j].id ≠ x) → idxP l x = l.length
  | [], _, _ => rfl
  | p :: r, x, h => by
    have h0 : p.id ≠ x := h 0 (by simp)
    rw [idxP, if_neg h0, idxP_miss r x fun j hj => h (j + 1) (by simpa using hj)]
    rfl
/-- What find answers. -/
def fndZ (l : List Part) (x : Id) : Int := if idxP l x < l.length then ((idxP l x : Nat) : Int) else -1

section
variable {w : World} {D : Nat → Prop} {A : Option Addr} {n c : Nat} {R : List Rp} {m : Gm}
set_option maxHeartbeats 800000 in
theorem refFind_any (h : RgAt w D A n c R m) (hn : n ≤ 1000000) (x : Id) : Calls Tryd.prog 26 #[.agg (rgCells (.slice A n c) m), valId x] w fun e w' => e = .returned (.int .i64 (fndZ m.l x)) ∧ RowKit.Below w.heap.size w w' := by
  have HR := Lib.hid h
  have hl := h.len
  have HAT : Hid (∀ i, (hi : i < R.length) → (hm : i < m.l.length) → m.l[i] = R[i].x) := fun i hi _ => h.at_ hi
  have hml := h.mlen
  clear h
  have hgd := guardId
  unfold rgCells valId
  go_enter Tryd.func26, Tryd.ntmps26
  go_wp2_with fail
  generalize hw0 : World.alloc (World.alloc w _) _ = w0
  obtain ⟨hs0, hG, hcc, hdd⟩ := box2 w w0 _ _ _ _ hw0
  have hb0 : RowKit.Below w.heap.size w w0 := hG.below
  have x3 := Lib.hid (hcc 3 _ rfl)
  have i0 := Lib.hid (hdd 0 _ rfl)
  have i1 := Lib.hid (hdd 1 _ rfl)
  have HB := Lib.hid hb0
  have z3 := hcc 3 _ rfl
  clear hcc hdd hw0 hG hb0
  go_wp2_with fail
  clear z3
  go_loopw [5, 9] (fun _ s9 wr => ∃ k : Nat, k ≤ n ∧ s9 = .int .i64 (k : Int) ∧ RowKit.Below w0.heap.size w0 wr ∧ Hid (∀ j, (hj : j < R.length) → j < k → R[j].x.id ≠ x)) (fun _ s9 _ => n - (intOf s9).toNat)
  case atStart => exact ⟨0, Nat.zero_le _, rfl, RowKit.Below.refl _ _, fun j _ h => absurd h (Nat.not_lt_zero _)⟩
  case round =>
    obtain ⟨k, hk, rfl, hb, hK⟩ := hrel
    have HBW := Lib.hid (HB.out.trans (hb.mono HB.out.size))
    by_cases hlt : k < n
    · have hkR : k < R.length := by omega
      have y3 := (hb.cell (p := ⟨w.heap.size, 3, none⟩) (by show w.heap.size < w0.heap.size; omega)).trans x3.out
      have j0 := (hb.cell (p := ⟨w.heap.size + 1, 0, none⟩) (by show w.heap.size + 1 < w0.heap.size; omega)).trans i0.out
      have j1 := (hb.cell (p := ⟨w.heap.size + 1, 1, none⟩) (by show w.heap.size + 1 < w0.heap.size; omega)).trans i1.out
      obtain ⟨b, off, rfl, hbl, c0, c1, -, -, -⟩ := (HR.out.on HBW.out).part hkR
      have he := fun W' => eqlId R[k].x.id x W'
      have hK' : Hid (R[k].x.id ≠ x → ∀ j, (hj : j < R.length) → j < k + 1 → R[j].x.id ≠ x) := fun hq j hj h => by
        by_cases e : j = k
        · subst e; exact hq
        · exact hK.out j hj (by omega)
      have hF : Hid (R[k].x.id = x → fndZ m.l x = (k : Int)) := fun hq => by
        have e := idxP_eq m.l k (by omega) x (by rw [HAT.out k hkR (by omega)]; exact hq) fun j hj hjk => by rw [HAT.out j (by omega) hj]; exact hK.out j (by omega) hjk
        unfold fndZ
        rw [e, if_pos (by omega)]
      have HB0 := Lib.hid hb
      clear hK hb
      by_cases hq : R[k].x.id = x
      · rw [decide_eq_true hq] at he
        have HF := Lib.hid (hF.out hq)
        clear hF hK' hq
        generalize (R[k].x.id.f : Int) = ff at c0 he
        generalize (R[k].x.id.s : Int) = ss at c1 he
        go_wp2_with fail
        go_quiet (fail)
        go_wp2
        go_ret
        exact ⟨by rw [HF.out]; rfl, below_drewN HBW.out _⟩
      · rw [decide_eq_false hq] at he
        have HF := Lib.hid (hK'.out hq)
        clear hF hK' hq
        generalize (R[k].x.id.f : Int) = ff at c0 he
        generalize (R[k].x.id.s : Int) = ss at c1 he
        go_wp2_with fail
        go_quiet (fail)
        go_wp2
        go_roundw
        case rel => exact ⟨k + 1, by omega, by go_num, below_drewN HB0.out _, HF.out⟩
        case measure => simp [intOf]; omega
    · have hF : Hid (fndZ m.l x = -1) := by
        have e := idxP_miss m.l x fun j hj => by rw [HAT.out j (by omega) hj]; exact hK.out j (by omega) (by omega)
        show fndZ m.l x = -1
        unfold fndZ
        rw [e, if_neg (by omega)]
      clear hK hb
      go_wp2
      go_ret
      exact ⟨by rw [hF.out]; rfl, HBW.out⟩
end

end Go.Proofs.YthkongnjokmmfaaDoor
