/- Acked. -/
import Derived.Test.YtbkkpimhoeagdaaSlJ
namespace Go.Proofs.Ytbkkpimhoeagdaa
open Go.RowKit Go.Sort
set_option maxRecDepth 20000

/-- How many are acknowledged. -/
def ackN (last n upto : Nat) : Nat := if upto ≤ last then upto + 1 - firstN last n else 0
theorem ackN_le (last n upto : Nat) (h : n ≤ last) : ackN last n upto ≤ n := by
  unfold ackN firstN
  split <;> omega

section
variable {w : World} {base p : Nat} {T : Value} {width last : Nat} {l : List Pf} {D : Nat → Prop}

/-- What a window is behind an Acked. -/
def AckedW (w : World) (base p : Nat) (T : Value) (width last : Nat) (l : List Pf) (D : Nat → Prop) (w' : World) : Prop :=
  ∃ T', WinAt w' base p T' width last l D ∧ OnlyE w w' (WD p T) ∧ (∀ b, T'.ownBlock = some b → T.ownBlock = some b)

theorem WinAt.dropped {w1 : World} {g c j : Nat} (h : WinAt w base p (.slice (some ⟨g, 0, none⟩) l.length c) width last l D) (hj : j ≤ l.length)
    (ho : w1.ownsRow base 44 16 (.slice (some ⟨g, 0, none⟩) (l.length - j) c) (l.length - j) ((flat encPf l).drop (j * 16))) (hg : w.grownBy w1 (some g)) :
    WinAt (w1.setCell ⟨p, 0, none⟩ (.slice (some ⟨g, 0, none⟩) (l.length - j) c)) base p (.slice (some ⟨g, 0, none⟩) (l.length - j) c) width last (l.drop j) D ∧
      OnlyE w (w1.setCell ⟨p, 0, none⟩ (.slice (some ⟨g, 0, none⟩) (l.length - j) c)) (WD p (.slice (some ⟨g, 0, none⟩) l.length c)) ∧ w1.cell? ⟨p, 0, none⟩ = some (.slice (some ⟨g, 0, none⟩) l.length c) ∧ w1.frozen? ⟨p, 0, none⟩ = false := by
  have hpg : p ≠ g := fun e => h.ne_row (g := g) rfl e.symm
  have hbl : w1.heap[p]? = w.heap[p]? := hg.block p h.plt (by intro e; injection e with e; exact hpg e)
  have hO : OnlyE w (w1.setCell ⟨p, 0, none⟩ (.slice (some ⟨g, 0, none⟩) (l.length - j) c)) (WD p (.slice (some ⟨g, 0, none⟩) l.length c)) := (OnlyE.of_grown (D := WD p (.slice (some ⟨g, 0, none⟩) l.length c)) hg (.inr rfl)).trans (onlyE_set (.inl rfl) 0 _)
  have hl : (l.drop j).length = l.length - j := List.length_drop
  refine ⟨?_, hO, (World.cell?_of_block (a := ⟨p, 0, none⟩) hbl).trans h.c0, (World.frozen?_of_block (a := ⟨p, 0, none⟩) hbl).trans (h.fr 0)⟩
  exact
  { box := heap_setCell_same w1 p 0 _ _ _ (hbl.trans h.box)
    row := by
      rw [flat_drop encPf_len l j hj] at ho
      rw [hl]
      exact own_only ho (onlyE_set (D := fun k => k = p) rfl 0 _) fun b hb e => by
        injection hb with hb
        exact hpg (e.symm.trans hb.symm)
    frs := fun x hx => (h.frs x (List.mem_of_mem_drop hx)).kept (hO.mono fun k hk => h.dw k hk)
    oks := fun x hx => h.oks x (List.mem_of_mem_drop hx)
    seqs := fun i hi => by
      rw [List.getElem_drop]
      rw [hl] at hi ⊢
      have := h.seqs (j + i) (by omega)
      omega
    dw := fun b hb => h.dw b (hb.imp id fun e => e)
    din := fun b hb => ⟨(h.din b hb).1, Nat.lt_of_lt_of_le (h.din b hb).2 hO.size⟩
    fit := by rw [hl]; have := h.fit; omega
    fit2 := by rw [hl]; have := h.fit2; omega
    wid1 := h.wid1, wid2 := h.wid2, low := h.low }

theorem WinAt.acked0 (h : WinAt w base p T width last l D) {w1 : World} (hb : RowKit.Below w.heap.size w w1) : AckedW w base p T width last (l.drop 0) D w1 := ⟨T, h.on hb, OnlyE.of_below hb, fun _ => id⟩

set_option maxHeartbeats 800000 in
theorem acked_any (h : WinAt w base p T width last l D) (upto : Nat) : Calls Try.prog 34 #[.pointer (some ⟨p, 0, none⟩), .int .u64 (upto : Int)] w fun e w' =>
    e = .returned (.int .i64 (ackN last l.length upto : Int)) ∧ AckedW w base p T width last (l.drop (ackN last l.length upto)) D w' := by
  have hlast := h.low
  have hf2 := h.fit2
  have hfit := h.fit
  have hwid := h.wid2
  have hd0 : ((some ⟨p, 0, none⟩ : Option Addr) == none) = false := rfl
  have HF : Hid (∀ W, RowKit.Below w.heap.size w W → Calls Try.prog 44 #[.pointer (some ⟨p, 0, none⟩)] W fun e w' => e = .returned (.int .u64 (firstN last l.length : Int)) ∧ RowKit.Below W.heap.size W w') := fun W hW => first_any (h.on hW)
  have H := Lib.hid h
  have hfn : firstN last l.length = last + 1 - l.length := rfl
  by_cases h1 : upto < firstN last l.length
  · have e0 : ackN last l.length upto = 0 := by unfold ackN; split <;> omega
    rw [e0]
    have d1 : decide ((upto : Int) < (firstN last l.length : Int)) = true := by simp; omega
    clear h hfn e0
    generalize firstN last l.length = fs at HF d1 h1
    go_enter Try.func34, Try.ntmps34
    go_wp2_with fail
    refine (HF.out w (RowKit.Below.refl _ _)).mono ?_
    rintro e w1 ⟨rfl, hb1⟩
    have HB := Lib.hid hb1
    clear hb1
    go_wp2
    go_ret
    exact ⟨rfl, H.out.acked0 HB.out⟩
  · have d1 : decide ((upto : Int) < (firstN last l.length : Int)) = false := by simp; omega
    by_cases h2 : upto ≤ last
    · have e0 : ackN last l.length upto = upto + 1 - firstN last l.length := by unfold ackN; rw [if_pos h2]
      have hjl : ackN last l.length upto ≤ l.length := ackN_le _ _ _ hf2
      have hj1 : 1 ≤ ackN last l.length upto := by omega
      have d2 : decide ((last : Int) < (upto : Int)) = false := by simp; omega
      have HE : Hid ((upto : Int) - (firstN last l.length : Int) + 1 = (ackN last l.length upto : Int)) := by show _ = _; omega
      obtain ⟨g, c, rfl, -, -⟩ := h.row.form (by omega)
      obtain ⟨A', c', e, hnc, hcm⟩ := h.slice
      injection e with e1 e2 e3
      subst e3
      clear e1 e2
      have HDL : Hid (∀ W, RowKit.Below w.heap.size w W → Calls Try.prog 45 #[.slice (some ⟨g, 0, none⟩) l.length c, .int .i64 0, .int .i64 (ackN last l.length upto : Int)] W fun e w' =>
          e = .returned (.slice (some ⟨g, 0, none⟩) (l.length - ackN last l.length upto) c) ∧ w'.ownsRow base 44 16 (.slice (some ⟨g, 0, none⟩) (l.length - ackN last l.length upto) c) (l.length - ackN last l.length upto) ((flat encPf l).drop (ackN last l.length upto * 16)) ∧ W.grownBy w' (some g)) := fun W hW =>
        delete_walk g l.length c base 0 (ackN last l.length upto) (l.length - ackN last l.length upto) (flat encPf l) W rfl rfl hj1 hjl (by omega) hnc hcm (by omega) h.one (h.on hW).row
      have k1 : firstN last l.length ≤ upto := by omega
      have k2 : firstN last l.length ≤ 1000000 := by omega
      have k3 : upto ≤ 1000000 := by omega
      have k4 : ackN last l.length upto ≤ 1000000 := by omega
      clear h hfn e0 hj1
      generalize hN : l.length = n at *
      have HN := Lib.hid hN
      generalize hJ : ackN last n upto = j at *
      have HJ := Lib.hid hJ
      generalize firstN last n = fs at *
      clear hN hJ hjl hnc hcm hf2 hfit h1
      go_enter Try.func34, Try.ntmps34
      go_wp2_with fail
      refine (HF.out w (RowKit.Below.refl _ _)).mono ?_
      rintro e w1 ⟨rfl, hb1⟩
      have HB1 := Lib.hid hb1
      have c2 := (H.out.on hb1).c2
      clear hb1
      go_wp2_with fail
      refine (HF.out w1 HB1.out).mono ?_
      rintro e w2 ⟨rfl, hb2⟩
      have HB2 : Hid (RowKit.Below w.heap.size w w2) := HB1.out.trans (hb2.mono HB1.out.size)
      have c0 := (H.out.on HB2.out).c0
      clear hb2 c2
      have he := HE.out
      go_wp2_with fail
      refine (HDL.out w2 HB2.out).mono ?_
      rintro e w3 ⟨rfl, ho3, hg3⟩
      have hj2 : j ≤ l.length := by rw [← HJ.out, HN.out]; exact ackN_le _ _ _ (by have := H.out.fit2; rw [HN.out] at this; exact this)
      have hw2 := H.out.on HB2.out
      rw [← HN.out] at hw2 ho3
      obtain ⟨hR, hO, d0, f0⟩ := hw2.dropped hj2 ho3 hg3
      rw [HN.out] at hR hO d0
      have HR := Lib.hid hR
      have HO : Hid (OnlyE w _ _) := (OnlyE.of_below HB2.out).trans hO
      clear hR hO ho3 hg3 hw2 c0 he hj2
      go_wp2
      go_ret
      exact ⟨rfl, _, HR.out, HO.out, fun _ h => h⟩
    · have e0 : ackN last l.length upto = 0 := by unfold ackN; rw [if_neg h2]
      rw [e0]
      have d2 : decide ((last : Int) < (upto : Int)) = true := by simp; omega
      have hlt : last < upto := by omega
      have hd1 : decide (upto < firstN last l.length) = false := by simpa using h1
      clear h hfn e0 h2
      generalize firstN last l.length = fs at HF d1 h1 hd1
      go_enter Try.func34, Try.ntmps34
      go_wp2_with fail
      refine (HF.out w (RowKit.Below.refl _ _)).mono ?_
      rintro e w1 ⟨rfl, hb1⟩
      have HB := Lib.hid hb1
      have c2 := (H.out.on hb1).c2
      clear hb1
      go_wp2
      go_ret
      exact ⟨rfl, H.out.acked0 HB.out⟩
end

end Go.Proofs.Ytbkkpimhoeagdaa
