/- Stage 16: the walk of Drop; a list of one frame; awake. -/
import Derived.Test.YtmnjedpnhilndaaReM
set_option maxRecDepth 20000
namespace Go.Proofs.Ytmnjedpnhilndaa
open Go.RowKit Go.Sort Go.Maps

section
variable {w w' : World} {base g mb : Nat} {T : Value} {room lost : Nat} {l : List Pf} {D : Nat → Prop}
set_option maxHeartbeats 800000 in
theorem drop_any (h : QueS w base g mb T room lost (l.map Pf.pl) l D) (hlen : l.length ≤ 4096) (A : Option Addr) (n c : Nat) (vs : List Value) (ls : List (List Nat)) (hl : ls.length = n) (hn : n ≤ 1000) (hU : UpX w D A vs ls) :
    Calls Try.prog 17 #[qptr g, .slice A n c] w fun e w' => e = .returned (.int .i64 ((l.length : Int) - ((staysP (goesV ls) l).length : Int))) ∧ Went w base g mb T room D ⟨(staysP (goesV ls) l).map Pf.F, lost⟩ w' := by
  have eg : ∀ args w, (callFunc 28 args).run Try.prog w = .ok (.enter 28 args) w := enters_of Try.func28 (by kernel_rfl) rfl
  have hb0 := alloc_below w (.cells #[.slice A n c] 41)
  have hR := release_any (h.on hb0) hlen (goesV ls) 28 #[.pointer (some ⟨w.heap.size, 0, none⟩)] eg fun W hW p => by
    have hbox : (w.alloc (.cells #[.slice A n c] 41)).heap[w.heap.size]? = some (.cells #[.slice A n c] 41 (0, 0)) := heap_alloc_new _ _
    have hbox' : W.heap[w.heap.size]? = some (.cells #[.slice A n c] 41 (0, 0)) := (hW.same _ (by simp) (by have := h.mlt; omega)).trans hbox
    have hU' : UpX W D A vs ls := (hU.kept (OnlyE.of_below hb0)).kept (hW.mono fun b hb => hb ▸ h.dm)
    exact dropF_any p w.heap.size A n c vs ls W (Array.getElem?_eq_some_iff.1 hbox').1 (cell_of_row W _ 0 _ _ _ hbox') hl hn hU'.row.lies hU'.rows
  have HR : Hid (Calls Try.prog 27 #[qptr g, .func (.func 28) #[] #[.pointer (some ⟨w.heap.size, 0, none⟩)]] (w.alloc (.cells #[.slice A n c] 41)) fun e w' => e = .returned (.int .i64 ((l.length : Int) - ((staysP (goesV ls) l).length : Int))) ∧ Hid (Went w base g mb T room D ⟨(staysP (goesV ls) l).map Pf.F, lost⟩ w')) :=
    hR.mono fun e w' he => ⟨he.1, he.2.pre hb0⟩
  clear hR hb0 hU h
  generalize (staysP (goesV ls) l).length = m at HR ⊢
  generalize l.length = k at HR ⊢
  unfold qptr at *
  go_enter Try.func17, Try.ntmps17
  go_wp2_with fail
  refine HR.out.mono ?_
  rintro e w1 ⟨rfl, hW⟩
  clear HR
  go_wp2
  go_ret
  exact ⟨rfl, hW.out⟩

/-- A list of one frame, that was just built. -/
theorem one_row (x : Pf) (hx : x.X w D) (hok : x.F.Ok) (hD : ¬ D w.heap.size) : RowX (w.alloc (.cells x.cs 40)) D (some ⟨w.heap.size, 0, none⟩) [x] where
  row := by rw [flat_single]; exact LiesX.of_new x.cs _ hD
  frs := fun y hy => by
    obtain rfl := List.mem_singleton.1 hy
    exact hx.on (alloc_below _ _)
  oks := fun y hy => by
    obtain rfl := List.mem_singleton.1 hy
    exact hok
theorem QueS.new_out {lr : List Pl} {lm : List Pf} (h : QueS w base g mb T room lost lr lm D) : ¬ D w.heap.size := fun hd => by have := (h.din _ hd).2; omega
theorem Went.below {m : Qp} {B : Nat} (h : Went w base g mb T room D m w') (hg : B ≤ g) (hm : B ≤ mb) (hT : ∀ b, T.ownBlock = some b → B ≤ b) (hB : B ≤ w.heap.size) : RowKit.Below B w w' :=
  h.only.below (fun k hk => by
    rcases hk with rfl | rfl | hk
    · exact hg
    · exact hm
    · exact hT k hk) hB
end

set_option maxHeartbeats 1600000 in
theorem awake_any (w : World) : Calls Try.prog 7 #[] w fun e w' => e = .returned (.bool true) ∧ RowKit.Below w.heap.size w w' := by
  have hN := new_any 9 w w.heap.size (Nat.le_refl _)
  have e2 : roomN 9 = 9 := rfl
  rw [e2] at hN
  clear e2
  go_enter Try.func7, Try.ntmps7
  go_wp2_with fail
  refine hN.mono ?_
  rintro e w1 ⟨g, mb, rfl, hQ, hg, hm, hb1⟩
  have HQ := Lib.hid hQ
  have HB1 := Lib.hid hb1
  have HG := Lib.hid hg
  have HM := Lib.hid hm
  have hP : Hid (Calls Try.prog 12 #[.pointer (some ⟨g, 0, none⟩), .slice (some ⟨w1.heap.size, 0, none⟩) 2 2] (w1.alloc (.cells ((atP 1).cs ++ (atP 1).cs) 40)) fun e w' => e = .returned (.int .i64 1) ∧ Hid (Went (w1.alloc (.cells ((atP 1).cs ++ (atP 1).cs) 40)) w.heap.size g mb (.slice none 0 0) 9 (fun k => k = g ∨ k = mb) ⟨[atF 1], 0⟩ w')) := by
    have h1 := puts_any (l := []) (HQ.out.on (alloc_below w1 (.cells ((atP 1).cs ++ (atP 1).cs) 40))) (some ⟨w1.heap.size, 0, none⟩) 2 2 [atP 1, atP 1] rfl (by decide) ⟨LiesX.of_new _ _ fun e => HQ.out.new_out (HQ.out.own _ e), fun y hy => ?_, fun y hy => ?_⟩ (by decide) (by decide) (by decide)
    · exact h1
    · simp only [List.mem_cons, List.not_mem_nil, or_false] at hy
      rcases hy with rfl | rfl <;> exact atP_X _ _ _
    · simp only [List.mem_cons, List.not_mem_nil, or_false] at hy
      rcases hy with rfl | rfl <;> exact atF_ok (by decide)
  clear hN hQ hb1 hg hm
  unfold qptr
  go_wp2_with fail
  refine hP.out.mono ?_
  rintro e w2 ⟨rfl, hW2⟩
  have hb2 : RowKit.Below w.heap.size w w2 := (HB1.out.trans ((alloc_below w1 _).mono HB1.out.size)).trans (hW2.out.below HG.out HM.out (fun b hb => by simp [Value.ownBlock] at hb) (by have := HB1.out.size; simp; omega))
  obtain ⟨T2, l2, D2, q2, hl2, -, -, ht2, -⟩ := hW2.out
  have HB2 := Lib.hid hb2
  have HT2 : Hid (∀ b, T2.ownBlock = some b → w.heap.size ≤ b) := fun b hb => (ht2 b hb).elim (fun e => by simp [Value.ownBlock] at e) fun e => by
    have h1 := HB1.out.size
    simp at e
    omega
  have HQ2 := Lib.hid q2
  have HL2 := Lib.hid hl2
  clear hP hb2 ht2 q2 hl2 hW2
  go_wp2_with fail
  have hP2 : Hid (Calls Try.prog 12 #[.pointer (some ⟨g, 0, none⟩), .slice (some ⟨w2.heap.size, 0, none⟩) 1 1] (w2.alloc (.cells (atP 2).cs 40)) fun e w' => e = .returned (.int .i64 1) ∧ Hid (Went (w2.alloc (.cells (atP 2).cs 40)) w.heap.size g mb T2 9 D2 ⟨[atF 1, atF 2], 0⟩ w')) := by
    have h1 := puts_any (HQ2.out.on (alloc_below w2 (.cells (atP 2).cs 40))) (some ⟨w2.heap.size, 0, none⟩) 1 1 [atP 2] rfl (by decide) (one_row (atP 2) (atP_X _ _ _) (atF_ok (by decide)) fun e => HQ2.out.new_out (HQ2.out.own _ e)) (by decide) (by rw [← List.length_map (f := Pf.F), HL2.out]; decide) (by decide)
    rw [← List.length_map (f := Pf.F), HL2.out] at h1
    exact h1
  refine hP2.out.mono ?_
  rintro e w3 ⟨rfl, hW3⟩
  have hb3 : RowKit.Below w.heap.size w w3 := (HB2.out.trans ((alloc_below w2 _).mono HB2.out.size)).trans (hW3.out.below HG.out HM.out HT2.out (by have := HB2.out.size; simp; omega))
  obtain ⟨T3, l3, D3, q3, hl3, -, -, -, -⟩ := hW3.out
  have HB3 := Lib.hid hb3
  have hL3 := len_any q3
  rw [List.length_map, ← List.length_map (f := Pf.F), hl3] at hL3
  have HL3 : Hid (Calls Try.prog 18 #[.pointer (some ⟨g, 0, none⟩)] w3 fun e w' => e = .returned (.int .i64 2) ∧ w3 = w') := hL3
  clear hP2 hb3 q3 hl3 hW3 hL3
  go_wp2_with fail
  refine HL3.out.mono ?_
  rintro e w4 ⟨rfl, rfl⟩
  go_wp2
  go_ret
  exact ⟨rfl, HB3.out⟩

end Go.Proofs.Ytmnjedpnhilndaa
