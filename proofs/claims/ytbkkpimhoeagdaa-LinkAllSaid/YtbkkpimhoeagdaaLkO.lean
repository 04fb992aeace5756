/- First in, first out: a frame is taken off the way. -/
import Derived.Test.YtbkkpimhoeagdaaLkN
namespace Go.Proofs.Ytbkkpimhoeagdaa
open Go.RowKit Go.Sort
set_option maxRecDepth 20000

section
variable {w W : World} {D : Nat → Prop}

/-- The first ones, and those behind k, in a new list. -/
theorem Row.without {u : Value} {fw us : List Pf} {Af : Option Addr} {nf cf k : Nat} (h : Row w (.slice Af nf cf) fw D W) (hu : Row w u us D W) (hl : fw.length = nf) (hk : k < nf) (hD : ∀ k, D k → k < W.heap.size) (hlen : nf ≤ 9900) (hw : w.heap.size ≤ W.heap.size) :
    ∃ A1 c1 W2, (Builtin.append_ #[26, 26] 26 #[.slice (some ⟨W.heap.size, 0, none⟩) 0 0, .slice Af k cf]).run Try.prog (W.alloc (.cells #[] 44)) = .ok (.slice A1 k c1) W2 ∧ RowKit.Below W.heap.size W W2 ∧
      ∀ (A2 : Option Addr) (c2 : Nat), (k + 1 < nf → ∃ gf, Af = some ⟨gf, 0, none⟩ ∧ A2 = some ⟨gf, (k + 1) * 16, none⟩) → ∃ A3 c3 W3, (Builtin.append_ #[26, 26] 26 #[.slice A1 k c1, .slice A2 (nf - (k + 1)) c2]).run Try.prog W2 = .ok (.slice A3 (nf - 1) c3) W3 ∧
        RowKit.Below W.heap.size W W3 ∧ Row w (.slice A3 (nf - 1) c3) (fw.take k ++ fw.drop (k + 1)) D W3 ∧ Apart (.slice A3 (nf - 1) c3) u := by
  subst hl
  have hbA : RowKit.Below W.heap.size W (W.alloc (.cells #[] 44)) := (RowKit.Below.refl _ _).alloc (Nat.le_refl _) _
  have hoa : (W.alloc (.cells #[] 44)).ownsRow W.heap.size 44 16 (.slice (some ⟨W.heap.size, 0, none⟩) 0 0) 0 [] := World.ownsRow_lit W #[] 0 (Nat.le_refl _) (Nat.zero_le _) rfl
  have hL : Lies W W.heap.size Af (flat encPf fw) := Lies.of_ownK h.own
  have hLk : Lies W W.heap.size Af (flat encPf (fw.take k)) := fun hn => by
    have hne : flat encPf fw ≠ [] := fun e => hn (by
      have := congrArg List.length e
      rw [flat_length encPf_len] at this
      have h0 : fw = [] := List.length_eq_zero_iff.1 (by have h1 : fw.length * 16 = 0 := by simpa using this
                                                         omega)
      rw [h0, List.take_nil]; rfl)
    obtain ⟨b, off, e, hb, hc⟩ := hL hne
    refine ⟨b, off, e, hb, fun i v hv => hc i v ?_⟩
    rw [← List.take_append_drop k fw, flat_append]
    rw [List.getElem?_append_left (List.getElem?_eq_some_iff.1 hv).1]
    exact hv
  have htk : (fw.take k).length = k := by rw [List.length_take]; omega
  obtain ⟨A1, c1, W2, hrun1, ho1, -, hb1, -, -⟩ := app_frames (c := cf) hoa htk (hLk.below hbA) hbA.size (by omega)
  rw [Nat.zero_add, List.nil_append] at ho1
  rw [Nat.zero_add] at hrun1
  have hb2 : RowKit.Below W.heap.size W W2 := hbA.trans hb1
  refine ⟨A1, c1, W2, hrun1, hb2, fun A2 c2 hA2 => ?_⟩
  have hdl : (fw.drop (k + 1)).length = fw.length - (k + 1) := List.length_drop
  have hL2 : Lies W2 W.heap.size A2 (flat encPf (fw.drop (k + 1))) := fun hn => by
    have hlt : k + 1 < fw.length := by
      rcases Nat.lt_or_ge (k + 1) fw.length with e | e
      · exact e
      · rw [List.drop_eq_nil_of_le e] at hn
        exact absurd rfl hn
    obtain ⟨gf, rfl, rfl⟩ := hA2 hlt
    have hne : flat encPf fw ≠ [] := fun e => by
      have := congrArg List.length e
      rw [flat_length encPf_len] at this
      have h1 : fw.length * 16 = 0 := by simpa using this
      omega
    obtain ⟨b, off, e, hb, hc⟩ := (hL.below hb2) hne
    injection e with e
    injection e with e1 e2
    subst e1 e2
    refine ⟨_, _, rfl, hb, fun i v hv => ?_⟩
    have h1 := hc ((k + 1) * 16 + i) v (by
      rw [← List.getElem?_drop, flat_drop encPf_len fw (k + 1) (by omega)]
      exact hv)
    rwa [Nat.zero_add] at h1
  obtain ⟨A3, c3, W3, hrun3, ho3, -, hb3, -, -⟩ := app_frames (c := c2) ho1 hdl hL2 hb2.size (by omega)
  rw [show k + (fw.length - (k + 1)) = fw.length - 1 by omega] at hrun3 ho3
  have hb4 : RowKit.Below W.heap.size W W3 := hb2.trans hb3
  have hl3 : (fw.take k ++ fw.drop (k + 1)).length = fw.length - 1 := by rw [List.length_append, htk, hdl]; omega
  refine ⟨A3, c3, W3, hrun3, hb4, ⟨?_, fun b hb hd => ?_⟩, fun b hb hub => ?_⟩
  · rw [hl3, flat_append]
    exact own_base ho3 hw
  · have := (ho3.lt b hb).1
    have := hD b hd
    omega
  · have := (ho3.lt b hb).1
    have := (hu.own.lt b hub).2
    omega
end

section
variable {w W : World} {a b : Pl} {g : Nat} {x : Pk} {vf vb : Value} {sent lt N M : Nat} {T : Value} {l : List Pf} {s : Ls} {T' : Value} {l' : List Pf} {s' : Ls} {D : Nat → Prop} {fw bk : List Pf}
theorem FfS.lostF {Af : Option Addr} {nf cf k : Nat} (h : FfS w a b g x (.slice Af nf cf) vb sent lt N M T l s T' l' s' D fw bk W) (hl : fw.length = nf) (hk : k < nf) (hM : M ≤ 9900) :
    ∃ A1 c1 W2, (Builtin.append_ #[26, 26] 26 #[.slice (some ⟨W.heap.size, 0, none⟩) 0 0, .slice Af k cf]).run Try.prog (W.alloc (.cells #[] 44)) = .ok (.slice A1 k c1) W2 ∧
      ∀ (A2 : Option Addr) (c2 : Nat), (k + 1 < nf → ∃ gf, Af = some ⟨gf, 0, none⟩ ∧ A2 = some ⟨gf, (k + 1) * 16, none⟩) → ∃ A3 c3 W3, (Builtin.append_ #[26, 26] 26 #[.slice A1 k c1, .slice A2 (nf - (k + 1)) c2]).run Try.prog W2 = .ok (.slice A3 (nf - 1) c3) W3 ∧
        ∃ fw', FfS w a b g x (.slice A3 (nf - 1) c3) vb sent lt N M T l s T' l' s' D fw' bk W3 ∧ fw'.length = nf - 1 := by
  have hlf := h.lf
  obtain ⟨A1, c1, W2, hrun, -, hX⟩ := h.rf.without h.rb hl hk h.dlt (by omega) h.duo.below.size
  refine ⟨A1, c1, W2, hrun, fun A2 c2 hA2 => ?_⟩
  obtain ⟨A3, c3, W3, hrun3, hb, hr, hap⟩ := hX A2 c2 hA2
  have h3 := h.on hb
  have hl3 : (fw.take k ++ fw.drop (k + 1)).length = nf - 1 := by rw [List.length_append, List.length_take, List.length_drop]; omega
  refine ⟨A3, c3, W3, hrun3, _, ⟨h3.duo, h3.sa, h3.sb, hr, h3.rb, hap, fun y hy => ?_, h3.cb, by omega, h3.lb, h3.pk, h3.gd⟩, hl3⟩
  rcases List.mem_append.1 hy with hy | hy
  · exact h.cf y (List.mem_of_mem_take hy)
  · exact h.cf y (List.mem_of_mem_drop hy)
theorem FfS.lostB {Ab : Option Addr} {nb cb k : Nat} (h : FfS w a b g x vf (.slice Ab nb cb) sent lt N M T l s T' l' s' D fw bk W) (hl : bk.length = nb) (hk : k < nb) (hM : M ≤ 9900) :
    ∃ A1 c1 W2, (Builtin.append_ #[26, 26] 26 #[.slice (some ⟨W.heap.size, 0, none⟩) 0 0, .slice Ab k cb]).run Try.prog (W.alloc (.cells #[] 44)) = .ok (.slice A1 k c1) W2 ∧
      ∀ (A2 : Option Addr) (c2 : Nat), (k + 1 < nb → ∃ gf, Ab = some ⟨gf, 0, none⟩ ∧ A2 = some ⟨gf, (k + 1) * 16, none⟩) → ∃ A3 c3 W3, (Builtin.append_ #[26, 26] 26 #[.slice A1 k c1, .slice A2 (nb - (k + 1)) c2]).run Try.prog W2 = .ok (.slice A3 (nb - 1) c3) W3 ∧
        ∃ bk', FfS w a b g x vf (.slice A3 (nb - 1) c3) sent lt N M T l s T' l' s' D fw bk' W3 ∧ bk'.length = nb - 1 := by
  have hlb := h.lb
  obtain ⟨A1, c1, W2, hrun, -, hX⟩ := h.rb.without h.rf hl hk h.dlt (by omega) h.duo.below.size
  refine ⟨A1, c1, W2, hrun, fun A2 c2 hA2 => ?_⟩
  obtain ⟨A3, c3, W3, hrun3, hb, hr, hap⟩ := hX A2 c2 hA2
  have h3 := h.on hb
  have hl3 : (bk.take k ++ bk.drop (k + 1)).length = nb - 1 := by rw [List.length_append, List.length_take, List.length_drop]; omega
  refine ⟨A3, c3, W3, hrun3, _, ⟨h3.duo, h3.sa, h3.sb, h3.rf, hr, hap.symm, h3.cf, fun y hy => ?_, h3.lf, by omega, h3.pk, h3.gd⟩, hl3⟩
  rcases List.mem_append.1 hy with hy | hy
  · exact h.cb y (List.mem_of_mem_take hy)
  · exact h.cb y (List.mem_of_mem_drop hy)

/-- The frame at place k, as it is handed on. -/
theorem Row.frame {ys : List Pf} {A : Option Addr} {n c k : Nat} (h : Row w (.slice A n c) ys D W) (hl : ys.length = n) (hk : k < n) : ∃ gf, ∃ hy : k < ys.length, A = some ⟨gf, 0, none⟩ ∧ W.rangeAt gf (k * 16) (encPf ys[k]) := by
  subst hl
  obtain ⟨gf, c', hv, -, -⟩ := h.own.form (by omega)
  injection hv with e1 e2 e3
  subst e1
  obtain ⟨b, off, e, hbw, hc⟩ := row_at (Lies.of_ownK h.own) hk
  injection e with e
  injection e with e4 e5
  subst e4 e5
  rw [Nat.zero_add] at hc
  exact ⟨_, hk, rfl, hc⟩
end

end Go.Proofs.Ytbkkpimhoeagdaa
