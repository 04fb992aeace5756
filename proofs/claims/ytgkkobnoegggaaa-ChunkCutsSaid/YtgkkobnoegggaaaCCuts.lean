/- ChunkCuts: for every id, every payload, every chunk's size and every number the call returns true (each chunk of a payload is the document's, and so are the frames of all of them; what is handed in stays), and changes nothing that was there. No conditions. -/
import Derived.Test.YtgkkobnoegggaaaCkO
import Derived.Test.YtgkkobnoegggaaaCkP
import Derived.Test.YtgkkobnoegggaaaCkQ
import Derived.Test.YtgkkobnoegggaaaCkR
import Derived.ChangeOld
namespace Go.Proofs.Ytgkkobnoegggaaa
open Go.ChangeShapes Go.WideShapes Go.ChangeAt Go.RowKit

theorem cuts_walk (di : Id) (A : Option Addr) (c : Nat) (l : List UInt8) (k a : Int) (W : World) (hc : l.length ≤ c) (hm : c ≤ maxLen) (hL : Lies W W.heap.size A (bvs l)) :
    Calls Try.prog 4 #[.agg (idCells di), .slice A l.length c, .int .i64 k, .int .i64 a] W fun e w' => e = .returned (.bool true) ∧ Below W.heap.size W w' := by
  by_cases hn : 2000 < l.length
  · exact cuts_many di A _ c k a W hn
  by_cases hk : k < 1 ∨ 65536 < k
  · by_cases ha : 0 ≤ a
    · exact cuts_none_high di A c l k a W (by omega) hc hm hL hk (decide_eq_true ha) (decide_eq_false (by omega))
    · exact cuts_none_low di A c l k a W (by omega) hc hm hL hk (decide_eq_false ha)
  obtain ⟨k, rfl⟩ : ∃ q : Nat, k = (q : Int) := ⟨k.toNat, by omega⟩
  have h1 := cntN_pos l.length k
  have h2 := cntN_le l.length k
  by_cases ha : 0 ≤ a
  · by_cases hb : a < (cntN l.length k : Int)
    · obtain ⟨j, rfl⟩ : ∃ q : Nat, a = (q : Int) := ⟨a.toNat, by omega⟩
      exact cuts_in di A c l k _ j W (by omega) hc hm hL (by omega) (by omega) rfl h1 (by omega) (by omega)
    · exact cuts_high di A c l k _ a W (by omega) hc hm hL (by omega) (by omega) rfl h1 (by omega) (decide_eq_true ha) (decide_eq_false hb)
  · exact cuts_low di A c l k _ a W (by omega) hc hm hL (by omega) (by omega) rfl h1 (by omega) (decide_eq_false ha)

theorem own : ownKnob Try.prog.godebug = none := by kernel_rfl
theorem laidOut : laidOutB Try.prog = true := by kernel_rfl

set_option maxRecDepth 100000 in
theorem chunkCuts_lifted (os : Os) (started : os.Started) (H : Type) (enc : TypeId × Value → H) :
    ReturnsInHanded {} Try.checked os 4 .any (Rows.chunkCutsSpec.pre6 enc Try.prog Try.f4 Rows.chunkCutsRow.domain false) (Rows.chunkCutsSpec.post enc Try.prog Try.f4 false true false false) := by
  refine returnsInHanded_of_change (C := Try.checked) own started (by kernel_rfl) Try.func4
    (ChangeSpec.witness6 (enc := enc) (C := Try.checked) false ⟨#[], #[.agg #[.int .u8 0, .int .u64 0], .slice none 0 0, .int .i64 0, .int .i64 0], []⟩ 8 (by kernel_rfl) (by kernel_rfl) (by kernel_rfl) (by kernel_rfl)) ?_
  intro W base args ds gs before hval0 hW _ _
  have hval : ∀ (j : Nat) t v, Try.f4.params[j]? = some t → args[j]? = some v → Value.okWide Try.prog W .any base t v := hval0
  have hW' := hW
  obtain ⟨p, q, hA0, hV, rfl, _, _⟩ := hW
  have hA : DataW.TrodAll enc Try.prog W 0 (fun _ => true) true Try.f4.params.toList args.toList ds p := hA0
  rw [Try.params4] at hA hval
  obtain ⟨v0, vs0, d0, ds0, p0, q0, hargs, rfl, rfl, h0, r0⟩ := trodAll_cons hA
  obtain ⟨v1, vs1, d1, ds1, p1, q1, rfl, rfl, rfl, h1, r1⟩ := trodAll_cons r0
  obtain ⟨v2, vs2, d2, ds2, p2, q2, rfl, rfl, rfl, h2, r2⟩ := trodAll_cons r1
  obtain ⟨v3, vs3, d3, ds3, p3, q3, rfl, rfl, rfl, h3, r3⟩ := trodAll_cons r2
  obtain ⟨rfl, rfl, rfl⟩ := trodAll_nil r3
  obtain rfl : args = #[v0, v1, v2, v3] := by cases args; simp_all
  obtain ⟨rfl, rfl⟩ := trodVars_none hV
  have k0 := h0
  have lt0 : ∀ x ∈ p0, x.block < W.heap.size := by obtain ⟨m, hm⟩ := k0; exact DataW.trod_lt m _ _ _ hm
  have k1 := h1
  have lt1 : ∀ x ∈ p1, x.block < W.heap.size := by obtain ⟨m, hm⟩ := k1; exact DataW.trod_lt m _ _ _ hm
  have k2 := h2
  have lt2 : ∀ x ∈ p2, x.block < W.heap.size := by obtain ⟨m, hm⟩ := k2; exact DataW.trod_lt m _ _ _ hm
  have k3 := h3
  have lt3 : ∀ x ∈ p3, x.block < W.heap.size := by obtain ⟨m, hm⟩ := k3; exact DataW.trod_lt m _ _ _ hm
  obtain ⟨a2, rfl, _, _, _⟩ := open_int Try.underlying3 (hval 2 3 v2 rfl rfl) h2
  obtain ⟨a3, rfl, _, _, _⟩ := open_int Try.underlying3 (hval 3 3 v3 rfl rfl) h3
  have hwalk : Calls Try.prog 4 #[v0, v1, .int .i64 a2, .int .i64 a3] W fun e w' => e = .returned (.bool true) ∧ Below W.heap.size W w' := by
    obtain ⟨x0, rfl⟩ := open_id (hval 0 28 v0 rfl rfl) h0
    obtain ⟨x1, len1, cap1, rfl⟩ := okWide_slice Try.underlying29 (hval 1 29 v1 rfl rfl)
    obtain ⟨fuel1, hf1⟩ := h1
    obtain ⟨l, A, n, c, hv, hl, hc, hcm, hL⟩ := open_bytes Try.underlying29 Try.underlying5 (by kernel_rfl) (by simpa [Value.cells] using hf1)
    injection hv with e1 e2 e3
    subst e1 e2 e3
    subst hl
    exact cuts_walk x0 x1 cap1 l a2 a3 W hc hcm hL
  clear hA0 hval0
  refine hwalk.mono fun e W' ⟨he, bel⟩ => ?_
  subst he
  exact ⟨_, rfl, _, _, _, [], _, [], hW', trodAll_mk1 (shut_bool Try.underlying4 _), (trodAll_cons_mk (Below.trod laidOut (by kernel_rfl) (of_decide_eq_true (by kernel_rfl)) k0 bel lt0) (trodAll_cons_mk (Below.trod laidOut (by kernel_rfl) (of_decide_eq_true (by kernel_rfl)) k1 bel lt1) (trodAll_cons_mk (Below.trod laidOut (by kernel_rfl) (of_decide_eq_true (by kernel_rfl)) k2 bel lt2) (trodAll_cons_mk (Below.trod laidOut (by kernel_rfl) (of_decide_eq_true (by kernel_rfl)) k3 bel lt3) trodAll_mk0)))), rfl, bel.frame _, fun h => by cases h⟩

theorem chunkCuts_proved : Rows.ChunkCutsSaid :=
  OpenClaim.holds_of_wide 4 Try.f4 rfl rfl rfl rfl rfl rfl rfl ⟨rfl, rfl, rfl, rfl, rfl⟩ rfl rfl rfl rfl rfl (by kernel_rfl) Try.func4 (by kernel_rfl)
    (of_decide_eq_true (by kernel_rfl)) (by unfold Func.isWrapper; first | (rw [if_pos (by decide +kernel)]; kernel_rfl) | (rw [if_neg (by decide +kernel)]; exact ⟨rfl, rfl⟩))
    (fun os started H enc _ => chunkCuts_lifted os started H enc)

end Go.Proofs.Ytgkkobnoegggaaa
