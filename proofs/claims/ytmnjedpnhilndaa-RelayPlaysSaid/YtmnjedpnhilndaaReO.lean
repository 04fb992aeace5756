/- Stage 16: frames that have At alone, one behind the other. -/
import Derived.Test.YtmnjedpnhilndaaReN
set_option maxRecDepth 20000
namespace Go.Proofs.Ytmnjedpnhilndaa
open Go.RowKit Go.Sort Go.Maps

/-- The frames At 0 .. k - 1. -/
def atFs (k : Nat) : List Fr := (List.range k).map atF
def atPs (k : Nat) : List Pf := (List.range k).map atP
theorem atFs_len (k : Nat) : (atFs k).length = k := by simp [atFs]
theorem atPs_len (k : Nat) : (atPs k).length = k := by simp [atPs]
theorem atPs_F (k : Nat) : (atPs k).map Pf.F = atFs k := by
  unfold atPs atFs
  rw [List.map_map]
  rfl
theorem atPs_snoc (k : Nat) : atPs (k + 1) = atPs k ++ [atP k] := by simp [atPs, List.range_succ]
theorem atFs_snoc (k : Nat) : atFs (k + 1) = atFs k ++ [atF k] := by simp [atFs, List.range_succ]
theorem atFs_at {k i : Nat} (h : i < (atFs k).length) : (atFs k)[i] = atF i := by simp [atFs]
theorem atFs_new {k j : Nat} (hj : j ≤ k) (hk : k < 4294967296) : hasF (atFs j) (plOf (atF k)) = false := by
  unfold hasF
  rw [List.any_eq_false]
  intro F hF
  obtain ⟨i, hi, rfl⟩ := List.mem_map.1 hF
  have hi' : i < j := by simpa using hi
  intro e
  have e := of_decide_eq_true e
  have e2 := congrArg Pl.a e
  have e3 : i % 4294967296 = k % 4294967296 := e2
  omega
theorem atFs_puts (N : Nat) : ∀ k, k < 4294967296 → (Qp.mk [] 0).puts N (atFs k) = ⟨atFs (min k N), k - min k N⟩
  | 0, _ => by simp [Qp.puts, atFs]
  | k + 1, hk => by
    rw [atFs_snoc, Qp.puts_snoc, atFs_puts N k (by omega)]
    unfold Qp.put
    simp only
    rw [atFs_new (by omega) (by omega), if_neg (by simp), atFs_len]
    by_cases h : N ≤ k
    · rw [Nat.min_eq_right h, if_pos (Nat.le_refl _), Nat.min_eq_right (by omega), show k - N + 1 = k + 1 - N by omega]
    · rw [Nat.min_eq_left (by omega), if_neg (by omega), Nat.min_eq_left (by omega), ← atFs_snoc, Nat.sub_self, Nat.sub_self]
theorem outF_none (Fs : List Fr) (k : Nat) : outF [] Fs k = Fs.take k := by
  unfold outF keepB inB
  simp
/-- Taking without leaving any out. -/
theorem gone_none {most : Int} {Fs : List Fr} {k : Nat} (h : Gone [] most Fs k) : k = min most.toNat Fs.length := by
  obtain ⟨h1, h2, h3⟩ := h
  have hno : ∀ j < k, ¬ most ≤ (j : Int) := fun j hj hm => h3 j hj (.inr ⟨by omega, by simp [keepB, inB], by rw [outF_none, List.length_take, Nat.min_eq_left (by omega)]; exact hm⟩)
  have hle : k ≤ most.toNat := by
    rcases Nat.eq_zero_or_pos k with h0 | h0
    · omega
    · have := hno (k - 1) (by omega)
      omega
  rcases h2 with h2 | ⟨h4, -, h5⟩
  · omega
  · rw [outF_none, List.length_take] at h5
    omega

/-- A frame of the row, as cells. -/
theorem FrsAt.at_ {w : World} {base n c : Nat} {Fs : List Fr} {A : Option Addr} (h : FrsAt w base Fs (.slice A n c)) (i : Nat) (hi : i < Fs.length) :
    ∃ g off, ∃ y : Pf, A = some ⟨g, off, none⟩ ∧ y.F = Fs[i] ∧ y.X w (fun _ => False) ∧ y.F.Ok ∧ g < w.heap.size ∧ w.rangeAt g (off + i * 16) (encPf y) := by
  obtain ⟨ys, h1, h2, h3⟩ := h
  have hl : ys.length = Fs.length := by rw [← h1, List.length_map]
  have hiy : i < ys.length := by omega
  obtain ⟨b, off, e, hbw, hc⟩ := row_at (Lies.of_ownK (by
    obtain ⟨A', c', hv, h5, h6⟩ := own_sliceK h2
    injection hv with e1 e2 e3
    subst e1 e2 e3
    exact h2)) hiy
  refine ⟨b, off, ys[i], e, by simp only [← h1, List.getElem_map], (h3 _ (List.getElem_mem hiy)).1, (h3 _ (List.getElem_mem hiy)).2, hbw, hc⟩

end Go.Proofs.Ytmnjedpnhilndaa
