/- Arguments opened: a slice of bytes, of numbers, of rows of bytes, as the walks of this seat want them. No conditions beyond those that each theorem names. -/
import Derived.Test.YtenaoinkjdaoeaaMem
import Derived.ProofKit
import Derived.OpenShut
import Derived.Deep.Slices
namespace Go.Proofs.Ytenaoinkjdaoeaa
open Go.ChangeShapes Go.WideShapes Go.ChangeAt Go.RowKit

def uvs (l : List Nat) : List Value := l.map uv

theorem lies_ints {w : World} {k : IntKind} {x : Addr} {zs : List Int} {n : Nat} (hcell : ∀ i, i < zs.length → w.cell? (x.add i) = some (.int k (zs.getD i 0))) :
    Lies w w.heap.size (some x) ((zs.take n).map (Value.int k)) := fun hn => by
  have hp : 0 < zs.length := by
    rcases zs with _ | ⟨z, t⟩
    · simp at hn
    · simp
  obtain ⟨b, off, rfl, hc⟩ := ints_at hcell hp
  have hlt := World.block_lt_of_cell? w _ (hc 0 hp)
  refine ⟨b, off, rfl, hlt, fun i u hu => ?_⟩
  rw [List.getElem?_map, Option.map_eq_some_iff] at hu
  obtain ⟨z, hz, rfl⟩ := hu
  rw [List.getElem?_take] at hz
  split at hz
  · obtain ⟨hi, rfl⟩ := List.getElem?_eq_some_iff.1 hz
    rw [hc i hi]
    simp [List.getD, hi]
  · cases hz

theorem ints_bytes {zs : List Int} (h : ∀ n ∈ zs, (Lit.int .u8 n).wf = true) : zs.map (Value.int .u8) = bvs (zs.map fun z => UInt8.ofNat z.toNat) := by
  unfold bvs
  rw [List.map_map]
  refine List.map_congr_left fun z hz => ?_
  have := bounds_u8 (h z hz)
  have e : (UInt8.ofNat z.toNat).toNat = z.toNat := by simp [UInt8.toNat_ofNat']; omega
  simp only [Function.comp, bv, e]
  congr 1
  omega

theorem ints_nums {zs : List Int} (h : ∀ n ∈ zs, (Lit.int .u64 n).wf = true) : zs.map (Value.int .u64) = uvs (zs.map Int.toNat) := by
  unfold uvs
  rw [List.map_map]
  refine List.map_congr_left fun z hz => ?_
  have := bounds_u64 (h z hz)
  simp only [Function.comp, uv]
  congr 1
  omega

/-- A value that is a slice of just these bytes, below block B. -/
def Byt (w : World) (B : Nat) (v : Value) (l : List UInt8) : Prop := ∃ A n c, v = .slice A n c ∧ l.length = n ∧ n ≤ c ∧ c ≤ maxLen ∧ Lies w B A (bvs l)

section
variable {H : Type} {enc : TypeId × Value → H} {P : Program} {w : World} {base : Nat} {spare : Nat → Bool} {held : Bool}

theorem open_bytes {t e : TypeId} {fuel : Nat} {v : Value} {x : DataW H × List MemPlace} (ht : P.underlying t = some (.slice e)) (he : P.underlying e = some (.int .u8)) (hc : P.cellsOf e = 1)
    (h : DataW.trod enc P w base spare held fuel t [v] = some x) : ∃ l, Byt w w.heap.size v l := by
  rcases open_ints ht he hc h with ⟨hcs, _⟩ | ⟨a, len, cap, zs, hcs, _, hl, hm, hz, _, hcell, hwz⟩
  · injection hcs with hcs
    subst hcs
    exact ⟨[], none, 0, 0, rfl, rfl, Nat.le_refl _, Nat.zero_le _, Lies.nil⟩
  · injection hcs with hcs
    subst hcs
    have hlz : len ≤ zs.length := by rw [hz]; split <;> omega
    refine ⟨(zs.take len).map fun z => UInt8.ofNat z.toNat, some a, len, cap, rfl, by simp; omega, hl, hm, ?_⟩
    rw [← ints_bytes (fun n hn => hwz n (List.mem_of_mem_take hn))]
    exact lies_ints hcell

theorem open_nums {t e : TypeId} {fuel : Nat} {v : Value} {x : DataW H × List MemPlace} (ht : P.underlying t = some (.slice e)) (he : P.underlying e = some (.int .u64)) (hc : P.cellsOf e = 1)
    (h : DataW.trod enc P w base spare held fuel t [v] = some x) : ∃ l A n c, v = .slice A n c ∧ l.length = n ∧ n ≤ c ∧ c ≤ maxLen ∧ Lies w w.heap.size A (uvs l) ∧ ∀ x ∈ l, x < 18446744073709551616 := by
  rcases open_ints ht he hc h with ⟨hcs, _⟩ | ⟨a, len, cap, zs, hcs, _, hl, hm, hz, _, hcell, hwz⟩
  · injection hcs with hcs
    subst hcs
    exact ⟨[], none, 0, 0, rfl, rfl, Nat.le_refl _, Nat.zero_le _, Lies.nil, by simp⟩
  · injection hcs with hcs
    subst hcs
    have hlz : len ≤ zs.length := by rw [hz]; split <;> omega
    refine ⟨(zs.take len).map Int.toNat, some a, len, cap, rfl, by simp; omega, hl, hm, ?_, ?_⟩
    · rw [← ints_nums (fun n hn => hwz n (List.mem_of_mem_take hn))]
      exact lies_ints hcell
    · intro x hx
      obtain ⟨z, hz, rfl⟩ := List.mem_map.1 hx
      have := bounds_u64 (hwz z (List.mem_of_mem_take hz))
      omega

/-- A slice of rows of bytes: its cells, and of each what it reads as. -/
def BytRows (w : World) (B : Nat) (vs : List Value) (ls : List (List UInt8)) : Prop := vs.length = ls.length ∧ ∀ i, (h : i < vs.length) → (h' : i < ls.length) → Byt w B vs[i] ls[i]

theorem open_byteRows {t e e' : TypeId} {fuel : Nat} {v : Value} {x : DataW H × List MemPlace} (ht : P.underlying t = some (.slice e)) (hc : P.cellsOf e = 1) (he : P.underlying e = some (.slice e')) (he' : P.underlying e' = some (.int .u8)) (hc' : P.cellsOf e' = 1)
    (h : DataW.trod enc P w base spare held fuel t [v] = some x) : ∃ ls vs A n c, v = .slice A n c ∧ vs.length = n ∧ n ≤ c ∧ c ≤ maxLen ∧ Lies w w.heap.size A vs ∧ BytRows w w.heap.size vs ls := by
  rcases Deep.open_slice1 ht hc h with ⟨hcs, _⟩ | ⟨a, len, cap, m, n, V, D, Pl, hcs, _, hl, hm, hmm, _, hx⟩
  · injection hcs with hcs
    subst hcs
    exact ⟨[], [], none, 0, 0, rfl, rfl, Nat.le_refl _, Nat.zero_le _, Lies.nil, rfl, by simp⟩
  · injection hcs with hcs
    subst hcs
    have hlm : len ≤ m := by rw [hmm]; split <;> omega
    obtain ⟨L, hL⟩ := Deep.choose_lt (α := List UInt8) (n := len) (p := fun i l => Byt w w.heap.size (V i) l) (fun i hi => open_bytes he he' hc' (hx i (by omega)).2)
    refine ⟨(List.range len).map L, (List.range len).map V, some a, len, cap, rfl, by simp, hl, hm, ?_, by simp, ?_⟩
    · intro hn
      have hp : 0 < len := by
        rcases Nat.eq_zero_or_pos len with h0 | h0
        · subst h0; simp at hn
        · exact h0
      have h0 := (hx 0 (by omega)).1
      obtain ⟨b, off, spot⟩ := a
      have hspot : spot = none := by simpa [Addr.add] using World.cell?_spot h0
      subst hspot
      refine ⟨b, off, rfl, ?_, fun i u hu => ?_⟩
      · have := World.block_lt_of_cell? w _ h0
        rwa [Go.Proofs.Ytenaoinkjdaoeaa.add_plain] at this
      · rw [List.getElem?_map, Option.map_eq_some_iff] at hu
        obtain ⟨j, hj, rfl⟩ := hu
        obtain ⟨hi, rfl⟩ := List.getElem?_eq_some_iff.1 hj
        have := (hx i (by simp at hi; omega)).1
        rw [Go.Proofs.Ytenaoinkjdaoeaa.add_plain] at this
        simpa using this
    · intro i h1 _
      have := hL i (by simpa using h1)
      simpa using this
end

end Go.Proofs.Ytenaoinkjdaoeaa
