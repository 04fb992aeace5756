/- Stage 14: ids as the keys of a map; how an element of the map reads. -/
import Derived.Test.YtnpdjlcekmpmoaaSoC
import Derived.Maps.RangeWalk
import Derived.Maps.Ext
import Derived.DeepKeys4
set_option maxRecDepth 20000
namespace Go.Proofs.Ytnpdjlcekmpmoaa
open Go.RowKit Go.Sort Go.Maps

theorem rowK : (33 : TypeId) < Try.prog.types.size := of_decide_eq_true (by kernel_rfl)
theorem wideK : (match Try.prog.underlying 33 with | some (.array _ _) | some (.struct _) => true | _ => false) = true := by kernel_rfl
theorem laidK : laidOutB Try.prog = true := by kernel_rfl
theorem deepK : Try.prog.keyType 33 = true := by kernel_rfl
/-- The law of the key's type. -/
theorem keyLaw : Keyed Try.prog 33 := Keyed.of_law (deep_law_laid laidK (m := 3) (by omega) rowK (by kernel_rfl) wideK)

def idLit (x : Id) : Lit := .string (keyBytes [.int .u8 (x.f : Int), .int .u64 (x.s : Int)])

theorem wf8 {f : Nat} (h : f < 256) : (Lit.int .u8 (f : Int)).wf = true := by
  simp [Lit.wf, IntKind.min, IntKind.max, IntKind.bits, IntKind.signed]
  omega
theorem wf64 {s : Nat} (h : s < 18446744073709551616) : (Lit.int .u64 (s : Int)).wf = true := by
  simp [Lit.wf, IntKind.min, IntKind.max, IntKind.bits, IntKind.signed]
  omega

theorem litsK (d : Nat) (x : Id) : Try.prog.keyLits (d + 2) 33 [.int .u8 (x.f : Int), .int .u64 (x.s : Int)] = some [.int .u8 (x.f : Int), .int .u64 (x.s : Int)] := by
  have hu := Try.underlying33
  have hu8 := Try.underlying5
  have hu64 := Try.underlying31
  have hc : Try.prog.cellsOf 33 = 2 := by kernel_rfl
  have hc8 : Try.prog.cellsOf 5 = 1 := by kernel_rfl
  have hc64 : Try.prog.cellsOf 31 = 1 := by kernel_rfl
  have w8 := wf8 x.hf
  have w64 := wf64 x.hs
  simp [Program.keyLits, hu, hc, hc8, hc64, hu8, hu64, w8, w64]

theorem litsK_inv (d : Nat) (cs : List Value) (l : List Lit) (h : Try.prog.keyLits (d + 2) 33 cs = some l) : ∃ x : Id, cs = [.int .u8 (x.f : Int), .int .u64 (x.s : Int)] ∧ l = [.int .u8 (x.f : Int), .int .u64 (x.s : Int)] := by
  have hu := Try.underlying33
  have hu8 := Try.underlying5
  have hu64 := Try.underlying31
  have hc : Try.prog.cellsOf 33 = 2 := by kernel_rfl
  have hc8 : Try.prog.cellsOf 5 = 1 := by kernel_rfl
  have hc64 : Try.prog.cellsOf 31 = 1 := by kernel_rfl
  simp [Program.keyLits, hu, hc, hc8, hc64] at h
  obtain ⟨h2, h⟩ := h
  match cs, h2 with
  | [a, b], _ =>
    cases a <;> simp at h
    rename_i qa u1 hx
    by_cases hq : qa = IntKind.u8 ∧ (Lit.int IntKind.u8 u1).wf = true
    case neg => rw [if_neg hq] at h; simp at h
    rw [if_pos hq] at h
    obtain ⟨rfl, ha⟩ := hq
    cases b <;> simp at h
    rename_i qb u2
    by_cases hq : qb = IntKind.u64 ∧ (Lit.int IntKind.u64 u2).wf = true
    case neg => rw [if_neg hq] at h; simp at h
    rw [if_pos hq] at h
    obtain ⟨rfl, hb⟩ := hq
    simp at h
    subst h
    clear hu hu8 hu64 hc hc8 hc64
    have b1 : 0 ≤ u1 ∧ u1 ≤ 255 := by simpa [Lit.wf, IntKind.min, IntKind.max, IntKind.bits, IntKind.signed] using ha
    have b2 : 0 ≤ u2 ∧ u2 ≤ 18446744073709551615 := by simpa [Lit.wf, IntKind.min, IntKind.max, IntKind.bits, IntKind.signed] using hb
    obtain ⟨f, rfl⟩ : ∃ f : Nat, u1 = (f : Int) := ⟨u1.toNat, by omega⟩
    obtain ⟨s, rfl⟩ : ∃ s : Nat, u2 = (s : Int) := ⟨u2.toNat, by omega⟩
    exact ⟨⟨f, s, by omega, by omega⟩, rfl, rfl⟩

theorem sizeK : ∃ d, Try.prog.types.size + 1 = d + 2 := ⟨Try.prog.types.size - 1, by have : 0 < Try.prog.types.size := Nat.lt_of_le_of_lt (Nat.zero_le _) rowK; omega⟩
theorem formedK (x : Id) : (valId x).formed Try.prog 33 = true := by
  have hu := Try.underlying33
  have hc : Try.prog.cellsOf 33 = 2 := by kernel_rfl
  simp [Value.formed, valId, hu, hc]
/-- What an id reads as, as a key. -/
theorem key_id (x : Id) : keyOf Try.prog 33 (valId x) = some (idLit x) := by
  obtain ⟨d, hd⟩ := sizeK
  have hu := Try.underlying33
  have hk := deepK
  have hf := formedK x
  have hl := litsK d x
  unfold keyOf
  rw [hu, hd]
  simp only [hk, hf, Bool.and_self, if_true]
  show Option.map _ (Try.prog.keyLits (d + 2) 33 [.int .u8 (x.f : Int), .int .u64 (x.s : Int)]) = _
  rw [hl]
  rfl
theorem key_inv {v : Value} {kl : Lit} (h : keyOf Try.prog 33 v = some kl) : ∃ x : Id, v = valId x ∧ kl = idLit x := by
  obtain ⟨d, hd⟩ := sizeK
  have hu := Try.underlying33
  have hk := deepK
  have hc : Try.prog.cellsOf 33 = 2 := by kernel_rfl
  unfold keyOf at h
  rw [hu, hd] at h
  simp only [hk, Bool.true_and] at h
  split at h
  · rename_i hf
    simp only [Option.map_eq_some_iff] at h
    obtain ⟨l, hl, rfl⟩ := h
    obtain ⟨x, h1, rfl⟩ := litsK_inv d _ _ hl
    cases v <;> simp [Value.formed, hu] at hf
    rename_i cs
    refine ⟨x, ?_, rfl⟩
    unfold valId
    congr 1
    simp only [Value.cells] at h1
    exact Array.toList_inj.1 h1
  · cases h
theorem idLit_inj {x y : Id} (h : idLit x = idLit y) : x = y := by
  have h1 := keyLaw.inj (key_id x) (h ▸ key_id y)
  unfold valId at h1
  simp only [Value.agg.injEq] at h1
  have h2 := congrArg Array.toList h1
  simp only [List.cons.injEq, Value.int.injEq, true_and, and_true] at h2
  exact Id.same (by omega) (by omega)
theorem idLit_ne {x y : Id} (h : x ≠ y) : idLit x ≠ idLit y := fun e => h (idLit_inj e)
theorem idLit_key (x : Id) : WideAt.IsKeyLit (idLit x) := keyLaw.key (key_id x)
theorem idLit_same (x y : Id) : (idLit x).sameKey (idLit y) = decide (x = y) := by
  by_cases h : x = y
  · subst h
    rw [WideAt.sameKey_self (idLit_key x), decide_eq_true rfl]
  · rw [Maps.sameKey_ne (idLit_ne h), decide_eq_false h]

/-- How an element of the map reads: as itself. -/
def slR (v : Value) : Option (DataW Value × List MemPlace) := match v with
  | .slice _ _ _ => some (.held v, [])
  | _ => none
theorem slR_mk (A : Option Addr) (n c : Nat) : slR (.slice A n c) = some (.held (.slice A n c), []) := rfl
theorem slR_inv {v : Value} {y : DataW Value × List MemPlace} (h : slR v = some y) : ∃ A n c, v = .slice A n c ∧ y = (.held (.slice A n c), []) := by
  unfold slR at h
  split at h
  · injection h with h
    exact ⟨_, _, _, rfl, h.symm⟩
  · cases h

end Go.Proofs.Ytnpdjlcekmpmoaa
