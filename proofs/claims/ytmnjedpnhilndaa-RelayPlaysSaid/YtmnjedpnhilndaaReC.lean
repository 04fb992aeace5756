/- Stage 16: places (an id and which chunk) as plain data, in rows and as the keys of a map; how an element of the map reads. -/
import Derived.Test.YtmnjedpnhilndaaReB
set_option maxRecDepth 20000
namespace Go.Proofs.Ytmnjedpnhilndaa
open Go.RowKit Go.Sort Go.Maps

/-- A place: which payload, and which of its chunks. -/
structure Pl where
  x : Id
  a : Nat
  ha : a < 4294967296
deriving DecidableEq

instance : Inhabited Pl := ⟨⟨default, 0, by decide⟩⟩
theorem Pl.same {p q : Pl} (h1 : p.x = q.x) (h2 : p.a = q.a) : p = q := by cases p; cases q; simp_all

/-- A frame's place. -/
def plOf (F : Fr) : Pl := ⟨F.id, F.at_ % 4294967296, Nat.mod_lt _ (by decide)⟩
theorem plOf_x (F : Fr) : (plOf F).x = F.id := rfl
theorem plOf_a {F : Fr} (h : F.Ok) : (plOf F).a = F.at_ := Nat.mod_eq_of_lt h.at_
def Pf.pl (x : Pf) : Pl := plOf x.F

def encPl (p : Pl) : List Value := [.int .u8 (p.x.f : Int), .int .u64 (p.x.s : Int), .int .u32 (p.a : Int)]
def plc (p : Pl) : Array Value := #[.int .u8 (p.x.f : Int), .int .u64 (p.x.s : Int), .int .u32 (p.a : Int)]
def valPl (p : Pl) : Value := .agg (plc p)
theorem encPl_len (p : Pl) : (encPl p).length = 3 := rfl
theorem plc_list (p : Pl) : (plc p).toList = encPl p := rfl
theorem plc_size (p : Pl) : (plc p).size = 3 := rfl
theorem encPl_one (p : Pl) : ∀ v ∈ encPl p, v.oneCell' = true := by
  intro v hv
  simp only [encPl, List.mem_cons, List.not_mem_nil, or_false] at hv
  rcases hv with rfl | rfl | rfl <;> rfl
theorem pls_at0 (l : List Pl) (i : Nat) (h : i < l.length) : (flat encPl l)[i * 3]? = some (.int .u8 (l[i].x.f : Int)) := by have := flat_at encPl_len l i 0 (by decide) h; simpa [encPl] using this
theorem pls_at1 (l : List Pl) (i : Nat) (h : i < l.length) : (flat encPl l)[i * 3 + 1]? = some (.int .u64 (l[i].x.s : Int)) := by have := flat_at encPl_len l i 1 (by decide) h; simpa [encPl] using this
theorem pls_at2 (l : List Pl) (i : Nat) (h : i < l.length) : (flat encPl l)[i * 3 + 1 + 1]? = some (.int .u32 (l[i].a : Int)) := by have := flat_at encPl_len l i 2 (by decide) h; simpa [encPl] using this
theorem Lies.pl {w : World} {B : Nat} {A : Option Addr} {l : List Pl} (h : Lies w B A (flat encPl l)) {i : Nat} (hi : i < l.length) :
    ∃ b off, A = some ⟨b, off, none⟩ ∧ b < B ∧ w.cell? ⟨b, off + i * 3, none⟩ = some (.int .u8 (l[i].x.f : Int)) ∧ w.cell? ⟨b, off + i * 3 + 1, none⟩ = some (.int .u64 (l[i].x.s : Int)) ∧ w.cell? ⟨b, off + i * 3 + 1 + 1, none⟩ = some (.int .u32 (l[i].a : Int)) := by
  obtain ⟨b, off, e, hb, h0⟩ := h.at_ (pls_at0 l i hi)
  obtain ⟨b', off', e', _, h1⟩ := h.at_ (pls_at1 l i hi)
  obtain ⟨b'', off'', e'', _, h2⟩ := h.at_ (pls_at2 l i hi)
  rw [e] at e' e''
  injection e' with e'
  injection e' with e1 e2
  injection e'' with e''
  injection e'' with e3 e4
  subst e1 e2 e3 e4
  exact ⟨b, off, e, hb, h0, by rwa [← Nat.add_assoc] at h1, by rwa [← Nat.add_assoc, ← Nat.add_assoc] at h2⟩
theorem pls_set (l : List Pl) (i : Nat) (p : Pl) (h : i < l.length) : (((flat encPl l).set (i * 3) (.int .u8 (p.x.f : Int))).set (i * 3 + 1) (.int .u64 (p.x.s : Int))).set (i * 3 + 1 + 1) (.int .u32 (p.a : Int)) = flat encPl (l.set i p) := by
  induction l generalizing i with
  | nil => exact absurd h (by simp)
  | cons q r ih =>
    cases i with
    | zero => simp [flat_cons, encPl]
    | succ i =>
      have hi : i < r.length := by simpa using h
      have := ih i hi
      rw [List.set_cons_succ, flat_cons, flat_cons, ← this]
      have e1 : (i + 1) * 3 = (encPl q).length + i * 3 := by rw [encPl_len]; omega
      rw [e1, List.set_append_right _ _ (by omega), List.set_append_right _ _ (by omega), List.set_append_right _ _ (by omega)]
      congr 1
      rw [show (encPl q).length + i * 3 - (encPl q).length = i * 3 by omega, show (encPl q).length + i * 3 + 1 - (encPl q).length = i * 3 + 1 by omega, show (encPl q).length + i * 3 + 1 + 1 - (encPl q).length = i * 3 + 1 + 1 by omega]

/-! ### The key of the map -/
theorem rowK : (69 : TypeId) < Try.prog.types.size := of_decide_eq_true (by kernel_rfl)
theorem wideK : (match Try.prog.underlying 69 with | some (.array _ _) | some (.struct _) => true | _ => false) = true := by kernel_rfl
theorem laidK : laidOutB Try.prog = true := by kernel_rfl
theorem deepK : Try.prog.keyType 69 = true := by kernel_rfl
/-- The law of the key's type. -/
theorem keyLaw : Keyed Try.prog 69 := Keyed.of_law (deep_law_laid laidK (m := 3) (by omega) rowK (by kernel_rfl) wideK)

def plLit (p : Pl) : Lit := .string (keyBytes [.int .u8 (p.x.f : Int), .int .u64 (p.x.s : Int), .int .u32 (p.a : Int)])

theorem wf8 {f : Nat} (h : f < 256) : (Lit.int .u8 (f : Int)).wf = true := by
  simp [Lit.wf, IntKind.min, IntKind.max, IntKind.bits, IntKind.signed]
  omega
theorem wf64 {s : Nat} (h : s < 18446744073709551616) : (Lit.int .u64 (s : Int)).wf = true := by
  simp [Lit.wf, IntKind.min, IntKind.max, IntKind.bits, IntKind.signed]
  omega
theorem wf32 {s : Nat} (h : s < 4294967296) : (Lit.int .u32 (s : Int)).wf = true := by
  simp [Lit.wf, IntKind.min, IntKind.max, IntKind.bits, IntKind.signed]
  omega

theorem litsI (d : Nat) (x : Id) : Try.prog.keyLits (d + 2) 34 [.int .u8 (x.f : Int), .int .u64 (x.s : Int)] = some [.int .u8 (x.f : Int), .int .u64 (x.s : Int)] := by
  have hu := Try.underlying34
  have hu8 := Try.underlying5
  have hu64 := Try.underlying32
  have hc : Try.prog.cellsOf 34 = 2 := by kernel_rfl
  have hc8 : Try.prog.cellsOf 5 = 1 := by kernel_rfl
  have hc64 : Try.prog.cellsOf 32 = 1 := by kernel_rfl
  have w8 := wf8 x.hf
  have w64 := wf64 x.hs
  simp [Program.keyLits, hu, hc, hc8, hc64, hu8, hu64, w8, w64]
theorem litsK (d : Nat) (p : Pl) : Try.prog.keyLits (d + 3) 69 (encPl p) = some [.int .u8 (p.x.f : Int), .int .u64 (p.x.s : Int), .int .u32 (p.a : Int)] := by
  have hu := Try.underlying69
  have hu32 := Try.underlying35
  have hc : Try.prog.cellsOf 69 = 3 := by kernel_rfl
  have hcI : Try.prog.cellsOf 34 = 2 := by kernel_rfl
  have hc32 : Try.prog.cellsOf 35 = 1 := by kernel_rfl
  have w32 := wf32 p.ha
  have hI := litsI d p.x
  have hA : Try.prog.keyLits (d + 2) 35 [.int .u32 (p.a : Int)] = some [.int .u32 (p.a : Int)] := by simp [Program.keyLits, hu32, w32]
  unfold encPl
  unfold Program.keyLits
  simp [hu, hc, hcI, hc32, hI, hA]

theorem sizeK : ∃ d, Try.prog.types.size + 1 = d + 3 := ⟨Try.prog.types.size - 2, by have : 1 < Try.prog.types.size := of_decide_eq_true (by kernel_rfl); omega⟩
theorem formedK (p : Pl) : (valPl p).formed Try.prog 69 = true := by
  have hu := Try.underlying69
  have hc : Try.prog.cellsOf 69 = 3 := by kernel_rfl
  simp [Value.formed, valPl, plc, hu, hc]
/-- What a place reads as, as a key. -/
theorem key_pl (p : Pl) : keyOf Try.prog 69 (valPl p) = some (plLit p) := by
  obtain ⟨d, hd⟩ := sizeK
  have hu := Try.underlying69
  have hk := deepK
  have hf := formedK p
  have hl := litsK d p
  unfold keyOf
  rw [hu, hd]
  simp only [hk, hf, Bool.and_self, if_true]
  show Option.map _ (Try.prog.keyLits (d + 3) 69 (encPl p)) = _
  rw [hl]
  rfl
theorem plLit_inj {p q : Pl} (h : plLit p = plLit q) : p = q := by
  have h1 := keyLaw.inj (key_pl p) (h ▸ key_pl q)
  unfold valPl plc at h1
  simp only [Value.agg.injEq] at h1
  have h2 := congrArg Array.toList h1
  simp only [List.cons.injEq, Value.int.injEq, true_and, and_true] at h2
  exact Pl.same (Id.same (by omega) (by omega)) (by omega)
theorem plLit_ne {p q : Pl} (h : p ≠ q) : plLit p ≠ plLit q := fun e => h (plLit_inj e)
theorem plLit_key (p : Pl) : WideAt.IsKeyLit (plLit p) := keyLaw.key (key_pl p)

/-- How an element of the map reads: as itself. -/
def frR (v : Value) : Option (DataW Value × List MemPlace) := match v with
  | .agg cs => some (.held (.agg cs), [])
  | _ => none
theorem frR_mk (cs : Array Value) : frR (.agg cs) = some (.held (.agg cs), []) := rfl
theorem frR_inv {v : Value} {y : DataW Value × List MemPlace} (h : frR v = some y) : ∃ cs, v = .agg cs ∧ y = (.held (.agg cs), []) := by
  unfold frR at h
  split at h
  · injection h with h
    exact ⟨_, rfl, h.symm⟩
  · cases h

end Go.Proofs.Ytmnjedpnhilndaa
