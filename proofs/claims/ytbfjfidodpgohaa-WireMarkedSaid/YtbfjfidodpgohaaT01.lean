/- Words for memory, for the walks of this seat: a slice that lies somewhere and reads as a list of one-cell values (nil let in); append onto a slice that the call owns; bytes as values. No conditions beyond those that each theorem names. -/
import Derived.WalkKit
import Derived.Maps.AppendAt
import Derived.Deep.AppendLies
import Derived.Deep.Draws
import Derived.ProofKit
import Derived.OpenShut
import Derived.Deep.Slices
import Derived.Test.YtbfjfidodpgohaaRows
import Derived.Laws.OwnMore
import Derived.Lib.Hide
import Derived.WalkSpells
import Derived.WalkLawsBesides
import Derived.Below
import Derived.Laws.BytesString
import Derived.Laws.Cells
import Derived.Shelf.Abstract
import Derived.Deep.RegionHeld

namespace Go.Proofs.Ytbfjfidodpgohaa
open Go.RowKit

theorem add_plain (b off j : Nat) : (⟨b, off, none⟩ : Addr).add j = ⟨b, off + j, none⟩ := by
  unfold Addr.add
  split
  · next h => subst h; rfl
  · rfl

/-- The slice that begins at A reads as xs, in one block below B. -/
def Lies (w : World) (B : Nat) (A : Option Addr) (xs : List Value) : Prop :=
  xs ≠ [] → ∃ b off, A = some ⟨b, off, none⟩ ∧ b < B ∧ ∀ i u, xs[i]? = some u → w.cell? ⟨b, off + i, none⟩ = some u

section
variable {w w' : World} {B : Nat} {A : Option Addr} {xs : List Value}

theorem Lies.nil : Lies w B A [] := fun h => absurd rfl h

theorem Lies.below (h : Lies w B A xs) (hb : Below B w w') : Lies w' B A xs := fun hn => by
  obtain ⟨b, off, e, hlt, hc⟩ := h hn
  exact ⟨b, off, e, hlt, fun i u hu => (hb.cell (p := ⟨b, off + i, none⟩) hlt).trans (hc i u hu)⟩

theorem Lies.more {B' : Nat} (h : Lies w B A xs) (hB : B ≤ B') : Lies w B' A xs := fun hn => by
  obtain ⟨b, off, e, hlt, hc⟩ := h hn
  exact ⟨b, off, e, by omega, hc⟩

theorem Lies.at_ (h : Lies w B A xs) {k : Nat} {u : Value} (hk : xs[k]? = some u) : ∃ b off, A = some ⟨b, off, none⟩ ∧ b < B ∧ w.cell? ⟨b, off + k, none⟩ = some u := by
  obtain ⟨b, off, e, hlt, hc⟩ := h (by rintro rfl; simp at hk)
  exact ⟨b, off, e, hlt, hc k u hk⟩

theorem Lies.of_own {base n c : Nat} {e : TypeId} (h : w.ownsRow base e 1 (.slice A n c) n xs) : Lies w w.heap.size A xs := fun hn => by
  have hl := h.1
  have hpos : 0 < n := by
    rcases Nat.eq_zero_or_pos n with h0 | h0
    · subst h0; exact absurd (List.eq_nil_of_length_eq_zero (by simpa using hl)) hn
    · exact h0
  obtain ⟨g, cap, hv, _, hlt⟩ := h.form hpos
  have hA : A = some ⟨g, 0, none⟩ := by injection hv
  subst hA
  refine ⟨g, 0, rfl, hlt, fun i u hu => ?_⟩
  have := h.cells (g := g) rfl i u hu
  rwa [add_plain] at this
end

/-- What an owned row is, written out as a slice. -/
theorem own_slice {w : World} {base : Nat} {e : TypeId} {v : Value} {n : Nat} {xs : List Value} (h : w.ownsRow base e 1 v n xs) :
    ∃ A c, v = .slice A n c ∧ n ≤ c ∧ c ≤ maxLen := by
  rcases h.2 with ⟨rfl, rfl⟩ | ⟨g, cap, cur, rfl, _, _, hc, hm, _⟩
  · exact ⟨none, 0, rfl, Nat.le_refl _, Nat.zero_le _⟩
  · exact ⟨_, cap, rfl, hc, hm⟩

theorem own_len {w : World} {base : Nat} {e : TypeId} {v : Value} {n : Nat} {xs : List Value} (h : w.ownsRow base e 1 v n xs) : xs.length = n := by
  have := h.1; omega

theorem own_below {w w' : World} {base : Nat} {e : TypeId} {size : Nat} {v : Value} {n : Nat} {xs : List Value} (h : w.ownsRow base e size v n xs) (hb : Below w.heap.size w w') : w'.ownsRow base e size v n xs := by
  refine ⟨h.1, ?_⟩
  rcases h.2 with hn | ⟨g, cap, cur, rfl, hbg, hg, rest⟩
  · exact .inl hn
  · exact .inr ⟨g, cap, cur, rfl, hbg, (hb.block g (Array.getElem?_eq_some_iff.1 hg).1).trans hg, rest⟩

theorem own_base {w : World} {base base' : Nat} {e : TypeId} {size : Nat} {v : Value} {n : Nat} {xs : List Value} (h : w.ownsRow base e size v n xs) (hb : base' ≤ base) : w.ownsRow base' e size v n xs := by
  refine ⟨h.1, ?_⟩
  rcases h.2 with hn | ⟨g, cap, cur, rfl, hbg, rest⟩
  · exact .inl hn
  · exact .inr ⟨g, cap, cur, rfl, Nat.le_trans hb hbg, rest⟩

theorem run_append_empty {P : Program} {w : World} (base : Nat) (t ty e : TypeId) (i : TypeInfo) (ht : P.underlying t = some (.slice e)) (hi : P.info? e = some i)
    (v : Value) (n : Nat) (xs : List Value) (hown : w.ownsRow base e 1 v n xs) (c : Nat) :
    (Builtin.append_ #[t, t] ty #[v, .slice none 0 c]).run P w = .ok v w := by
  rcases hown.2 with ⟨rfl, rfl⟩ | ⟨g, cap, cur, rfl, _, _, hnc, _⟩
  · simp [Builtin.append_, run_underlying ht, sizeOf, typeInfo, hi, Builtin.lenOf, Builtin.firstCells]
  · simp [Builtin.append_, run_underlying ht, sizeOf, typeInfo, hi, Builtin.lenOf, Builtin.firstCells, hnc, storeCells]

/-- append(owned, src...): src nil or not. -/
theorem run_append_lst {P : Program} {w : World} (base : Nat) (t ty e : TypeId) (i : TypeInfo) (z : Value) (bytes : Nat) (ht : P.underlying t = some (.slice e)) (hi : P.info? e = some i) (hz : i.zero = some z)
    (hsize : i.size = 1) (hby : i.bytes = bytes) (hzs : z.cells.size = 1) (v : Value) (n : Nat) (xs : List Value) (hown : w.ownsRow base e 1 v n xs)
    (B : Nat) (A : Option Addr) (m c : Nat) (news : List Value) (hl : news.length = m) (hlies : Lies w B A news) (h1 : ∀ u ∈ news, u.oneCell' = true)
    (h63 : n + m ≤ maxLen) (hbytes : (n + m) * bytes ≤ 140737488355328) (hbase : base ≤ w.heap.size) :
    ∃ v' w', (Builtin.append_ #[t, t] ty #[v, .slice A m c]).run P w = .ok v' w' ∧ w'.ownsRow base e 1 v' (n + m) (xs ++ news) ∧ w.grownBy w' v.ownBlock ∧
      (v'.ownBlock = v.ownBlock ∨ v'.ownBlock = some w.heap.size) := by
  rcases A with _ | ad
  · have hnil : news = [] := by
      rcases news with _ | ⟨u, r⟩
      · rfl
      · obtain ⟨_, _, h, _⟩ := hlies (by simp)
        cases h
    subst hnil
    have hm : m = 0 := by simpa using hl.symm
    subst hm
    exact ⟨v, w, run_append_empty base t ty e i ht hi v n xs hown c, by simpa using hown, World.grownBy.refl w _, .inl rfl⟩
  · have hcells : ∀ j u, news[j]? = some u → w.cell? (ad.add j) = some u := fun j u hu => by
      obtain ⟨b, off, he, _, hc⟩ := hlies (by rintro rfl; simp at hu)
      injection he with he
      subst he
      rw [add_plain]
      exact hc j u hu
    obtain ⟨v', w', hrun, h2, h3, _, h5⟩ := run_append_own_at (P := P) w base t ty e i z 1 bytes ht hi hz hsize hby hzs (by decide) v n xs hown ad m c news (by omega) hcells h1 h63 hbytes hbase
    exact ⟨v', w', hrun, h2, h3, h5⟩

theorem wpList_append_lst {P : Program} {w : World} {ops : Array Oper} {rest : List Oper} {o : Oper} {a : Act} {Q : Exit → Act → World → Prop} (hgd : o.guard = none) (s x : Operand) (t : TypeId)
    (ho : o.op = .call { callee := .builtin .append, args := #[s, x], argTypes := #[t, t] })
    (base : Nat) (e : TypeId) (i : TypeInfo) (z : Value) (bytes : Nat) (ht : P.underlying t = some (.slice e)) (hi : P.info? e = some i) (hz : i.zero = some z)
    (hsize : i.size = 1) (hby : i.bytes = bytes) (hzs : z.cells.size = 1) (v : Value) (n : Nat) (xs : List Value) (hs : a.eval s = v) (hown : w.ownsRow base e 1 v n xs)
    (B : Nat) (A : Option Addr) (m c : Nat) (news : List Value) (hx : a.eval x = .slice A m c) (hl : news.length = m) (hlies : Lies w B A news) (h1 : ∀ u ∈ news, u.oneCell' = true)
    (h63 : n + m ≤ maxLen) (hbytes : (n + m) * bytes ≤ 140737488355328) (hbase : base ≤ w.heap.size)
    (h : ∀ v' w', w'.ownsRow base e 1 v' (n + m) (xs ++ news) → w.grownBy w' v.ownBlock → Below base w w' → (v'.ownBlock = v.ownBlock ∨ v'.ownBlock = some w.heap.size) → wpList P ops Q rest (a.put o.dst v') w') :
    wpList P ops Q (o :: rest) a w := by
  refine wpList_plain hgd fun K hK => ?_
  obtain ⟨v', w', hrun, h2, h3, h4⟩ := run_append_lst (P := P) (w := w) base t o.type e i z bytes ht hi hz hsize hby hzs v n xs hown B A m c news hl hlies h1 h63 hbytes hbase
  have hk := hK _ _ (h v' w' h2 h3 ((Below.refl base w).grown h3 hbase (fun k e => (hown.lt k e).1)) h4)
  unfold Oper.wp execOp
  simp only [ho, resolve, invoke, builtin, Sem.run_bind, Sem.run_pure, Result.andThen_ok, List.map_toArray, List.map_cons, List.map_nil, hs, hx, hrun]
  exact hk

/-- A block that the call has just laid for a literal list. -/
theorem lies_new (w : World) (cs : Array Value) (t : TypeId) : Lies (w.alloc (.cells cs t)) (w.heap.size + 1) (some ⟨w.heap.size, 0, none⟩) cs.toList := fun _ =>
  ⟨w.heap.size, 0, rfl, by omega, fun i u hu => by
    have := World.news_of_block (w := w.alloc (.cells cs t)) (B := w.heap.size) (heap_alloc_new w _) i u hu
    rwa [add_plain] at this⟩

def bv (c : UInt8) : Value := .int .u8 (c.toNat : Int)
def bvs (l : List UInt8) : List Value := l.map bv
def uv (n : Nat) : Value := .int .u64 (n : Int)

theorem bvs_append (a b : List UInt8) : bvs (a ++ b) = bvs a ++ bvs b := List.map_append
theorem bvs_length (a : List UInt8) : (bvs a).length = a.length := List.length_map _
theorem bvs_one (l : List UInt8) : ∀ u ∈ bvs l, u.oneCell' = true := by
  intro u hu
  simp only [bvs, List.mem_map] at hu
  obtain ⟨c, _, rfl⟩ := hu
  rfl
theorem bvs_at {l : List UInt8} {k : Nat} (h : k < l.length) : (bvs l)[k]? = some (bv l[k]) := by simp [bvs, h]

end Go.Proofs.Ytbfjfidodpgohaa

/- Arguments opened: a slice of bytes, of numbers, of rows of bytes, as the walks of this seat want them. No conditions beyond those that each theorem names. -/
namespace Go.Proofs.Ytbfjfidodpgohaa
open Go.ChangeShapes Go.WideShapes Go.ChangeAt Go.RowKit

def uvs (l : List Nat) : List Value := l.map uv

theorem lies_ints {w : World} {k : IntKind} {x : Addr} {zs : List Int} {n : Nat} (hcell : ∀ i, i < zs.length → w.cell? (x.add i) = some (.int k (zs.getD i 0))) :
    Lies w w.heap.size (some x) ((zs.take n).map (Value.int k)) := fun hn => by
  have hp : 0 < zs.length := by
    rcases zs with _ | ⟨z, t⟩
    · simp at hn
    · simp
  obtain ⟨b, off, rfl, hc⟩ := ints_at hcell hp
  have hlt := World.block_lt_of_cell? w _ (hc 0 hp)
  refine ⟨b, off, rfl, hlt, fun i u hu => ?_⟩
  rw [List.getElem?_map, Option.map_eq_some_iff] at hu
  obtain ⟨z, hz, rfl⟩ := hu
  rw [List.getElem?_take] at hz
  split at hz
  · obtain ⟨hi, rfl⟩ := List.getElem?_eq_some_iff.1 hz
    rw [hc i hi]
    simp [List.getD, hi]
  · cases hz

theorem ints_bytes {zs : List Int} (h : ∀ n ∈ zs, (Lit.int .u8 n).wf = true) : zs.map (Value.int .u8) = bvs (zs.map fun z => UInt8.ofNat z.toNat) := by
  unfold bvs
  rw [List.map_map]
  refine List.map_congr_left fun z hz => ?_
  have := bounds_u8 (h z hz)
  have e : (UInt8.ofNat z.toNat).toNat = z.toNat := by simp [UInt8.toNat_ofNat']; omega
  simp only [Function.comp, bv, e]
  congr 1
  omega

theorem ints_nums {zs : List Int} (h : ∀ n ∈ zs, (Lit.int .u64 n).wf = true) : zs.map (Value.int .u64) = uvs (zs.map Int.toNat) := by
  unfold uvs
  rw [List.map_map]
  refine List.map_congr_left fun z hz => ?_
  have := bounds_u64 (h z hz)
  simp only [Function.comp, uv]
  congr 1
  omega

/-- A value that is a slice of just these bytes, below block B. -/
def Byt (w : World) (B : Nat) (v : Value) (l : List UInt8) : Prop := ∃ A n c, v = .slice A n c ∧ l.length = n ∧ n ≤ c ∧ c ≤ maxLen ∧ Lies w B A (bvs l)

section
variable {H : Type} {enc : TypeId × Value → H} {P : Program} {w : World} {base : Nat} {spare : Nat → Bool} {held : Bool}

theorem open_bytes {t e : TypeId} {fuel : Nat} {v : Value} {x : DataW H × List MemPlace} (ht : P.underlying t = some (.slice e)) (he : P.underlying e = some (.int .u8)) (hc : P.cellsOf e = 1)
    (h : DataW.trod enc P w base spare held fuel t [v] = some x) : ∃ l, Byt w w.heap.size v l := by
  rcases open_ints ht he hc h with ⟨hcs, _⟩ | ⟨a, len, cap, zs, hcs, _, hl, hm, hz, _, hcell, hwz⟩
  · injection hcs with hcs
    subst hcs
    exact ⟨[], none, 0, 0, rfl, rfl, Nat.le_refl _, Nat.zero_le _, Lies.nil⟩
  · injection hcs with hcs
    subst hcs
    have hlz : len ≤ zs.length := by rw [hz]; split <;> omega
    refine ⟨(zs.take len).map fun z => UInt8.ofNat z.toNat, some a, len, cap, rfl, by simp; omega, hl, hm, ?_⟩
    rw [← ints_bytes (fun n hn => hwz n (List.mem_of_mem_take hn))]
    exact lies_ints hcell

theorem open_nums {t e : TypeId} {fuel : Nat} {v : Value} {x : DataW H × List MemPlace} (ht : P.underlying t = some (.slice e)) (he : P.underlying e = some (.int .u64)) (hc : P.cellsOf e = 1)
    (h : DataW.trod enc P w base spare held fuel t [v] = some x) : ∃ l A n c, v = .slice A n c ∧ l.length = n ∧ n ≤ c ∧ c ≤ maxLen ∧ Lies w w.heap.size A (uvs l) ∧ ∀ x ∈ l, x < 18446744073709551616 := by
  rcases open_ints ht he hc h with ⟨hcs, _⟩ | ⟨a, len, cap, zs, hcs, _, hl, hm, hz, _, hcell, hwz⟩
  · injection hcs with hcs
    subst hcs
    exact ⟨[], none, 0, 0, rfl, rfl, Nat.le_refl _, Nat.zero_le _, Lies.nil, by simp⟩
  · injection hcs with hcs
    subst hcs
    have hlz : len ≤ zs.length := by rw [hz]; split <;> omega
    refine ⟨(zs.take len).map Int.toNat, some a, len, cap, rfl, by simp; omega, hl, hm, ?_, ?_⟩
    · rw [← ints_nums (fun n hn => hwz n (List.mem_of_mem_take hn))]
      exact lies_ints hcell
    · intro x hx
      obtain ⟨z, hz, rfl⟩ := List.mem_map.1 hx
      have := bounds_u64 (hwz z (List.mem_of_mem_take hz))
      omega

/-- A slice of rows of bytes: its cells, and of each what it reads as. -/
def BytRows (w : World) (B : Nat) (vs : List Value) (ls : List (List UInt8)) : Prop := vs.length = ls.length ∧ ∀ i, (h : i < vs.length) → (h' : i < ls.length) → Byt w B vs[i] ls[i]

theorem open_byteRows {t e e' : TypeId} {fuel : Nat} {v : Value} {x : DataW H × List MemPlace} (ht : P.underlying t = some (.slice e)) (hc : P.cellsOf e = 1) (he : P.underlying e = some (.slice e')) (he' : P.underlying e' = some (.int .u8)) (hc' : P.cellsOf e' = 1)
    (h : DataW.trod enc P w base spare held fuel t [v] = some x) : ∃ ls vs A n c, v = .slice A n c ∧ vs.length = n ∧ n ≤ c ∧ c ≤ maxLen ∧ Lies w w.heap.size A vs ∧ BytRows w w.heap.size vs ls := by
  rcases Deep.open_slice1 ht hc h with ⟨hcs, _⟩ | ⟨a, len, cap, m, n, V, D, Pl, hcs, _, hl, hm, hmm, _, hx⟩
  · injection hcs with hcs
    subst hcs
    exact ⟨[], [], none, 0, 0, rfl, rfl, Nat.le_refl _, Nat.zero_le _, Lies.nil, rfl, by simp⟩
  · injection hcs with hcs
    subst hcs
    have hlm : len ≤ m := by rw [hmm]; split <;> omega
    obtain ⟨L, hL⟩ := Deep.choose_lt (α := List UInt8) (n := len) (p := fun i l => Byt w w.heap.size (V i) l) (fun i hi => open_bytes he he' hc' (hx i (by omega)).2)
    refine ⟨(List.range len).map L, (List.range len).map V, some a, len, cap, rfl, by simp, hl, hm, ?_, by simp, ?_⟩
    · intro hn
      have hp : 0 < len := by
        rcases Nat.eq_zero_or_pos len with h0 | h0
        · subst h0; simp at hn
        · exact h0
      have h0 := (hx 0 (by omega)).1
      obtain ⟨b, off, spot⟩ := a
      have hspot : spot = none := by simpa [Addr.add] using World.cell?_spot h0
      subst hspot
      refine ⟨b, off, rfl, ?_, fun i u hu => ?_⟩
      · have := World.block_lt_of_cell? w _ h0
        rwa [Go.Proofs.Ytbfjfidodpgohaa.add_plain] at this
      · rw [List.getElem?_map, Option.map_eq_some_iff] at hu
        obtain ⟨j, hj, rfl⟩ := hu
        obtain ⟨hi, rfl⟩ := List.getElem?_eq_some_iff.1 hj
        have := (hx i (by simp at hi; omega)).1
        rw [Go.Proofs.Ytbfjfidodpgohaa.add_plain] at this
        simpa using this
    · intro i h1 _
      have := hL i (by simpa using h1)
      simpa using this
end

end Go.Proofs.Ytbfjfidodpgohaa

/- Words for layer 3: ids and runs, and lists of them as cells of memory; slices of the call's own that hold them. -/
namespace Go.Proofs.Ytbfjfidodpgohaa
open Go.RowKit

/-- An id: its sender and its number. -/
structure Id where
  f : Nat
  s : Nat
  hf : f < 256
  hs : s < 18446744073709551616
deriving DecidableEq

instance : Inhabited Id := ⟨⟨0, 0, by decide, by decide⟩⟩

/-- A run: its sender, its first number, how many. -/
structure Rn where
  f : Nat
  a : Nat
  c : Nat
  hf : f < 256
  ha : a < 18446744073709551616
  hc : c < 18446744073709551616
deriving DecidableEq

instance : Inhabited Rn := ⟨⟨0, 0, 0, by decide, by decide, by decide⟩⟩

theorem Id.same {x y : Id} (h1 : x.f = y.f) (h2 : x.s = y.s) : x = y := by cases x; cases y; simp_all
theorem Rn.same {x y : Rn} (h1 : x.f = y.f) (h2 : x.a = y.a) (h3 : x.c = y.c) : x = y := by cases x; cases y; simp_all

def encId (x : Id) : List Value := [.int .u8 (x.f : Int), .int .u64 (x.s : Int)]
def encRn (x : Rn) : List Value := [.int .u8 (x.f : Int), .int .u64 (x.a : Int), .int .u64 (x.c : Int)]
def valId (x : Id) : Value := .agg #[.int .u8 (x.f : Int), .int .u64 (x.s : Int)]
def valRn (x : Rn) : Value := .agg #[.int .u8 (x.f : Int), .int .u64 (x.a : Int), .int .u64 (x.c : Int)]

theorem encId_len (x : Id) : (encId x).length = 2 := rfl
theorem encRn_len (x : Rn) : (encRn x).length = 3 := rfl
theorem encId_one (x : Id) : ∀ v ∈ encId x, v.oneCell' = true := by
  intro v hv
  simp [encId] at hv
  rcases hv with rfl | rfl <;> rfl
theorem encRn_one (x : Rn) : ∀ v ∈ encRn x, v.oneCell' = true := by
  intro v hv
  simp [encRn] at hv
  rcases hv with rfl | rfl | rfl <;> rfl

section
variable {α : Type} {enc : α → List Value} {k : Nat}

/-- The cells of a list, one behind the other. -/
def flat (enc : α → List Value) (l : List α) : List Value := l.flatMap enc

theorem flat_nil : flat enc [] = [] := rfl
theorem flat_cons (x : α) (l : List α) : flat enc (x :: l) = enc x ++ flat enc l := by simp [flat]
theorem flat_append (a b : List α) : flat enc (a ++ b) = flat enc a ++ flat enc b := by simp [flat]
theorem flat_length (hk : ∀ x, (enc x).length = k) (l : List α) : (flat enc l).length = l.length * k := by
  induction l with
  | nil => simp [flat]
  | cons x l ih => rw [flat_cons, List.length_append, hk, ih, List.length_cons, Nat.succ_mul]; omega

theorem flat_one (h1 : ∀ x, ∀ v ∈ enc x, v.oneCell' = true) (l : List α) : ∀ v ∈ flat enc l, v.oneCell' = true := by
  intro v hv
  simp only [flat, List.mem_flatMap] at hv
  obtain ⟨x, _, hx⟩ := hv
  exact h1 x v hx

theorem flat_at (hk : ∀ x, (enc x).length = k) : ∀ (l : List α) (i j : Nat), j < k → (h : i < l.length) → (flat enc l)[i * k + j]? = (enc l[i])[j]?
  | [], i, j, _, h => by simp at h
  | x :: l, 0, j, hj, _ => by
    rw [flat_cons, Nat.zero_mul, Nat.zero_add, List.getElem?_append_left (by rw [hk]; exact hj)]
    rfl
  | x :: l, i + 1, j, hj, h => by
    rw [flat_cons, List.getElem?_append_right (by rw [hk, Nat.succ_mul]; omega), hk, show (i + 1) * k + j - k = i * k + j by rw [Nat.succ_mul]; omega]
    exact flat_at hk l i j hj (by simpa using h)

theorem flat_take (hk : ∀ x, (enc x).length = k) (l : List α) (m : Nat) (h : m ≤ l.length) : (flat enc l).take (m * k) = flat enc (l.take m) := by
  conv => lhs; rw [← List.take_append_drop m l, flat_append]
  rw [List.take_left']
  rw [flat_length hk, List.length_take, Nat.min_eq_left h]

theorem flat_drop (hk : ∀ x, (enc x).length = k) (l : List α) (m : Nat) (h : m ≤ l.length) : (flat enc l).drop (m * k) = flat enc (l.drop m) := by
  conv => lhs; rw [← List.take_append_drop m l, flat_append]
  rw [List.drop_left']
  rw [flat_length hk, List.length_take, Nat.min_eq_left h]

end

theorem ids_set (l : List Id) (i : Nat) (x : Id) (h : i < l.length) : ((flat encId l).set (i * 2) (.int .u8 (x.f : Int))).set (i * 2 + 1) (.int .u64 (x.s : Int)) = flat encId (l.set i x) := by
  induction l generalizing i with
  | nil => simp at h
  | cons y l ih =>
    rcases i with _ | i
    · simp [flat_cons, encId]
    · have := ih i (by simpa using h)
      rw [List.set_cons_succ, flat_cons, flat_cons, ← this]
      simp [encId, Nat.succ_mul]

theorem rns_set (l : List Rn) (i : Nat) (x : Rn) (h : i < l.length) : (((flat encRn l).set (i * 3) (.int .u8 (x.f : Int))).set (i * 3 + 1) (.int .u64 (x.a : Int))).set (i * 3 + 2) (.int .u64 (x.c : Int)) = flat encRn (l.set i x) := by
  induction l generalizing i with
  | nil => simp at h
  | cons y l ih =>
    rcases i with _ | i
    · simp [flat_cons, encRn]
    · have := ih i (by simpa using h)
      rw [List.set_cons_succ, flat_cons, flat_cons, ← this]
      simp [encRn, Nat.succ_mul]

theorem ids_at0 (l : List Id) (i : Nat) (h : i < l.length) : (flat encId l)[i * 2]? = some (.int .u8 (l[i].f : Int)) := by have := flat_at encId_len l i 0 (by decide) h; simpa [encId] using this
theorem ids_at1 (l : List Id) (i : Nat) (h : i < l.length) : (flat encId l)[i * 2 + 1]? = some (.int .u64 (l[i].s : Int)) := by have := flat_at encId_len l i 1 (by decide) h; simpa [encId] using this
theorem rns_at0 (l : List Rn) (i : Nat) (h : i < l.length) : (flat encRn l)[i * 3]? = some (.int .u8 (l[i].f : Int)) := by have := flat_at encRn_len l i 0 (by decide) h; simpa [encRn] using this
theorem rns_at1 (l : List Rn) (i : Nat) (h : i < l.length) : (flat encRn l)[i * 3 + 1]? = some (.int .u64 (l[i].a : Int)) := by have := flat_at encRn_len l i 1 (by decide) h; simpa [encRn] using this
theorem rns_at2 (l : List Rn) (i : Nat) (h : i < l.length) : (flat encRn l)[i * 3 + 1 + 1]? = some (.int .u64 (l[i].c : Int)) := by have := flat_at encRn_len l i 2 (by decide) h; simpa [encRn] using this

theorem Lies.on {w w' : World} {A : Option Addr} {xs : List Value} (h : Lies w w.heap.size A xs) (hb : Below w.heap.size w w') : Lies w' w'.heap.size A xs := (h.below hb).more hb.size

/-- The ids that a slice reads as, cell by cell. -/
theorem Lies.id {w : World} {B : Nat} {A : Option Addr} {l : List Id} (h : Lies w B A (flat encId l)) {i : Nat} (hi : i < l.length) :
    ∃ b off, A = some ⟨b, off, none⟩ ∧ b < B ∧ w.cell? ⟨b, off + i * 2, none⟩ = some (.int .u8 (l[i].f : Int)) ∧ w.cell? ⟨b, off + i * 2 + 1, none⟩ = some (.int .u64 (l[i].s : Int)) := by
  obtain ⟨b, off, rfl, hb, hc⟩ := h (by intro h0; have := ids_at0 l i hi; rw [h0] at this; simp at this)
  exact ⟨b, off, rfl, hb, hc _ _ (ids_at0 l i hi), hc _ _ (ids_at1 l i hi)⟩

theorem Lies.rn {w : World} {B : Nat} {A : Option Addr} {l : List Rn} (h : Lies w B A (flat encRn l)) {i : Nat} (hi : i < l.length) :
    ∃ b off, A = some ⟨b, off, none⟩ ∧ b < B ∧ w.cell? ⟨b, off + i * 3, none⟩ = some (.int .u8 (l[i].f : Int)) ∧ w.cell? ⟨b, off + i * 3 + 1, none⟩ = some (.int .u64 (l[i].a : Int)) ∧ w.cell? ⟨b, off + i * 3 + 1 + 1, none⟩ = some (.int .u64 (l[i].c : Int)) := by
  obtain ⟨b, off, rfl, hb, hc⟩ := h (by intro h0; have := rns_at0 l i hi; rw [h0] at this; simp at this)
  exact ⟨b, off, rfl, hb, hc _ _ (rns_at0 l i hi), hc _ _ (rns_at1 l i hi), hc _ _ (rns_at2 l i hi)⟩

/-- A slice of the call's own reads as what it holds. -/
theorem Lies.of_ownK {w : World} {A : Option Addr} {xs : List Value} {base n c k : Nat} {e : TypeId} (h : w.ownsRow base e k (.slice A n c) n xs) : Lies w w.heap.size A xs := fun hn => by
  have hl := h.1
  have hpos : 0 < n := by
    rcases Nat.eq_zero_or_pos n with h0 | h0
    · subst h0; exact absurd (List.eq_nil_of_length_eq_zero (by simpa using hl)) hn
    · exact h0
  obtain ⟨g, cap, hv, _, hlt⟩ := h.form hpos
  have hA : A = some ⟨g, 0, none⟩ := by injection hv
  subst hA
  refine ⟨g, 0, rfl, hlt, fun i u hu => ?_⟩
  have := h.cells (g := g) rfl i u hu
  rwa [add_plain] at this

theorem own_sliceK {w : World} {base k : Nat} {e : TypeId} {v : Value} {n : Nat} {xs : List Value} (h : w.ownsRow base e k v n xs) :
    ∃ A c, v = .slice A n c ∧ n ≤ c ∧ c ≤ maxLen := by
  rcases h.2 with ⟨rfl, rfl⟩ | ⟨g, cap, cur, rfl, _, _, hc, hm, _⟩
  · exact ⟨none, 0, rfl, Nat.le_refl _, Nat.zero_le _⟩
  · exact ⟨_, cap, rfl, hc, hm⟩

/-- What stands in front of such a slice. -/
theorem own_front {w : World} {base k : Nat} {e : TypeId} {A : Option Addr} {n c m : Nat} {xs : List Value} (h : w.ownsRow base e k (.slice A n c) n xs) (hm : m ≤ n) : w.ownsRow base e k (.slice A m c) m (xs.take (m * k)) := by
  refine ⟨?_, ?_⟩
  · rw [List.length_take, h.1, Nat.min_eq_left (Nat.mul_le_mul_right k hm)]
  · rcases h.2 with ⟨h0, rfl⟩ | ⟨g, cap, cur, hv, hb, hg, hc, hcm, hcs, ht⟩
    · injection h0 with e1 e2 e3
      subst e1 e3
      have : m = 0 := by omega
      subst this
      exact .inl ⟨rfl, rfl⟩
    · injection hv with e1 e2 e3
      subst e1 e3
      refine .inr ⟨g, c, cur, rfl, hb, hg, by omega, hcm, hcs, ?_⟩
      rw [← ht, List.take_take, Nat.min_eq_left (Nat.mul_le_mul_right k hm)]

/-- A block that the call has just laid. -/
theorem own_lit {k : Nat} (w : World) (cs : Array Value) (e : TypeId) (n base : Nat) (hb : base ≤ w.heap.size) (hn : n ≤ maxLen) (hs : cs.size = n * k) : (w.alloc (.cells cs e)).ownsRow base e k (.slice (some ⟨w.heap.size, 0, none⟩) n n) n cs.toList :=
  World.ownsRow_lit w cs n hb hn hs

end Go.Proofs.Ytbfjfidodpgohaa

/- Plain facts on numbers as bytes: the digits of a number to the base 256, lowest first, and the number that such digits say. No conditions; nothing of the program is named here. -/
namespace Go.Proofs.Ytbfjfidodpgohaa

def digs (n : Nat) : List UInt8 := if n = 0 then [] else UInt8.ofNat (n % 256) :: digs (n / 256)
termination_by n
decreasing_by omega

theorem digs_zero : digs 0 = [] := by rw [digs]; simp
theorem digs_pos {n : Nat} (h : 0 < n) : digs n = UInt8.ofNat (n % 256) :: digs (n / 256) := by rw [digs, if_neg (by omega)]

def val : List UInt8 → Nat
  | [] => 0
  | c :: t => c.toNat + 256 * val t

theorem byte_toNat (n : Nat) : (UInt8.ofNat (n % 256)).toNat = n % 256 := by
  simp [UInt8.toNat_ofNat']

theorem val_digs (n : Nat) : val (digs n) = n := by
  induction n using Nat.strongRecOn with
  | ind n ih =>
    rcases Nat.eq_zero_or_pos n with h | h
    · subst h; rw [digs_zero]; rfl
    · rw [digs_pos h, val, ih _ (by omega), byte_toNat]; omega

theorem digs_le (k : Nat) : ∀ n, n < 256 ^ k → (digs n).length ≤ k := by
  induction k with
  | zero => intro n h; have : n = 0 := by simp at h; omega
            subst this; rw [digs_zero]; simp
  | succ k ih =>
    intro n h
    rcases Nat.eq_zero_or_pos n with h0 | h0
    · subst h0; rw [digs_zero]; simp
    · rw [digs_pos h0, List.length_cons]
      have := ih (n / 256) (by rw [Nat.pow_succ] at h; omega)
      omega

theorem digs_le8 {n : Nat} (h : n < 18446744073709551616) : (digs n).length ≤ 8 :=
  digs_le 8 n (Nat.lt_of_lt_of_eq h (by decide))

def enc (n : Nat) : List UInt8 := UInt8.ofNat (digs n).length :: digs n
def encs : List Nat → List UInt8
  | [] => []
  | n :: t => enc n ++ encs t
def row (r : List UInt8) : List UInt8 := enc r.length ++ r
def rows : List (List UInt8) → List UInt8
  | [] => []
  | r :: t => row r ++ rows t

theorem encs_append (a b : List Nat) : encs (a ++ b) = encs a ++ encs b := by
  induction a with
  | nil => rfl
  | cons x a ih => simp [encs, ih]
theorem rows_append (a b : List (List UInt8)) : rows (a ++ b) = rows a ++ rows b := by
  induction a with
  | nil => rfl
  | cons x a ih => simp [rows, ih]

theorem enc_len {n : Nat} (h : n < 18446744073709551616) : (enc n).length ≤ 9 := by
  have := digs_le8 h
  simp only [enc, List.length_cons]
  omega

end Go.Proofs.Ytbfjfidodpgohaa

/- string(b) of a slice that reads as bytes: the string of just these bytes; nothing is written. -/
namespace Go.Proofs.Ytbfjfidodpgohaa
open Go.RowKit

/-- The string of bytes. -/
def str (l : List UInt8) : ByteArray := ⟨l.toArray⟩

theorem fold_push (l : List UInt8) (r : ByteArray) : (l.map (fun c => (c.toNat : Int))).foldl (fun r n => r.push (UInt8.ofNat n.toNat)) r = ⟨r.data ++ l.toArray⟩ := by
  induction l generalizing r with
  | nil => simp
  | cons c t ih =>
    rw [List.map_cons, List.foldl_cons, ih]
    simp [ByteArray.push]

theorem run_string_lst {P : Program} {w : World} (src dst e : TypeId) (hs : P.underlying src = some (.slice e)) (he : P.underlying e = some (.int .u8)) (hd : P.underlying dst = some .string)
    (A : Option Addr) (B n c : Nat) (l : List UInt8) (hl : l.length = n) (h : Lies w B A (bvs l)) :
    (convert src dst (.slice A n c)).run P w = .ok (.string (str l)) w := by
  rw [run_convert_bytes_string w src dst e A n c hs he hd]
  rcases A with _ | a
  · have hnil : l = [] := by
      rcases l with _ | ⟨u, r⟩
      · rfl
      · obtain ⟨_, _, h, _⟩ := h (by simp [bvs])
        cases h
    subst hnil
    simp [Conv.bytesToString, str]
    rfl
  · have e1 : (l.map (fun c => (c.toNat : Int))).map (Value.int .u8) = bvs l := by simp [bvs, bv]
    have hload : (loadCells a n).run P w = .ok ((l.map (fun c => (c.toNat : Int))).map (Value.int .u8)).toArray w := by
      rw [e1]
      have := run_loadCells_list (P := P) (w := w) a (bvs l) (fun j v hj => by
        obtain ⟨b, off, he, _, hc⟩ := h (by rintro h0; rw [h0] at hj; simp at hj)
        injection he with he
        subst he
        rw [add_plain]
        exact hc j v hj)
      rw [bvs_length, hl] at this
      exact this
    rw [run_bytesToString w a n c _ hload, fold_push]
    simp [str]

end Go.Proofs.Ytbfjfidodpgohaa

/- Words for slices that the call owns, and for what string(..) reads of slices of bytes; rows joined. -/
namespace Go.Proofs.Ytbfjfidodpgohaa
open Go.RowKit

theorem Try.info5 : (Try.prog.info? 5).map (fun i => (i.zero, i.size, i.bytes)) = some (some (.int .u8 0), 1, 1) := by kernel_rfl

/-- A new slice of the call's own, that holds xs. -/
def Owned (w : World) (base : Nat) (xs : List Value) (e : Ending) (w' : World) : Prop :=
  ∃ A n c, e = .returned (.slice A n c) ∧ Hid (xs.length = n) ∧ n ≤ c ∧ c ≤ maxLen ∧ w'.ownsRow base 5 1 (.slice A n c) n xs ∧ Below base w w'

theorem Owned.of {w w' : World} {base : Nat} {xs : List Value} {v : Value} {n : Nat} (h : w'.ownsRow base 5 1 v n xs) (hb : Below base w w') : Owned w base xs (.returned v) w' := by
  obtain ⟨A, c, rfl, h1, h2⟩ := own_slice h
  exact ⟨A, n, c, rfl, own_len h, h1, h2, h, hb⟩

/-- What Put, and Rows, have made so far. -/
def PutRel (w : World) (xs : List Value) (v : Value) (wr : World) : Prop :=
  ∃ n, wr.ownsRow w.heap.size 5 1 v n xs ∧ Below w.heap.size w wr ∧ xs.length = n

theorem Owned.rel {w wr w' : World} {xs : List Value} {v : Value} (h : PutRel w xs v wr) {ys : List Value} {e : Ending} (ho : Owned wr w.heap.size ys e w') : ∃ A n c, e = .returned (.slice A n c) ∧ PutRel w ys (.slice A n c) w' := by
  obtain ⟨A, n, c, rfl, h0, _, _, h1, h2⟩ := ho
  obtain ⟨_, _, hb, _⟩ := h
  exact ⟨A, n, c, rfl, n, h1, hb.trans h2, h0.out⟩

theorem PutRel.below {w wr : World} {xs : List Value} {v : Value} (h : PutRel w xs v wr) : Below w.heap.size w wr := by
  obtain ⟨_, _, hb, _⟩ := h
  exact hb

theorem PutRel.owned {w wr : World} {xs : List Value} {v : Value} (h : PutRel w xs v wr) : Owned w w.heap.size xs (.returned v) wr := by
  obtain ⟨_, ho, hb, _⟩ := h
  exact Owned.of ho hb

theorem PutRel.of {w wr : World} {xs : List Value} {v : Value} {n : Nat} (h : wr.ownsRow w.heap.size 5 1 v n xs) (hb : Below w.heap.size w wr) : PutRel w xs v wr := ⟨n, h, hb, own_len h⟩

theorem Byt.below {w w' : World} {B : Nat} {v : Value} {l : List UInt8} (h : Byt w B v l) (hb : Below B w w') : Byt w' B v l := by
  obtain ⟨A, n, c, rfl, h1, h2, h3, h4⟩ := h
  exact ⟨A, n, c, rfl, h1, h2, h3, h4.below hb⟩

theorem below_of_grown {w w' : World} {B g : Nat} (h : w.grownBy w' (some g)) (hg : B ≤ g) (hB : B ≤ w.heap.size) : Below B w w' :=
  (Below.refl B w).grown h hB (fun k hk => by injection hk with hk; omega)

/-- string(b) gives such a string, wherever b lies. -/
def Strs (W : World) (A : Option Addr) (n : Nat) (l : List UInt8) : Prop := ∀ c, (convert 22 9 (.slice A n c)).run Try.prog W = .ok (.string (str l)) W

theorem strs_of {W : World} {A : Option Addr} {B n : Nat} {l : List UInt8} (hl : l.length = n) (h : Lies W B A (bvs l)) : Strs W A n l := fun c =>
  run_string_lst _ _ 5 Try.underlying22 Try.underlying5 Try.underlying9 A _ n c _ hl h

theorem Lies.later {w w' : World} {A : Option Addr} {xs : List Value} (h : Lies w w.heap.size A xs) (hb : Below w.heap.size w w') : Lies w' w'.heap.size A xs := (h.below hb).more hb.size
theorem Byt.later {w w' : World} {v : Value} {l : List UInt8} (h : Byt w w.heap.size v l) (hb : Below w.heap.size w w') : Byt w' w'.heap.size v l := by
  obtain ⟨A, n, c, rfl, h1, h2, h3, h4⟩ := h
  exact ⟨A, n, c, rfl, h1, h2, h3, h4.later hb⟩
theorem BytRows.later {w w' : World} {vs : List Value} {ls : List (List UInt8)} (h : BytRows w w.heap.size vs ls) (hb : Below w.heap.size w w') : BytRows w' w'.heap.size vs ls :=
  ⟨h.1, fun i h1 h2 => (h.2 i h1 h2).later hb⟩

/-- Put's and Rows' answer, as the next call wants it. -/
theorem Owned.use {w w' : World} {l : List UInt8} {e : Ending} (h : Owned w w.heap.size (bvs l) e w') : ∃ A n c, e = .returned (.slice A n c) ∧ Hid (l.length = n) ∧ Lies w' w'.heap.size A (bvs l) ∧ Below w.heap.size w w' := by
  obtain ⟨A, n, c, rfl, hn, _, _, ho, hb⟩ := h
  exact ⟨A, n, c, rfl, by have := hn.out; rw [bvs_length] at this; exact this, Lies.of_own ho, hb⟩

/-- string(..) of this slice gives these bytes in every world that has only grown. -/
def KeepS (w : World) (A : Option Addr) (n c : Nat) (l : List UInt8) : Prop := ∀ W : World, Below w.heap.size w W → (convert 22 9 (.slice A n c)).run Try.prog W = .ok (.string (str l)) W

theorem keepS_of {w : World} {A : Option Addr} {n c : Nat} {l : List UInt8} (hl : l.length = n) (h : Lies w w.heap.size A (bvs l)) : KeepS w A n c l := fun _ hb => strs_of hl (h.below hb) c

theorem keepS_later {w w' : World} {A : Option Addr} {n c : Nat} {l : List UInt8} (h : KeepS w A n c l) (hb : Below w.heap.size w w') : KeepS w' A n c l := fun W hW => h W (hb.trans (hW.mono hb.size))

theorem flatten_snoc (ls : List (List UInt8)) (k : Nat) (h : k < ls.length) : (ls.take (k + 1)).flatten = (ls.take k).flatten ++ ls[k] := by
  rw [List.take_succ_eq_append_getElem h, List.flatten_append, List.flatten_cons, List.flatten_nil, List.append_nil]

theorem flatten_len (ls : List (List UInt8)) {M : Nat} (h : ∀ x ∈ ls, x.length ≤ M) : ls.flatten.length ≤ M * ls.length := by
  induction ls with
  | nil => simp
  | cons x t ih =>
    have h1 := h x (by simp)
    have h2 := ih (fun y hy => h y (by simp [hy]))
    simp only [List.flatten_cons, List.length_append, List.length_cons]
    rw [Nat.mul_succ]; omega

theorem Lies.drew {w : World} {B : Nat} {A : Option Addr} {xs : List Value} (h : Lies w B A xs) : Lies w.drew B A xs := h

end Go.Proofs.Ytbfjfidodpgohaa

/- The walks of the small functions of package num that put numbers: what each call answers, and what it does to the world. -/
namespace Go.Proofs.Ytbfjfidodpgohaa
open Go.RowKit

set_option maxHeartbeats 400000 in
theorem byteCount_any (n : Nat) (w : World) (hn : n < 18446744073709551616) :
    Calls Try.prog 58 #[.int .u64 n] w fun e w' => e = .returned (.int .i64 ((digs n).length : Nat)) ∧ w = w' := by
  go_enter Try.func58, Try.ntmps58
  go_wp2
  go_loop [0, 3] (fun m c => ∃ (j k : Nat), j ≤ n ∧ m = .int .u64 j ∧ c = .int .i64 k ∧ k + (digs j).length = (digs n).length) (fun m _ => (intOf m).toNat)
  case atStart => exact ⟨n, 0, Nat.le_refl _, rfl, rfl, by simp⟩
  case round =>
    obtain ⟨j, k, hj, rfl, rfl, hk⟩ := hrel
    have hk8 := digs_le8 hn
    have HK : Hid (k + (digs j).length = (digs n).length) := hk
    have hkk : k ≤ 8 := by omega
    clear hk hk8
    by_cases hlt : 0 < j
    · have hd := digs_pos hlt
      have HD := Lib.hid hd
      clear hd
      go_wp2
      go_round
      case rel =>
        refine ⟨j / 256, k + 1, by omega, by go_num, by go_num, ?_⟩
        have h1 := HK.out
        rw [HD.out, List.length_cons] at h1
        omega
      case measure => simp [intOf]; omega
    · go_wp2
      go_ret
      have : j = 0 := by omega
      subst this
      have := HK.out
      rw [digs_zero] at this
      exact ⟨by rw [← this]; simp, rfl⟩

set_option maxHeartbeats 400000 in
theorem fresh_any (A : Option Addr) (B n c : Nat) (l : List UInt8) (w : World) (hl : l.length = n) (hn : n ≤ 1000000) (h : Lies w B A (bvs l)) :
    Calls Try.prog 47 #[.slice A n c] w (Owned w w.heap.size (bvs l)) := by
  obtain ⟨i0, hi, hz0, hz1, hz2⟩ := info_parts Try.info5
  have HL := Lib.hid hl
  clear hl
  go_enter Try.func47, Try.ntmps47
  go_wp2_with (at_builtin; refine wpList_append_lst rfl _ _ 22 rfl w.heap.size 5 i0 (.int .u8 0) 1 Try.underlying22 hi hz0 hz1 hz2 rfl _ 0 [] rfl (World.ownsRow_nil _ _ _ _) B A n c (bvs l) rfl ?c1 h (bvs_one l) ?c2 ?c3 (Nat.le_refl _) ?_)
  case c1 => rw [bvs_length]; exact HL.out
  case c2 => unfold maxLen; omega
  case c3 => omega
  intro v' w' hown hg hb _
  go_wp2
  go_ret
  exact Owned.of hown hb

end Go.Proofs.Ytbfjfidodpgohaa

/- The walk of appendNumber: a number's bytes are put behind a slice that the call owns. -/
namespace Go.Proofs.Ytbfjfidodpgohaa
open Go.RowKit

/-- What has been put behind xs when k of n's digits are done, j being what is left of n. -/
def AppRel (w : World) (base L : Nat) (xs : List Value) (n : Nat) (j k : Nat) (v : Value) (wr : World) : Prop :=
  k ≤ (digs n).length ∧ j ≤ n ∧ digs j = (digs n).drop k ∧ wr.ownsRow base 5 1 v (L + 1 + k) (xs ++ bvs (UInt8.ofNat (digs n).length :: (digs n).take k)) ∧ Below base w wr ∧ base ≤ wr.heap.size

theorem head_byte {k : Nat} (h : k ≤ 8) : Value.int .u8 (k : Int) = bv (UInt8.ofNat k) := by
  have : (UInt8.ofNat k).toNat = k := by simp [UInt8.toNat_ofNat']; omega
  unfold bv; rw [this]

theorem low_byte (j : Nat) : Value.int .u8 ((j : Int) % 256) = bv (UInt8.ofNat (j % 256)) := by
  unfold bv; rw [byte_toNat]; rfl

theorem take_step {l t : List UInt8} {k : Nat} {c : UInt8} (h : c :: t = l.drop k) : l.take (k + 1) = l.take k ++ [c] ∧ t = l.drop (k + 1) ∧ k < l.length := by
  have hlt : k < l.length := by
    rcases Nat.lt_or_ge k l.length with h1 | h1
    · exact h1
    · rw [List.drop_of_length_le h1] at h; cases h
  rw [List.drop_eq_getElem_cons hlt] at h
  injection h with h1 h2
  exact ⟨by rw [List.take_succ_eq_append_getElem hlt, h1], h2, hlt⟩

theorem AppRel.step {w wr w2 : World} {base L : Nat} {xs : List Value} {n j k : Nat} {v v2 : Value} {o : Obj} (h : AppRel w base L xs n j k v wr) (hj0 : 0 < j)
    (hown : w2.ownsRow base 5 1 v2 (L + 1 + k + 1) (xs ++ (bvs (UInt8.ofNat (digs n).length :: List.take k (digs n)) ++ [Value.int IntKind.u8 (↑j % 256)]))) (hb : Below base (wr.alloc o) w2) :
    AppRel w base L xs n (j / 256) (k + 1) v2 w2 := by
  obtain ⟨hk1, hj, hdj, _, hbr, hbs⟩ := h
  rw [digs_pos hj0] at hdj
  obtain ⟨h1, h2, h3⟩ := take_step hdj
  refine ⟨h3, by omega, h2, ?_, (hbr.alloc hbs _).trans hb, ?_⟩
  · rw [h1]
    rw [low_byte] at hown
    have e : bvs (UInt8.ofNat (digs n).length :: (List.take k (digs n) ++ [UInt8.ofNat (j % 256)])) = bvs (UInt8.ofNat (digs n).length :: List.take k (digs n)) ++ [bv (UInt8.ofNat (j % 256))] := by simp [bvs]
    rw [e]
    exact hown
  · have := hb.size; simp at this; omega

theorem AppRel.done {w wr : World} {base L : Nat} {xs : List Value} {n j k : Nat} {v : Value} (h : AppRel w base L xs n j k v wr) (hk : ¬ k < (digs n).length) :
    Owned w base (xs ++ bvs (enc n)) (.returned v) wr := by
  obtain ⟨hk1, _, _, hown, hbr, _⟩ := h
  have hk2 : k = (digs n).length := by omega
  subst hk2
  rw [List.take_length] at hown
  exact Owned.of hown hbr

set_option maxHeartbeats 800000 in
theorem appendNumber_any (base : Nat) (v : Value) (L : Nat) (xs : List Value) (n : Nat) (w : World) (hown : w.ownsRow base 5 1 v L xs) (hk : L ≤ 1000000) (hn : n < 18446744073709551616) (hbase : base ≤ w.heap.size) :
    Calls Try.prog 52 #[v, .int .u64 n] w (Owned w base (xs ++ bvs (enc n))) := by
  obtain ⟨i0, hi, hz0, hz1, hz2⟩ := info_parts Try.info5
  have h8 := digs_le8 hn
  go_enter Try.func52, Try.ntmps52
  go_wp2_with (first
    | (go_at_call 58; refine (byteCount_any _ _ hn).mono ?_; rintro e w' ⟨rfl, rfl⟩)
    | (at_builtin; refine wpList_append_lst rfl _ _ 22 rfl base 5 i0 (.int .u8 0) 1 Try.underlying22 hi hz0 hz1 hz2 rfl v L xs rfl (hown.alloc _) _ _ 1 _ _ rfl ?c0 (lies_new _ _ _) ?c1 ?c2 ?c3 ?c4 ?_))
  case c1 => rfl
  case c2 => unfold maxLen; omega
  case c3 => omega
  case c4 => simp; omega
  intro v1 w1 hown1 hg1 hb1 _
  have hrel0 : AppRel w base L xs n n 0 v1 w1 := by
    refine ⟨Nat.zero_le _, Nat.le_refl _, by simp, ?_, ?_, ?_⟩
    · rw [head_byte h8] at hown1; exact hown1
    · exact ((Below.refl base w).alloc hbase _).trans hb1
    · have := hb1.size; simp at this; omega
  clear hown1 hg1 hb1
  have HN := Lib.hid hn
  go_wp2
  go_loopw [0, 1, 14] (fun v m i wr => ∃ (j k : Nat), m = .int .u64 j ∧ i = .int .i64 k ∧ AppRel w base L xs n j k v wr) (fun _ _ i _ => (digs n).length - (intOf i).toNat)
  case atStart => exact ⟨n, 0, rfl, rfl, hrel0⟩
  case round =>
    obtain ⟨j, k, rfl, rfl, hR⟩ := hrel
    obtain ⟨hk1, hj, hdj, hownr, hbr, hbs⟩ := id hR
    have HD := Lib.hid hdj
    clear hdj
    have HR := Lib.hid hR
    clear hR
    by_cases hlt : k < (digs n).length
    · have hj0 : 0 < j := by
        rcases Nat.eq_zero_or_pos j with h0 | h0
        · subst h0
          have := HD.out
          rw [digs_zero] at this
          have h2 := congrArg List.length this
          simp at h2; omega
        · exact h0
      go_wp2_with (at_builtin; refine wpList_append_lst rfl _ _ 22 rfl base 5 i0 (.int .u8 0) 1 Try.underlying22 hi hz0 hz1 hz2 rfl _ _ _ rfl (hownr.alloc _) _ _ 1 _ _ rfl ?d0 (lies_new _ _ _) ?d1 ?d2 ?d3 ?d4 ?_)
      case d1 => rfl
      case d2 => unfold maxLen; omega
      case d3 => omega
      case d4 => simp; omega
      intro v2 w2 hown2 hg2 hb2 _
      go_wp2
      go_roundw
      case rel => exact ⟨j / 256, k + 1, by go_num, by go_num, HR.out.step hj0 hown2 hb2⟩
      case measure => simp [intOf]; omega
    · go_wp2
      go_ret
      exact HR.out.done hlt

end Go.Proofs.Ytbfjfidodpgohaa

/- The walks of Put and Rows: numbers, and rows, are put behind bytes, in memory of the call's own. -/
namespace Go.Proofs.Ytbfjfidodpgohaa
open Go.RowKit


theorem uvs_at {l : List Nat} {k : Nat} (h : k < l.length) : (uvs l)[k]? = some (.int .u64 (l[k] : Int)) := by simp [uvs, uv, h]

theorem encs_snoc (ns : List Nat) (k : Nat) (h : k < ns.length) : encs (ns.take (k + 1)) = encs (ns.take k) ++ enc ns[k] := by
  rw [List.take_succ_eq_append_getElem h, encs_append]; simp [encs]

theorem encs_len {ns : List Nat} (h : ∀ x ∈ ns, x < 18446744073709551616) : (encs ns).length ≤ 9 * ns.length := by
  induction ns with
  | nil => simp [encs]
  | cons x t ih =>
    have h1 := enc_len (h x (by simp))
    have h2 := ih (fun y hy => h y (by simp [hy]))
    simp [encs]; omega

set_option maxHeartbeats 800000 in
theorem put_any (A A2 : Option Addr) (n c m c2 : Nat) (l : List UInt8) (ns : List Nat) (w : World) (hl : l.length = n) (hn : n ≤ 10000) (h : Lies w w.heap.size A (bvs l))
    (hl2 : ns.length = m) (hm : m ≤ 1000) (h2 : Lies w w.heap.size A2 (uvs ns)) (hns : ∀ x ∈ ns, x < 18446744073709551616) :
    Calls Try.prog 31 #[.slice A n c, .slice A2 m c2] w (Owned w w.heap.size (bvs (l ++ encs ns))) := by
  have HL := Lib.hid hl
  have HL2 := Lib.hid hl2
  have HNS := Lib.hid hns
  clear hl hl2 hns
  go_enter Try.func31, Try.ntmps31
  go_wp2_with (go_at_call 47; refine (fresh_any A _ n c l _ HL.out (by omega) h).mono ?_; rintro e w1 ⟨A1, n1, c1, rfl, hn1, _, _, ho1, hb1⟩)
  have hR0 : PutRel w (bvs (l ++ encs (ns.take 0))) (.slice A1 n1 c1) w1 := by
    rw [List.take_zero, encs, List.append_nil]; exact ⟨_, ho1, hb1, hn1.out⟩
  clear ho1 hb1
  go_loopw [5, 12] (fun v i wr => ∃ (k : Nat), k ≤ m ∧ i = .int .i64 k ∧ PutRel w (bvs (l ++ encs (ns.take k))) v wr) (fun _ i _ => m - (intOf i).toNat)
  case atStart => exact ⟨0, Nat.zero_le _, rfl, hR0⟩
  case round =>
    obtain ⟨k, hk, rfl, hR⟩ := hrel
    by_cases hlt : k < m
    · have hk2 : k < ns.length := by rw [HL2.out]; exact hlt
      have hel := encs_len (ns := ns.take k) (fun x hx => HNS.out x (List.mem_of_mem_take hx))
      have hxl : (bvs (l ++ encs (ns.take k))).length ≤ 1000000 := by
        rw [bvs_length, List.length_append, HL.out]
        have : (ns.take k).length ≤ 1000 := by have := List.length_take_le k ns; omega
        omega
      obtain ⟨b, off, rfl, hb, hc⟩ := (h2.below hR.below).at_ (uvs_at hk2)
      have hx := HNS.out ns[k] (List.getElem_mem hk2)
      have hsz : w.heap.size ≤ wr.heap.size := hR.below.size
      obtain ⟨L, hoL, hbL, hLL⟩ := id hR
      have hLx : L ≤ 1000000 := by omega
      have HR := Lib.hid hR
      clear hR hel hxl hLL
      go_wp2_with (go_at_call 52; refine (appendNumber_any w.heap.size _ L _ ns[k] _ hoL hLx hx hsz).mono ?_; intro e w2 ho; obtain ⟨A2, n2, c2, rfl, hR2⟩ := Owned.rel HR.out ho; clear ho)
      go_roundw
      case rel =>
        refine ⟨k + 1, by omega, by go_num, ?_⟩
        rw [encs_snoc ns k hk2, ← List.append_assoc, bvs_append]
        exact hR2
      case measure => simp [intOf]; omega
    · go_wp2
      go_ret
      have : k = m := by omega
      subst this
      rw [← HL2.out, List.take_length] at hR
      exact hR.owned

end Go.Proofs.Ytbfjfidodpgohaa

/- Vectors as lists of numbers: the words (picked). -/
namespace Go.Proofs.Ytbfjfidodpgohaa
open Go.RowKit

theorem Try.infoU : (Try.prog.info? 26).map (fun i => (i.zero, i.size, i.bytes)) = some (some (.int .u64 0), 1, 8) := by kernel_rfl

theorem Try.infoV : (Try.prog.info? 31).map (fun i => (i.zero, i.size, i.bytes)) = some (some (.slice none 0 0), 1, 24) := by kernel_rfl

theorem uvs_length (l : List Nat) : (uvs l).length = l.length := List.length_map _

theorem uvs_append (a b : List Nat) : uvs (a ++ b) = uvs a ++ uvs b := List.map_append

theorem uvs_one (l : List Nat) : ∀ u ∈ uvs l, u.oneCell' = true := by
  intro u hu
  simp only [uvs, List.mem_map] at hu
  obtain ⟨c, _, rfl⟩ := hu
  rfl

theorem lies_take {w : World} {B : Nat} {A : Option Addr} {xs : List Value} (h : Lies w B A xs) (m : Nat) : Lies w B A (xs.take m) := fun hn => by
  obtain ⟨b, off, e, hb, hc⟩ := h (by intro h0; rw [h0] at hn; simp at hn)
  refine ⟨b, off, e, hb, fun i u hu => hc i u ?_⟩
  rw [List.getElem?_take] at hu
  split at hu
  · exact hu
  · cases hu

theorem lies_drop {w : World} {B b off : Nat} {xs : List Value} (h : Lies w B (some ⟨b, off, none⟩) xs) (m : Nat) : Lies w B (some ⟨b, off + m, none⟩) (xs.drop m) := fun hn => by
  obtain ⟨b', off', e, hb, hc⟩ := h (by intro h0; rw [h0] at hn; simp at hn)
  injection e with e
  injection e with e1 e2
  subst e1 e2
  refine ⟨_, _, rfl, hb, fun i u hu => ?_⟩
  rw [List.getElem?_drop] at hu
  rw [Nat.add_assoc]
  exact hc _ u hu

/-- A value that is a slice of just these numbers, below block B. -/
def Vec (w : World) (B : Nat) (v : Value) (l : List Nat) : Prop := ∃ A n c, v = .slice A n c ∧ l.length = n ∧ n ≤ c ∧ c ≤ maxLen ∧ Lies w B A (uvs l)

theorem Vec.below {w w' : World} {B : Nat} {v : Value} {l : List Nat} (h : Vec w B v l) (hb : Below B w w') : Vec w' B v l := by
  obtain ⟨A, n, c, rfl, h1, h2, h3, h4⟩ := h
  exact ⟨A, n, c, rfl, h1, h2, h3, h4.below hb⟩

theorem Vec.later {w w' : World} {v : Value} {l : List Nat} (h : Vec w w.heap.size v l) (hb : Below w.heap.size w w') : Vec w' w'.heap.size v l := by
  obtain ⟨A, n, c, rfl, h1, h2, h3, h4⟩ := h
  exact ⟨A, n, c, rfl, h1, h2, h3, h4.later hb⟩

theorem Vec.more {w : World} {B B' : Nat} {v : Value} {l : List Nat} (h : Vec w B v l) (hB : B ≤ B') : Vec w B' v l := by
  obtain ⟨A, n, c, rfl, h1, h2, h3, h4⟩ := h
  exact ⟨A, n, c, rfl, h1, h2, h3, h4.more hB⟩

/-- A slice of rows of numbers: its cells, and of each what it reads as. -/
def VecRows (w : World) (B : Nat) (vs : List Value) (ls : List (List Nat)) : Prop := vs.length = ls.length ∧ ∀ i, (h : i < vs.length) → (h' : i < ls.length) → Vec w B vs[i] ls[i]

theorem VecRows.below {w w' : World} {B : Nat} {vs : List Value} {ls : List (List Nat)} (h : VecRows w B vs ls) (hb : Below B w w') : VecRows w' B vs ls :=
  ⟨h.1, fun i h1 h2 => (h.2 i h1 h2).below hb⟩

theorem VecRows.later {w w' : World} {vs : List Value} {ls : List (List Nat)} (h : VecRows w w.heap.size vs ls) (hb : Below w.heap.size w w') : VecRows w' w'.heap.size vs ls :=
  ⟨h.1, fun i h1 h2 => (h.2 i h1 h2).later hb⟩

theorem VecRows.drop {w : World} {B : Nat} {vs : List Value} {ls : List (List Nat)} (h : VecRows w B vs ls) (m : Nat) : VecRows w B (vs.drop m) (ls.drop m) :=
  ⟨by simp [h.1], fun i h1 h2 => by
    rw [List.getElem_drop, List.getElem_drop]
    exact h.2 _ _ _⟩

theorem VecRows.take {w : World} {B : Nat} {vs : List Value} {ls : List (List Nat)} (h : VecRows w B vs ls) (m : Nat) : VecRows w B (vs.take m) (ls.take m) :=
  ⟨by simp [h.1], fun i h1 h2 => by
    rw [List.getElem_take, List.getElem_take]
    exact h.2 _ _ _⟩

theorem VecRows.nil {w : World} {B : Nat} : VecRows w B [] [] := ⟨rfl, fun i h => absurd h (by simp)⟩

theorem VecRows.cons {w : World} {B : Nat} {v : Value} {l : List Nat} {vs : List Value} {ls : List (List Nat)} (h : Vec w B v l) (t : VecRows w B vs ls) : VecRows w B (v :: vs) (l :: ls) :=
  ⟨by simp [t.1], fun i h1 h2 => by
    rcases i with _ | i
    · exact h
    · exact t.2 i (by simpa using h1) (by simpa using h2)⟩

theorem VecRows.append {w : World} {B : Nat} {vs vs' : List Value} {ls ls' : List (List Nat)} (h : VecRows w B vs ls) (t : VecRows w B vs' ls') : VecRows w B (vs ++ vs') (ls ++ ls') := by
  refine ⟨by simp [h.1, t.1], fun i h1 h2 => ?_⟩
  by_cases hi : i < vs.length
  · rw [List.getElem_append_left hi, List.getElem_append_left (by rw [← h.1]; exact hi)]
    exact h.2 _ _ _
  · rw [List.getElem_append_right (by omega), List.getElem_append_right (by rw [← h.1]; omega)]
    have e : vs.length = ls.length := h.1
    have := t.2 (i - vs.length) (by simp at h1; omega) (by simp at h2; omega)
    simpa [e] using this

/-- A new slice of the call's own, that holds these numbers. -/
def OwnedV (w : World) (base : Nat) (l : List Nat) (e : Ending) (w' : World) : Prop :=
  ∃ A n c, e = .returned (.slice A n c) ∧ Hid (l.length = n) ∧ n ≤ c ∧ c ≤ maxLen ∧ w'.ownsRow base 26 1 (.slice A n c) n (uvs l) ∧ Below base w w'

theorem OwnedV.of {w w' : World} {base : Nat} {l : List Nat} {v : Value} {n : Nat} (h : w'.ownsRow base 26 1 v n (uvs l)) (hb : Below base w w') : OwnedV w base l (.returned v) w' := by
  obtain ⟨A, c, rfl, h1, h2⟩ := own_slice h
  exact ⟨A, n, c, rfl, by have := own_len h; rw [uvs_length] at this; exact this, h1, h2, h, hb⟩

/-- What a call that makes a vector answers, as the next call wants it. -/
theorem OwnedV.use {w w' : World} {l : List Nat} {e : Ending} (h : OwnedV w w.heap.size l e w') : ∃ A n c, e = .returned (.slice A n c) ∧ Hid (l.length = n) ∧ n ≤ c ∧ c ≤ maxLen ∧ Lies w' w'.heap.size A (uvs l) ∧ Below w.heap.size w w' := by
  obtain ⟨A, n, c, rfl, hn, h1, h2, ho, hb⟩ := h
  exact ⟨A, n, c, rfl, hn, h1, h2, Lies.of_own ho, hb⟩

/-- What has been made so far: numbers in memory of the call's own. -/
def Mk (w : World) (l : List Nat) (v : Value) (wr : World) : Prop := ∃ n, wr.ownsRow w.heap.size 26 1 v n (uvs l) ∧ Below w.heap.size w wr ∧ Hid (l.length = n)

theorem Mk.of {w wr : World} {l : List Nat} {v : Value} {n : Nat} (h : wr.ownsRow w.heap.size 26 1 v n (uvs l)) (hb : Below w.heap.size w wr) : Mk w l v wr :=
  ⟨n, h, hb, by have := own_len h; rw [uvs_length] at this; exact this⟩

theorem Mk.owned {w wr : World} {l : List Nat} {v : Value} (h : Mk w l v wr) : OwnedV w w.heap.size l (.returned v) wr := by
  obtain ⟨_, ho, hb, _⟩ := h
  exact OwnedV.of ho hb

theorem Mk.below {w wr : World} {l : List Nat} {v : Value} (h : Mk w l v wr) : Below w.heap.size w wr := by
  obtain ⟨_, _, hb, _⟩ := h
  exact hb

/-- append(owned, y). -/
theorem wpList_push {wb : World} {ops : Array Oper} {rest : List Oper} {o : Oper} {a : Act} {Q : Exit → Act → World → Prop} (hgd : o.guard = none) (s x : Operand)
    (ho : o.op = .call { callee := .builtin .append, args := #[s, x], argTypes := #[31, 31] }) (base n : Nat) (l : List Nat) (y : Nat) (v : Value) (hs : a.eval s = v) (hx : a.eval x = .slice (some ⟨wb.heap.size, 0, none⟩) 1 1)
    (hown : wb.ownsRow base 26 1 v n (uvs l)) (hn : n ≤ 1000) (hbase : base ≤ wb.heap.size)
    (h : ∀ v' w', w'.ownsRow base 26 1 v' (n + 1) (uvs (l ++ [y])) → Below base wb w' → wpList Try.prog ops Q rest (a.put o.dst v') w') :
    wpList Try.prog ops Q (o :: rest) a (wb.alloc (.cells #[.int .u64 (y : Int)] 26)) := by
  obtain ⟨i0, hi, hz0, hz1, hz2⟩ := info_parts Try.infoU
  refine wpList_append_lst hgd s x 31 ho base 26 i0 (.int .u64 0) 8 Try.underlying31 hi hz0 hz1 hz2 rfl v n (uvs l) hs (hown.alloc _) _ _ 1 1 [.int .u64 (y : Int)] hx rfl (lies_new wb #[.int .u64 (y : Int)] 26) (by simp [Value.oneCell']) (by unfold maxLen; omega) (by omega) (by simp; omega) ?_
  intro v' w' hown' _ hb' _
  refine h v' w' ?_ (((Below.refl base wb).alloc hbase _).trans hb')
  rw [uvs_append]
  exact hown'

/-- The rows of a list that has just been laid for a call. -/
theorem rows_laid {w : World} (t : TypeId) {cs : Array Value} {vs : List Value} {ls : List (List Nat)} (hv : cs.toList = vs) (h : VecRows w w.heap.size vs ls) :
    Lies (w.alloc (.cells cs t)) (w.alloc (.cells cs t)).heap.size (some ⟨w.heap.size, 0, none⟩) vs ∧ VecRows (w.alloc (.cells cs t)) (w.alloc (.cells cs t)).heap.size vs ls ∧ Below w.heap.size w (w.alloc (.cells cs t)) := by
  subst hv
  exact ⟨(lies_new w cs t).more (by simp), h.later ((Below.refl _ _).alloc (Nat.le_refl _) _), (Below.refl _ _).alloc (Nat.le_refl _) _⟩

theorem vec_lit (w : World) (t : TypeId) (cs : Array Value) (l : List Nat) (n : Nat) (he : cs.toList = uvs l) (hn : l.length = n) (hm : n ≤ 1000) :
    Vec (w.alloc (.cells cs t)) (w.alloc (.cells cs t)).heap.size (.slice (some ⟨w.heap.size, 0, none⟩) n n) l ∧ Below w.heap.size w (w.alloc (.cells cs t)) :=
  ⟨⟨_, _, _, rfl, hn, Nat.le_refl _, by unfold maxLen; omega, by rw [← he]; exact (lies_new w cs t).more (by simp)⟩, (Below.refl _ _).alloc (Nat.le_refl _) _⟩

/-- The number of a process. -/
def num (l : List Nat) (k : Nat) : Nat := l.getD k 0

theorem num_in {l : List Nat} {k : Nat} (h : k < l.length) : num l k = l[k] := by simp [num, h]

theorem num_out {l : List Nat} {k : Nat} (h : l.length ≤ k) : num l k = 0 := by unfold num; rw [List.getD_eq_getElem?_getD, List.getElem?_eq_none h]; rfl

theorem num_ext {a b : List Nat} (hl : a.length = b.length) (h : ∀ k, num a k = num b k) : a = b := by
  refine List.ext_getElem hl fun i h1 h2 => ?_
  rw [← num_in h1, ← num_in h2]
  exact h i

end Go.Proofs.Ytbfjfidodpgohaa

/- A region that leaves its order open, walked by hand: an operation is taken first, its slot written out; and the condition on the world may be strengthened on the way. -/
namespace Go.Proofs.Ytbfjfidodpgohaa

theorem wpAnyH_mono {P : Program} {md : Region.Mode} {ops : Array Oper} {Q : Exit → Act → World → Prop} {S S' : World → Prop} (hS : ∀ w, S' w → S w) :
    ∀ (fuel : Nat) (listed : Array Bool) (a : Act) (w : World), wpAnyH P md ops Q S' fuel listed a w → wpAnyH P md ops Q S fuel listed a w
  | 0, _, _, _, h => h
  | fuel + 1, _, _, _, h => ⟨h.1, fun i hi => wpOp_mono (fun a' w' h' => ⟨hS w' h'.1, wpAnyH_mono hS fuel _ a' w' h'.2⟩) (h.2 i hi)⟩

theorem wpAnyH_takeAt {P : Program} {md : Region.Mode} {ops : Array Oper} {Q : Exit → Act → World → Prop} {S : World → Prop} {i d : Nat} {oi : Oper} {v : Value} {fuel : Nat} {listed : Array Bool} {a : Act} {w : World} (hi : ops[i]? = some oi) (hd : oi.dst = some d)
    (hs : Region.noSelect ops = true) (hf : Region.free md ops listed i = true) (hr : (Region.ready md ops listed).contains i = true)
    (hQ : ∀ c a w, Q (.panic c) (a.put (some d) v) w → Q (.panic c) a w) (hy : YieldsIf P ops S oi v a) (hS : S w)
    (h : wpAnyH P md ops Q S fuel (listed.setIfInBounds i true) ⟨a.tmps.setIfInBounds d v, a.defers⟩ w) : wpAnyH P md ops Q S (fuel + 1) listed a w :=
  wpAnyH_take hi hs hf hr (by rw [hd]; exact hQ) hy hS (by rw [hd]; exact h)

end Go.Proofs.Ytbfjfidodpgohaa
