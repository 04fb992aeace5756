/- Words of stage 8: frames, ids, runs, numbers as plain data and in memory; drawn regions whose last operation breaks the condition. Picked out of elder texts. -/
import Derived.Test.YtmnjedpnhilndaaBgA
import Derived.Test.YtmnjedpnhilndaaOwn
import Derived.Test.YtmnjedpnhilndaaOpen
import Derived.Test.YtmnjedpnhilndaaHeld
import Derived.Laws.Rows
import Derived.Lib.Hide
namespace Go.Proofs.Ytmnjedpnhilndaa
open Go.RowKit Go.Sort Go.ChangeShapes Go.WideShapes Go.ChangeAt

/-- An id: its sender and its number. -/
structure Id where
  f : Nat
  s : Nat
  hf : f < 256
  hs : s < 18446744073709551616
deriving DecidableEq

instance : Inhabited Id := ⟨⟨0, 0, by decide, by decide⟩⟩

/-- A run: its sender, its first number, how many. -/
structure Rn where
  f : Nat
  a : Nat
  c : Nat
  hf : f < 256
  ha : a < 18446744073709551616
  hc : c < 18446744073709551616
deriving DecidableEq

instance : Inhabited Rn := ⟨⟨0, 0, 0, by decide, by decide, by decide⟩⟩

theorem Id.same {x y : Id} (h1 : x.f = y.f) (h2 : x.s = y.s) : x = y := by cases x; cases y; simp_all

theorem Rn.same {x y : Rn} (h1 : x.f = y.f) (h2 : x.a = y.a) (h3 : x.c = y.c) : x = y := by cases x; cases y; simp_all

def encId (x : Id) : List Value := [.int .u8 (x.f : Int), .int .u64 (x.s : Int)]

def encRn (x : Rn) : List Value := [.int .u8 (x.f : Int), .int .u64 (x.a : Int), .int .u64 (x.c : Int)]

theorem encId_len (x : Id) : (encId x).length = 2 := rfl

theorem encRn_len (x : Rn) : (encRn x).length = 3 := rfl

theorem ids_at0 (l : List Id) (i : Nat) (h : i < l.length) : (flat encId l)[i * 2]? = some (.int .u8 (l[i].f : Int)) := by have := flat_at encId_len l i 0 (by decide) h; simpa [encId] using this

theorem ids_at1 (l : List Id) (i : Nat) (h : i < l.length) : (flat encId l)[i * 2 + 1]? = some (.int .u64 (l[i].s : Int)) := by have := flat_at encId_len l i 1 (by decide) h; simpa [encId] using this

theorem rns_at0 (l : List Rn) (i : Nat) (h : i < l.length) : (flat encRn l)[i * 3]? = some (.int .u8 (l[i].f : Int)) := by have := flat_at encRn_len l i 0 (by decide) h; simpa [encRn] using this

theorem rns_at1 (l : List Rn) (i : Nat) (h : i < l.length) : (flat encRn l)[i * 3 + 1]? = some (.int .u64 (l[i].a : Int)) := by have := flat_at encRn_len l i 1 (by decide) h; simpa [encRn] using this

theorem rns_at2 (l : List Rn) (i : Nat) (h : i < l.length) : (flat encRn l)[i * 3 + 1 + 1]? = some (.int .u64 (l[i].c : Int)) := by have := flat_at encRn_len l i 2 (by decide) h; simpa [encRn] using this

/-- The ids that a slice reads as, cell by cell. -/
theorem Lies.id {w : World} {B : Nat} {A : Option Addr} {l : List Id} (h : Lies w B A (flat encId l)) {i : Nat} (hi : i < l.length) :
    ∃ b off, A = some ⟨b, off, none⟩ ∧ b < B ∧ w.cell? ⟨b, off + i * 2, none⟩ = some (.int .u8 (l[i].f : Int)) ∧ w.cell? ⟨b, off + i * 2 + 1, none⟩ = some (.int .u64 (l[i].s : Int)) := by
  obtain ⟨b, off, rfl, hb, hc⟩ := h (by intro h0; have := ids_at0 l i hi; rw [h0] at this; simp at this)
  exact ⟨b, off, rfl, hb, hc _ _ (ids_at0 l i hi), hc _ _ (ids_at1 l i hi)⟩

theorem Lies.rn {w : World} {B : Nat} {A : Option Addr} {l : List Rn} (h : Lies w B A (flat encRn l)) {i : Nat} (hi : i < l.length) :
    ∃ b off, A = some ⟨b, off, none⟩ ∧ b < B ∧ w.cell? ⟨b, off + i * 3, none⟩ = some (.int .u8 (l[i].f : Int)) ∧ w.cell? ⟨b, off + i * 3 + 1, none⟩ = some (.int .u64 (l[i].a : Int)) ∧ w.cell? ⟨b, off + i * 3 + 1 + 1, none⟩ = some (.int .u64 (l[i].c : Int)) := by
  obtain ⟨b, off, rfl, hb, hc⟩ := h (by intro h0; have := rns_at0 l i hi; rw [h0] at this; simp at this)
  exact ⟨b, off, rfl, hb, hc _ _ (rns_at0 l i hi), hc _ _ (rns_at1 l i hi), hc _ _ (rns_at2 l i hi)⟩

def digs (n : Nat) : List UInt8 := if n = 0 then [] else UInt8.ofNat (n % 256) :: digs (n / 256)
termination_by n
decreasing_by omega

theorem digs_zero : digs 0 = [] := by rw [digs]; simp

theorem digs_pos {n : Nat} (h : 0 < n) : digs n = UInt8.ofNat (n % 256) :: digs (n / 256) := by rw [digs, if_neg (by omega)]

theorem byte_toNat (n : Nat) : (UInt8.ofNat (n % 256)).toNat = n % 256 := by
  simp [UInt8.toNat_ofNat']

theorem digs_le (k : Nat) : ∀ n, n < 256 ^ k → (digs n).length ≤ k := by
  induction k with
  | zero => intro n h; have : n = 0 := by simp at h; omega
            subst this; rw [digs_zero]; simp
  | succ k ih =>
    intro n h
    rcases Nat.eq_zero_or_pos n with h0 | h0
    · subst h0; rw [digs_zero]; simp
    · rw [digs_pos h0, List.length_cons]
      have := ih (n / 256) (by rw [Nat.pow_succ] at h; omega)
      omega

theorem digs_le8 {n : Nat} (h : n < 18446744073709551616) : (digs n).length ≤ 8 :=
  digs_le 8 n (Nat.lt_of_lt_of_eq h (by decide))

def enc (n : Nat) : List UInt8 := UInt8.ofNat (digs n).length :: digs n

def encs : List Nat → List UInt8
  | [] => []
  | n :: t => enc n ++ encs t

def row (r : List UInt8) : List UInt8 := enc r.length ++ r

theorem encs_append (a b : List Nat) : encs (a ++ b) = encs a ++ encs b := by
  induction a with
  | nil => rfl
  | cons x a ih => simp [encs, ih]

theorem enc_len {n : Nat} (h : n < 18446744073709551616) : (enc n).length ≤ 9 := by
  have := digs_le8 h
  simp only [enc, List.length_cons]
  omega

theorem head_byte {k : Nat} (h : k ≤ 8) : Value.int .u8 (k : Int) = bv (UInt8.ofNat k) := by
  have : (UInt8.ofNat k).toNat = k := by simp [UInt8.toNat_ofNat']; omega
  unfold bv; rw [this]

theorem low_byte (j : Nat) : Value.int .u8 ((j : Int) % 256) = bv (UInt8.ofNat (j % 256)) := by
  unfold bv; rw [byte_toNat]; rfl

theorem take_step {l t : List UInt8} {k : Nat} {c : UInt8} (h : c :: t = l.drop k) : l.take (k + 1) = l.take k ++ [c] ∧ t = l.drop (k + 1) ∧ k < l.length := by
  have hlt : k < l.length := by
    rcases Nat.lt_or_ge k l.length with h1 | h1
    · exact h1
    · rw [List.drop_of_length_le h1] at h; cases h
  rw [List.drop_eq_getElem_cons hlt] at h
  injection h with h1 h2
  exact ⟨by rw [List.take_succ_eq_append_getElem hlt, h1], h2, hlt⟩

theorem uvs_at {l : List Nat} {k : Nat} (h : k < l.length) : (uvs l)[k]? = some (.int .u64 (l[k] : Int)) := by simp [uvs, uv, h]

theorem encs_snoc (ns : List Nat) (k : Nat) (h : k < ns.length) : encs (ns.take (k + 1)) = encs (ns.take k) ++ enc ns[k] := by
  rw [List.take_succ_eq_append_getElem h, encs_append]; simp [encs]

theorem encs_len {ns : List Nat} (h : ∀ x ∈ ns, x < 18446744073709551616) : (encs ns).length ≤ 9 * ns.length := by
  induction ns with
  | nil => simp [encs]
  | cons x t ih =>
    have h1 := enc_len (h x (by simp))
    have h2 := ih (fun y hy => h y (by simp [hy]))
    simp [encs]; omega

theorem neqId (x y : Id) (w : World) : (binOp .neq 34 (.agg #[.int .u8 (x.f : Int), .int .u64 (x.s : Int)]) (.agg #[.int .u8 (y.f : Int), .int .u64 (y.s : Int)])).run Try.prog w = .ok (.bool (!decide (x = y))) w := by
  have u5 := Try.underlying5
  have a5 := Try.isAgg5
  have z5 := Try.sizeOf5
  have u22 := Try.underlying32
  have a22 := Try.isAgg32
  have z22 := Try.sizeOf32
  have hS : Try.prog.underlying 34 = some (.struct (Try.prog.fieldsOf 34)) := by kernel_rfl
  have hp : Try.prog.stoodInHeld 34 = false := by kernel_rfl
  have he : decide (x = y) = (decide (x.f = y.f) && decide (x.s = y.s)) := by
    rw [Bool.eq_iff_iff]
    simp only [Bool.and_eq_true, decide_eq_true_eq]
    exact ⟨fun h => by subst h; exact ⟨rfl, rfl⟩, fun h => Id.same h.1 h.2⟩
  rw [he, run_neq_struct, show (10000 : Nat) = 9999 + 1 from rfl, run_equalIn_agg w 9999 34 _ _ hS hp]
  simp only [Program.fieldsOf, Try.underlying34]
  go_simp
  by_cases h1 : x.f = y.f <;> by_cases h2 : x.s = y.s <;> simp [h1, h2] <;> omega

theorem neqRn (x y : Rn) (w : World) : (binOp .neq 84 (.agg #[.int .u8 (x.f : Int), .int .u64 (x.a : Int), .int .u64 (x.c : Int)]) (.agg #[.int .u8 (y.f : Int), .int .u64 (y.a : Int), .int .u64 (y.c : Int)])).run Try.prog w = .ok (.bool (!decide (x = y))) w := by
  have u5 := Try.underlying5
  have a5 := Try.isAgg5
  have z5 := Try.sizeOf5
  have u22 := Try.underlying32
  have a22 := Try.isAgg32
  have z22 := Try.sizeOf32
  have hS : Try.prog.underlying 84 = some (.struct (Try.prog.fieldsOf 84)) := by kernel_rfl
  have hp : Try.prog.stoodInHeld 84 = false := by kernel_rfl
  have he : decide (x = y) = (decide (x.f = y.f) && decide (x.a = y.a) && decide (x.c = y.c)) := by
    rw [Bool.eq_iff_iff]
    simp only [Bool.and_eq_true, decide_eq_true_eq]
    exact ⟨fun h => by subst h; exact ⟨⟨rfl, rfl⟩, rfl⟩, fun h => Rn.same h.1.1 h.1.2 h.2⟩
  rw [he, run_neq_struct, show (10000 : Nat) = 9999 + 1 from rfl, run_equalIn_agg w 9999 84 _ _ hS hp]
  simp only [Program.fieldsOf, Try.underlying84]
  go_simp
  by_cases h1 : x.f = y.f <;> by_cases h2 : x.a = y.a <;> by_cases h3 : x.c = y.c <;> simp [h1, h2, h3] <;> omega

theorem guardId : Try.prog.eqGuardType Try.prog.depth 34 = false := by kernel_rfl

theorem guardRn : Try.prog.eqGuardType Try.prog.depth 84 = false := by kernel_rfl

set_option maxRecDepth 100000 in
set_option maxHeartbeats 800000 in
theorem sameRns_any (A1 A2 : Option Addr) (n1 c1 n2 c2 : Nat) (xs ys : List Rn) (w : World) (hl1 : xs.length = n1) (hl2 : ys.length = n2) (hn : n1 ≤ 1000000) (h1 : Lies w w.heap.size A1 (flat encRn xs)) (h2 : Lies w w.heap.size A2 (flat encRn ys)) :
    Calls Try.prog 34 #[.slice A1 n1 c1, .slice A2 n2 c2] w fun e w' => e = .returned (.bool (decide (xs = ys))) ∧ RowKit.Below w.heap.size w w' := by
  have mixed := mixedOrders
  have hGd := guardRn
  generalize hD : decide (xs = ys) = D
  have HD := Lib.hid hD
  have HL1 := Lib.hid hl1
  have HL2 := Lib.hid hl2
  clear hD hl1 hl2
  by_cases hnn : n1 = n2
  · subst hnn
    go_enter Try.func34, Try.ntmps34
    go_wp2
    go_loopw [5, 13] (fun _ i wr => ∃ k : Nat, k ≤ n1 ∧ i = .int .i64 k ∧ RowKit.Below w.heap.size w wr ∧ Hid (xs.take k = ys.take k)) (fun _ i _ => n1 - (intOf i).toNat)
    case atStart => exact ⟨0, Nat.zero_le _, rfl, RowKit.Below.refl _ _, by show xs.take 0 = ys.take 0; simp⟩
    case round =>
      obtain ⟨k, hk, rfl, hb, hT⟩ := hrel
      by_cases hlt : k < n1
      · have hk1 : k < xs.length := by rw [HL1.out]; exact hlt
        have hk2 : k < ys.length := by rw [HL2.out]; exact hlt
        obtain ⟨b1, o1, rfl, hl1, x0, x1, x2⟩ := (h1.below hb).rn hk1
        obtain ⟨b2, o2, rfl, hl2, y0, y1, y2⟩ := (h2.below hb).rn hk2
        have hw1 : b1 < wr.heap.size := Nat.lt_of_lt_of_le hl1 hb.size
        have hw2 : b2 < wr.heap.size := Nat.lt_of_lt_of_le hl2 hb.size
        have hE := neqRn xs[k] ys[k]
        have K1 : Hid (decide (xs[k] = ys[k]) = false → D = false) := fun he => by
          rw [← HD.out]
          refine decide_eq_false fun h => ?_
          subst h
          exact absurd rfl (of_decide_eq_false he)
        have K2 : Hid (decide (xs[k] = ys[k]) = true → xs.take (k + 1) = ys.take (k + 1)) := fun he => by
          rw [List.take_succ_eq_append_getElem hk1, List.take_succ_eq_append_getElem hk2, hT.out, of_decide_eq_true he]
        generalize xs[k] = x at x0 x1 x2 K1 K2 hE
        generalize ys[k] = y at y0 y1 y2 K1 K2 hE
        have p0 := later_cell (w0 := wr) (b := b1) hw1 x0
        have p1 := later_cell (w0 := wr) (b := b1) hw1 x1
        have p2 := later_cell (w0 := wr) (b := b1) hw1 x2
        have q0 := later_cell (w0 := wr) (b := b2) hw2 y0
        have q1 := later_cell (w0 := wr) (b := b2) hw2 y1
        have q2 := later_cell (w0 := wr) (b := b2) hw2 y2
        clear x0 x1 x2 y0 y1 y2
        generalize decide (x = y) = de at hE K1 K2
        cases de with
        | false =>
          have HR : Hid (D = false) := K1.out rfl
          go_wp2_with fail
          refine wp_region_later mixed (by kernel_rfl) ?_
          repeat (go_big_quiet_step (fail))
          refine wpQuiet_nil ?_
          intro _ hw'
          obtain ⟨p, rfl⟩ := hw'
          have hbp : RowKit.Below w.heap.size w p.w := hb.trans (p.hb.mono hb.size)
          go_wp2
          go_ret
          rw [HR.out]
          exact ⟨rfl, hbp⟩
        | true =>
          have HN : Hid (xs.take (k + 1) = ys.take (k + 1)) := K2.out rfl
          go_wp2_with fail
          refine wp_region_later mixed (by kernel_rfl) ?_
          repeat (go_big_quiet_step (fail))
          refine wpQuiet_nil ?_
          intro _ hw'
          obtain ⟨p, rfl⟩ := hw'
          have hbp : RowKit.Below w.heap.size w p.w := hb.trans (p.hb.mono hb.size)
          go_wp2
          go_roundw
          case rel => exact ⟨k + 1, by omega, by go_num, hbp, HN⟩
          case measure => simp [intOf]; omega
      · have HR : Hid (D = true) := by
          show D = true
          rw [← HD.out]
          refine decide_eq_true ?_
          have := hT.out
          rwa [List.take_of_length_le (by rw [HL1.out]; omega), List.take_of_length_le (by rw [HL2.out]; omega)] at this
        go_wp2
        go_ret
        rw [HR.out]
        exact ⟨rfl, hb⟩
  · have HR : Hid (D = false) := by
      show D = false
      rw [← HD.out]
      refine decide_eq_false fun h => hnn ?_
      rw [← HL1.out, ← HL2.out, h]
    have hz : ((n1 : Int) == (n2 : Int)) = false := beq_eq_false_iff_ne.2 (by omega)
    go_enter Try.func34, Try.ntmps34
    go_wp2
    go_ret
    rw [HR.out]
    exact ⟨rfl, RowKit.Below.refl _ _⟩

theorem Lies.kept {w w' : World} {B : Nat} {A : Option Addr} {xs : List Value} {row : Option Nat} (h : Lies w B A xs) (hg : w.grownBy w' row) (hB : B ≤ w.heap.size) (hne : ∀ a, A = some a → some a.block ≠ row) : Lies w' B A xs := fun hn => by
  obtain ⟨b, off, rfl, hlt, hc⟩ := h hn
  refine ⟨b, off, rfl, hlt, fun i u hu => ?_⟩
  rw [World.cell?_of_block (w := w) (hg.block b (by omega) (hne _ rfl))]
  exact hc i u hu

/-- A frame. -/
structure Fr where
  kind : Nat
  src : Nat
  dst : Nat
  id : Id
  seq : Nat
  at_ : Nat
  of_ : Nat
  size : Nat
  inst : Nat
  rnd : Nat
  est : List Rn
  aux : List Rn
  done : List Nat
  held : List Nat
  data : List UInt8

/-- Its numbers are numbers of their kinds, and its lists are no longer than is gone through. -/
structure Fr.Ok (F : Fr) : Prop where
  kind : F.kind < 256
  src : F.src < 256
  dst : F.dst < 256
  seq : F.seq < 18446744073709551616
  at_ : F.at_ < 4294967296
  of_ : F.of_ < 4294967296
  size : F.size < 4294967296
  inst : F.inst < 18446744073709551616
  rnd : F.rnd < 18446744073709551616
  est : F.est.length ≤ 100
  aux : F.aux.length ≤ 100
  done : F.done.length ≤ 100
  held : F.held.length ≤ 100
  data : F.data.length ≤ 4000
  doneN : ∀ x ∈ F.done, x < 18446744073709551616
  heldN : ∀ x ∈ F.held, x < 18446744073709551616

/-- Its cells: the five slices are given as they are. -/
def frCells (F : Fr) (ve vx vn vh vd : Value) : Array Value :=
  #[.int .u8 (F.kind : Int), .int .u8 (F.src : Int), .int .u8 (F.dst : Int), .int .u8 (F.id.f : Int), .int .u64 (F.id.s : Int), .int .u64 (F.seq : Int), .int .u32 (F.at_ : Int), .int .u32 (F.of_ : Int), .int .u32 (F.size : Int),
    .int .u64 (F.inst : Int), .int .u64 (F.rnd : Int), ve, vx, vn, vh, vd]

/-- A slice of n elements that reads as these cells, in a block that is not among D. -/
def SlA (w : World) (D : Nat → Prop) (A : Option Addr) (n c : Nat) (xs : List Value) : Prop :=
  n ≤ c ∧ c ≤ maxLen ∧ (xs ≠ [] → ∃ b off, A = some ⟨b, off, none⟩ ∧ b < w.heap.size ∧ ¬ D b ∧ ∀ i u, xs[i]? = some u → w.cell? ⟨b, off + i, none⟩ = some u)

def Sl (w : World) (D : Nat → Prop) (v : Value) (n : Nat) (xs : List Value) : Prop := ∃ A c, v = .slice A n c ∧ SlA w D A n c xs

theorem SlA.lies {w : World} {D : Nat → Prop} {A : Option Addr} {n c : Nat} {xs : List Value} (h : SlA w D A n c xs) : Lies w w.heap.size A xs := fun hn => by
  obtain ⟨b, off, e, hb, _, hc⟩ := h.2.2 hn
  exact ⟨b, off, e, hb, hc⟩

theorem Sl.kept {w w' : World} {D : Nat → Prop} {v : Value} {n : Nat} {xs : List Value} (h : Sl w D v n xs) (ho : OnlyE w w' D) : Sl w' D v n xs := by
  obtain ⟨A, c, e, h1, h2, h3⟩ := h
  refine ⟨A, c, e, h1, h2, fun hn => ?_⟩
  obtain ⟨b, off, e2, hb, hd, hc⟩ := h3 hn
  refine ⟨b, off, e2, Nat.lt_of_lt_of_le hb ho.1, hd, fun i u hu => ?_⟩
  rw [World.cell?_of_block (w := w) (ho.2 b hb hd)]
  exact hc i u hu

theorem Sl.nil {w : World} {D : Nat → Prop} : Sl w D (.slice none 0 0) 0 [] := ⟨none, 0, rfl, Nat.le_refl _, by unfold maxLen; omega, fun h => absurd rfl h⟩

/-- Where a slice begins, and its room. -/
abbrev Hd := Option Addr × Nat

/-- A frame as a value: where its five slices begin is given. -/
def frVal (F : Fr) (e x n h d : Hd) : Value :=
  .agg #[.int .u8 (F.kind : Int), .int .u8 (F.src : Int), .int .u8 (F.dst : Int), .int .u8 (F.id.f : Int), .int .u64 (F.id.s : Int), .int .u64 (F.seq : Int), .int .u32 (F.at_ : Int), .int .u32 (F.of_ : Int), .int .u32 (F.size : Int),
    .int .u64 (F.inst : Int), .int .u64 (F.rnd : Int), .slice e.1 F.est.length e.2, .slice x.1 F.aux.length x.2, .slice n.1 F.done.length n.2, .slice h.1 F.held.length h.2, .slice d.1 F.data.length d.2]

/-- These cells are this frame's; its slices lie in blocks that are not among D. -/
def FrV (w : World) (D : Nat → Prop) (F : Fr) (cs : Array Value) : Prop :=
  ∃ ve vx vn vh vd, cs = frCells F ve vx vn vh vd ∧ Sl w D ve F.est.length (flat encRn F.est) ∧ Sl w D vx F.aux.length (flat encRn F.aux) ∧
    Sl w D vn F.done.length (uvs F.done) ∧ Sl w D vh F.held.length (uvs F.held) ∧ Sl w D vd F.data.length (bvs F.data)

theorem Sl.one {w : World} {D : Nat → Prop} {v : Value} {n : Nat} {xs : List Value} (h : Sl w D v n xs) : v.oneCell' = true := by
  obtain ⟨A, c, rfl, _⟩ := h
  rfl

theorem Sl.widen {w : World} {D D' : Nat → Prop} {v : Value} {n : Nat} {xs : List Value} (h : Sl w D v n xs) (hD : ∀ k, D' k → w.heap.size ≤ k ∨ D k) : Sl w D' v n xs := by
  obtain ⟨A, c, e, h1, h2, h3⟩ := h
  refine ⟨A, c, e, h1, h2, fun hn => ?_⟩
  obtain ⟨b, off, e2, hb, hd, hc⟩ := h3 hn
  exact ⟨b, off, e2, hb, fun hd' => (hD b hd').elim (fun h => absurd hb (Nat.not_lt.2 h)) hd, hc⟩

theorem FrV.widen {w : World} {D D' : Nat → Prop} {F : Fr} {cs : Array Value} (h : FrV w D F cs) (hD : ∀ k, D' k → w.heap.size ≤ k ∨ D k) : FrV w D' F cs := by
  obtain ⟨ve, vx, vn, vh, vd, e, h1, h2, h3, h4, h5⟩ := h
  exact ⟨ve, vx, vn, vh, vd, e, h1.widen hD, h2.widen hD, h3.widen hD, h4.widen hD, h5.widen hD⟩

theorem FrV.kept {w w' : World} {D : Nat → Prop} {F : Fr} {cs : Array Value} (h : FrV w D F cs) (ho : OnlyE w w' D) : FrV w' D F cs := by
  obtain ⟨ve, vx, vn, vh, vd, e, h1, h2, h3, h4, h5⟩ := h
  exact ⟨ve, vx, vn, vh, vd, e, h1.kept ho, h2.kept ho, h3.kept ho, h4.kept ho, h5.kept ho⟩

theorem FrV.on {w w' : World} {D : Nat → Prop} {F : Fr} {cs : Array Value} (h : FrV w D F cs) (hb : RowKit.Below w.heap.size w w') : FrV w' D F cs := h.kept (OnlyE.of_below hb)

theorem FrV.size {w : World} {D : Nat → Prop} {F : Fr} {cs : Array Value} (h : FrV w D F cs) : cs.size = 16 := by
  obtain ⟨ve, vx, vn, vh, vd, rfl, _⟩ := h
  rfl

theorem FrV.one {w : World} {D : Nat → Prop} {F : Fr} {cs : Array Value} (h : FrV w D F cs) : cs.all (·.oneCell') = true := by
  obtain ⟨ve, vx, vn, vh, vd, rfl, h1, h2, h3, h4, h5⟩ := h
  have k1 := h1.one
  have k2 := h2.one
  have k3 := h3.one
  have k4 := h4.one
  have k5 := h5.one
  clear h1 h2 h3 h4 h5
  simp only [frCells, List.all_toArray, List.all_cons, List.all_nil, k1, k2, k3, k4, k5, Bool.and_true]
  rfl

theorem FrV.val {w : World} {D : Nat → Prop} {F : Fr} {cs : Array Value} (h : FrV w D F cs) : ∃ e x n h d, Value.agg cs = frVal F e x n h d := by
  obtain ⟨ve, vx, vn, vh, vd, rfl, ⟨A1, c1, rfl, _⟩, ⟨A2, c2, rfl, _⟩, ⟨A3, c3, rfl, _⟩, ⟨A4, c4, rfl, _⟩, ⟨A5, c5, rfl, _⟩⟩ := h
  exact ⟨⟨A1, c1⟩, ⟨A2, c2⟩, ⟨A3, c3⟩, ⟨A4, c4⟩, ⟨A5, c5⟩, rfl⟩

theorem info33 {cs : Array Value} (h : cs.size = 16) : (Try.prog.info? 40).map (·.size) = some cs.size := by
  rw [h]
  kernel_rfl

section
variable {ops : Array Oper} {rest : List Oper} {dst : Option Tmp} {ty : TypeId} {pos : String} {aft : Array Edge} {a : Act} {w : World} {Q : Exit → Act → World → Prop} {cs : Array Value}

/-- A frame is loaded whole. -/
theorem load_frame (x : Operand) {g : Nat} (hx : a.eval x = .pointer (some ⟨g, 0, none⟩)) (hg : w.heap[g]? = some (.cells cs 40 (0, 0))) (hs : cs.size = 16)
    (h : wpList Try.prog ops Q rest (a.put dst (.agg cs)) w) : wpList Try.prog ops Q (⟨dst, .load 40 x, ty, pos, aft, none⟩ :: rest) a w :=
  wpList_load_row rfl _ x rfl g hx _ cs (0, 0) _ hg Try.underlying40 rfl (info33 hs) h

/-- So under a guard that lets it. -/
theorem load_frame_on {gd : Nat × Bool} (x : Operand) {g : Nat} (hw : Region.wanted (⟨dst, .load 40 x, ty, pos, aft, some gd⟩ : Oper) (yielded ops a.tmps) = true) (hx : a.eval x = .pointer (some ⟨g, 0, none⟩)) (hg : w.heap[g]? = some (.cells cs 40 (0, 0))) (hs : cs.size = 16)
    (h : wpList Try.prog ops Q rest (a.put dst (.agg cs)) w) : wpList Try.prog ops Q (⟨dst, .load 40 x, ty, pos, aft, some gd⟩ :: rest) a w :=
  wpList_step fun _ hK => by
    rw [if_pos hw]
    exact wp_load_row _ x rfl g hx _ cs (0, 0) _ hg Try.underlying40 rfl (info33 hs) (hK _ _ h)

/-- A frame is stored whole, into a new block. -/
theorem store_frame (x y : Operand) {g : Nat} {old : Array Value} (hx : a.eval x = .pointer (some ⟨g, 0, none⟩)) (hy : a.eval y = .agg cs) (hg : w.heap[g]? = some (.cells old 40 (0, 0))) (ho : old.size = 16) (hs : cs.size = 16) (h1 : cs.all (·.oneCell') = true)
    (h : wpList Try.prog ops Q rest (a.put dst undef) (w.setRow g cs)) : wpList Try.prog ops Q (⟨dst, .store 40 x y, ty, pos, aft, none⟩ :: rest) a w :=
  wpList_store_row rfl _ x y rfl g cs hx hy _ old hg (info33 hs) (by omega) h1 h

/-- A frame is stored whole, into the block that was made last. -/
theorem store_frame_new (x y : Operand) {w1 : World} {g : Nat} {old : Array Value} (hgw : g = w1.heap.size) (hx : a.eval x = .pointer (some ⟨g, 0, none⟩)) (hy : a.eval y = .agg cs) (ho : old.size = 16) (hs : cs.size = 16) (h1 : cs.all (·.oneCell') = true)
    (h : wpList Try.prog ops Q rest (a.put dst undef) (w1.alloc (.cells cs 40))) : wpList Try.prog ops Q (⟨dst, .store 40 x y, ty, pos, aft, none⟩ :: rest) a (w1.alloc (.cells old 40)) := by
  subst hgw
  refine store_frame x y hx hy (heap_alloc_new _ _) ho hs h1 ?_
  rw [setRow_new]
  exact h

end

theorem Sl.ok {w : World} {D : Nat → Prop} {v : Value} {n : Nat} {xs : List Value} (h : Sl w D v n xs) : n ≤ maxLen := by
  obtain ⟨A, c, _, h1, h2, _⟩ := h
  omega

theorem load_row33 {W : World} {g : Nat} {cs : Array Value} (hg : W.heap[g]? = some (.cells cs 40 (0, 0))) (hs : cs.size = 16) : (loadVar 40 ⟨g, 0, none⟩).run Try.prog W = .ok (.agg cs) W :=
  run_loadVar_row W g _ _ cs (0, 0) _ hg Try.underlying40 rfl (info33 hs)

theorem own_only {w w' : World} {X : Nat → Prop} {base k : Nat} {e : TypeId} {v : Value} {n : Nat} {xs : List Value} (h : w.ownsRow base e k v n xs) (ho : OnlyE w w' X) (hX : ∀ b, v.ownBlock = some b → ¬ X b) : w'.ownsRow base e k v n xs := by
  refine ⟨h.1, ?_⟩
  rcases h.2 with hn | ⟨g, cap, cur, rfl, hbg, hg, rest⟩
  · exact .inl hn
  · exact .inr ⟨g, cap, cur, rfl, hbg, (ho.same g (Array.getElem?_eq_some_iff.1 hg).1 (hX g rfl)).trans hg, rest⟩

theorem own_one {w : World} {base k : Nat} {e : TypeId} {v : Value} {n : Nat} {xs : List Value} (h : w.ownsRow base e k v n xs) : v.oneCell' = true := by
  obtain ⟨A, c, rfl, _⟩ := own_sliceK h
  rfl

theorem OnlyE.of_grownO {a b : World} {q : Option Nat} (h : a.grownBy b q) : OnlyE a b (fun k => q = some k) :=
  ⟨h.size, fun i hi hn => h.block i hi (fun e => hn e.symm), ⟨h.os, h.tape, h.output, h.size, fun k hk => absurd hk (Nat.not_lt_zero k)⟩⟩

theorem drewB (W : World) : RowKit.Below W.heap.size W W.drew := (RowKit.Below.refl _ _).drew

section
variable {P : Program} {ops : Array Oper} {Q : Exit → Act → World → Prop} {md : Region.Mode} {S : World → Prop} {z : Nat}

/-- Whatever order is picked from here on, and S holds behind every operation that is carried out, but behind number z. -/
def wpAnyZ (P : Program) (md : Region.Mode) (ops : Array Oper) (Q : Exit → Act → World → Prop) (S : World → Prop) (z : Nat) : Nat → Array Bool → Act → World → Prop
  | 0, listed, a, w => Region.ready md ops listed = [] ∧ Q .normal a w
  | fuel + 1, listed, a, w =>
    (Region.ready md ops listed = [] → Q .normal a w) ∧
    ∀ i ∈ Region.ready md ops listed, wpOp P ops Q i (fun a' w' => (i ≠ z → S w') ∧ wpAnyZ P md ops Q S z fuel (listed.setIfInBounds i true) a' w') a w

theorem wpAny_of_Z : ∀ (fuel : Nat) (listed : Array Bool) (a : Act) (w : World), wpAnyZ P md ops Q S z fuel listed a w → wpAny P md ops Q fuel listed a w
  | 0, _, _, _, h => h
  | fuel + 1, _, _, _, h => ⟨h.1, fun i hi => wpOp_mono (fun a' w' h' => wpAny_of_Z fuel _ a' w' h'.2) (h.2 i hi)⟩

theorem wpAnyZ_first {i : Nat} {oi : Oper} {v : Value} (hi : ops[i]? = some oi) (hsel : ∀ (j : Nat) (o : Oper) cs b, ops[j]? = some o → o.op ≠ .select cs b)
    (hz : ∀ oz, ops[z]? = some oz → ∃ e ∈ oz.after, Region.binds md e = true ∧ e.on = i) (hQ : ∀ c a w, Q (.panic c) (a.put oi.dst v) w → Q (.panic c) a w) :
    ∀ (fuel : Nat) (listed : Array Bool) (a : Act) (w : World),
      (∀ j oj, ops[j]? = some oj → j ≠ i → listed.getD j true = false → (∀ e ∈ oj.after, Region.binds md e = true → e.on ≠ i) → oi.apart ops oj = true) →
      i ∈ Region.ready md ops listed → YieldsIf P ops S oi v a → S w →
      wpAnyZ P md ops Q S z fuel (listed.setIfInBounds i true) (a.put oi.dst v) w → wpAnyZ P md ops Q S z (fuel + 1) listed a w := by
  intro fuel
  induction fuel with
  | zero =>
    intro listed a w _ hr hy hS H
    refine ⟨fun h => (by rw [h] at hr; cases hr), fun j hj => ?_⟩
    by_cases hji : j = i
    · subst hji; exact hy.wpOp hi hS ⟨fun _ => hS, H⟩
    · have := ready_mono hj hji
      rw [H.1] at this
      cases this
  | succ fuel ih =>
    intro listed a w hfree hr hy hS H
    refine ⟨fun h => (by rw [h] at hr; cases hr), fun j hj => ?_⟩
    by_cases hji : j = i
    · subst hji; exact hy.wpOp hi hS ⟨fun _ => hS, H⟩
    · have h1 := H.2 j (ready_mono hj hji)
      obtain ⟨hjun, oj, hoj, hall⟩ := mem_ready.1 hj
      have hnot : ∀ e ∈ oj.after, Region.binds md e = true → e.on ≠ i := fun e he hb heq => by
        have h1 := hall e he hb
        have h0 := (mem_ready.1 hr).1
        rw [heq] at h1
        rcases Nat.lt_or_ge i listed.size with h' | h'
        · simp [h'] at h0 h1; rw [h0] at h1; cases h1
        · simp [Array.getElem?_eq_none h'] at h1
      have hjz : j ≠ z := fun e => by
        subst e
        obtain ⟨ed, he1, he2, he3⟩ := hz oj hoj
        exact hnot ed he1 he2 he3
      have h2 := wpOp_putIf hoj (hfree j oj hoj hji hjun hnot) (fun cs b => hsel i oi cs b hi) (fun cs b => hsel j oj cs b hoj) hQ hy h1
      have hfree' : ∀ k ok, ops[k]? = some ok → k ≠ i → (listed.setIfInBounds j true).getD k true = false →
          (∀ e ∈ ok.after, Region.binds md e = true → e.on ≠ i) → oi.apart ops ok = true := fun k ok hk hki hun hno => by
        refine hfree k ok hk hki ?_ hno
        by_cases hjk : j = k
        · subst hjk; exact hjun
        · rw [getD_set_ne true hjk] at hun; exact hun
      refine wpOp_mono (fun a' w' h3 => ⟨fun _ => h3.2.1 hjz, ih (listed.setIfInBounds j true) a' w' hfree' (ready_mono hr (Ne.symm hji)) h3.1 (h3.2.1 hjz) ?_⟩) h2
      rw [Array.setIfInBounds_comm _ _ hji]
      exact h3.2.2

/-- Number z waits for number i. -/
def waitsB (md : Region.Mode) (ops : Array Oper) (z i : Nat) : Bool := match ops[z]? with
  | some o => o.after.any fun e => Region.binds md e && e.on == i
  | none => true

theorem waitsB_spec {i : Nat} (h : waitsB md ops z i = true) : ∀ oz, ops[z]? = some oz → ∃ e ∈ oz.after, Region.binds md e = true ∧ e.on = i := fun oz ho => by
  unfold waitsB at h
  rw [ho] at h
  simp only [Array.any_eq_true, Bool.and_eq_true, beq_iff_eq] at h
  obtain ⟨j, hj, h1, h2⟩ := h
  exact ⟨_, Array.getElem_mem hj, h1, h2⟩

theorem wpZ_take {i d : Nat} {oi : Oper} {v : Value} {fuel : Nat} {listed : Array Bool} {a : Act} {w : World} (hi : ops[i]? = some oi) (hd : oi.dst = some d)
    (hs : Region.noSelect ops = true) (hf : Region.free md ops listed i = true) (hr : (Region.ready md ops listed).contains i = true) (hz : waitsB md ops z i = true)
    (hQ : ∀ c a w, Q (.panic c) (a.put (some d) v) w → Q (.panic c) a w) (hy : YieldsIf P ops S oi v a) (hS : S w)
    (h : wpAnyZ P md ops Q S z fuel (listed.setIfInBounds i true) ⟨a.tmps.setIfInBounds d v, a.defers⟩ w) : wpAnyZ P md ops Q S z (fuel + 1) listed a w :=
  wpAnyZ_first hi (Region.noSelect_spec hs) (waitsB_spec hz) (by rw [hd]; exact hQ) fuel listed a w (Region.free_spec hi hf) (by simpa using hr) hy hS (by rw [hd]; exact h)

def AllReadyZ (P : Program) (md : Region.Mode) (ops : Array Oper) (Q : Exit → Act → World → Prop) (S : World → Prop) (z : Nat) (fuel : Nat) (listed : Array Bool) (a : Act) (w : World) (rs : List Nat) : Prop :=
  ∀ i ∈ rs, wpOp P ops Q i (fun a' w' => (i ≠ z → S w') ∧ wpAnyZ P md ops Q S z fuel (listed.setIfInBounds i true) a' w') a w

theorem AllReadyZ.nil {fuel : Nat} {listed : Array Bool} {a : Act} {w : World} : AllReadyZ P md ops Q S z fuel listed a w [] := fun _ h => by cases h

theorem AllReadyZ.cons {fuel : Nat} {listed : Array Bool} {a : Act} {w : World} {i : Nat} {o : Oper} {rs : List Nat} (ho : ops[i]? = some o)
    (h : ∀ K' : Act → World → Prop, Shut (∀ a w, (i ≠ z → S w) → wpAnyZ P md ops Q S z fuel (listed.setIfInBounds i true) a w → K' a w) → if Region.wanted o (yielded ops a.tmps) = true then Oper.wp P o a w K' Q else K' (a.put o.dst undef) w)
    (hs : AllReadyZ P md ops Q S z fuel listed a w rs) : AllReadyZ P md ops Q S z fuel listed a w (i :: rs) := fun j hj => by
  rcases List.mem_cons.1 hj with rfl | hj
  · exact wpOp_step ho (fun K' hK => h K' (fun a w hS hW => hK a w ⟨hS, hW⟩))
  · exact hs j hj

theorem wpZ_ready {rs : List Nat} {fuel : Nat} {listed : Array Bool} {a : Act} {w : World} (hr : Region.ready md ops listed = rs) (hne : rs ≠ [])
    (h : AllReadyZ P md ops Q S z fuel listed a w rs) : wpAnyZ P md ops Q S z (fuel + 1) listed a w :=
  ⟨fun h0 => absurd (hr ▸ h0) hne, hr ▸ h⟩

theorem wpZ_done {listed : Array Bool} {a : Act} {w : World} (hr : Region.ready md ops listed = []) (h : Q .normal a w) :
    ∀ fuel, wpAnyZ P md ops Q S z fuel listed a w
  | 0 => ⟨hr, h⟩
  | _ + 1 => ⟨fun _ => h, by rw [hr]; simp⟩

theorem wp_region_Z (z : Nat) (S : World → Prop) {id : Nat} {a : Act} {w : World} (hm : P.follows .mixedOrders = true)
    (h : wpAnyZ P .any ops Q S z ops.size (Array.replicate ops.size false) a w.drew) : (Code.region id ops true).wp P Q a w :=
  wp_region_any hm (wpAny_of_Z _ _ _ _ h)

end

theorem results_cell_tmp {fn : Func} {p q : Tmp} {ty : TypeId} (h : fn.results = #[.cell p ty, .tmp q]) (tmps : Array Value) (w : World) (g : Nat) (cs : Array Value)
    (hp : tmps.getD p undef = .pointer (some ⟨g, 0, none⟩)) (hl : (loadVar ty ⟨g, 0, none⟩).run Try.prog w = .ok (.agg cs) w) :
    (results fn tmps).run Try.prog w = .ok (.tuple #[.agg cs, tmps.getD q undef]) w := by
  have hp' : tmps[p]?.getD undef = .pointer (some ⟨g, 0, none⟩) := by simpa using hp
  simp [results, h, hp', asAddr, hl]

theorem alloc2_blocks (w : World) (o1 o2 : Obj) {W : World} (hW : (w.alloc o1).alloc o2 = W) : W.heap[w.heap.size]? = some o1 ∧ W.heap[w.heap.size + 1]? = some o2 ∧ RowKit.Below w.heap.size w W := by
  subst hW
  refine ⟨(heap_alloc_old _ _ (by simp)).trans (heap_alloc_new _ _), ?_, ((RowKit.Below.refl _ _).alloc (Nat.le_refl _) _).alloc (by simp) _⟩
  have := heap_alloc_new (w.alloc o1) o2
  simpa using this

end Go.Proofs.Ytmnjedpnhilndaa
