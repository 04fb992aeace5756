/- Stage 14: words, ids (picked out of elder texts). -/
import Derived.Test.YtnpdjlcekmpmoaaMem
import Derived.Test.YtnpdjlcekmpmoaaOpen
import Derived.Test.YtnpdjlcekmpmoaaStr
import Derived.Test.YtnpdjlcekmpmoaaOwn
import Derived.Test.YtnpdjlcekmpmoaaHeld
import Derived.BigQuiet
import Derived.Deep.Cut
import Derived.Deep.CutRange
import Derived.Deep.QuietTactic
import Derived.Deep.RegionWith
import Derived.Deep.Strs
import Derived.IntWalk
import Derived.Laws.OwnMore
import Derived.Laws.Rows
import Derived.Laws.Tables
import Derived.Lib.Hide
import Derived.Lib.SmallJoins
import Derived.Shelf.Abstract
import Derived.Shelf.SlSortCmp.QuietGrown
import Derived.Shelf.SlicesE.Clone
import Derived.WalkKit
import Derived.WalkLawsBesides
import Derived.WalkSpells
namespace Go.Proofs.Ytnpdjlcekmpmoaa
open Go.RowKit Go.Sort Go.ChangeShapes Go.WideShapes Go.ChangeAt

section
variable {α : Type} {enc : α → List Value} {k : Nat}

/-- The cells of a list, one behind the other. -/
def flat (enc : α → List Value) (l : List α) : List Value := l.flatMap enc

theorem flat_nil : flat enc [] = [] := rfl

theorem flat_cons (x : α) (l : List α) : flat enc (x :: l) = enc x ++ flat enc l := by simp [flat]

theorem flat_append (a b : List α) : flat enc (a ++ b) = flat enc a ++ flat enc b := by simp [flat]

theorem flat_length (hk : ∀ x, (enc x).length = k) (l : List α) : (flat enc l).length = l.length * k := by
  induction l with
  | nil => simp [flat]
  | cons x l ih => rw [flat_cons, List.length_append, hk, ih, List.length_cons, Nat.succ_mul]; omega

theorem flat_one (h1 : ∀ x, ∀ v ∈ enc x, v.oneCell' = true) (l : List α) : ∀ v ∈ flat enc l, v.oneCell' = true := by
  intro v hv
  simp only [flat, List.mem_flatMap] at hv
  obtain ⟨x, _, hx⟩ := hv
  exact h1 x v hx

theorem flat_at (hk : ∀ x, (enc x).length = k) : ∀ (l : List α) (i j : Nat), j < k → (h : i < l.length) → (flat enc l)[i * k + j]? = (enc l[i])[j]?
  | [], i, j, _, h => by simp at h
  | x :: l, 0, j, hj, _ => by
    rw [flat_cons, Nat.zero_mul, Nat.zero_add, List.getElem?_append_left (by rw [hk]; exact hj)]
    rfl
  | x :: l, i + 1, j, hj, h => by
    rw [flat_cons, List.getElem?_append_right (by rw [hk, Nat.succ_mul]; omega), hk, show (i + 1) * k + j - k = i * k + j by rw [Nat.succ_mul]; omega]
    exact flat_at hk l i j hj (by simpa using h)

theorem flat_take (hk : ∀ x, (enc x).length = k) (l : List α) (m : Nat) (h : m ≤ l.length) : (flat enc l).take (m * k) = flat enc (l.take m) := by
  conv => lhs; rw [← List.take_append_drop m l, flat_append]
  rw [List.take_left']
  rw [flat_length hk, List.length_take, Nat.min_eq_left h]

theorem flat_drop (hk : ∀ x, (enc x).length = k) (l : List α) (m : Nat) (h : m ≤ l.length) : (flat enc l).drop (m * k) = flat enc (l.drop m) := by
  conv => lhs; rw [← List.take_append_drop m l, flat_append]
  rw [List.drop_left']
  rw [flat_length hk, List.length_take, Nat.min_eq_left h]

end

theorem Lies.on {w w' : World} {A : Option Addr} {xs : List Value} (h : Lies w w.heap.size A xs) (hb : Below w.heap.size w w') : Lies w' w'.heap.size A xs := (h.below hb).more hb.size

/-- A slice of the call's own reads as what it holds. -/
theorem Lies.of_ownK {w : World} {A : Option Addr} {xs : List Value} {base n c k : Nat} {e : TypeId} (h : w.ownsRow base e k (.slice A n c) n xs) : Lies w w.heap.size A xs := fun hn => by
  have hl := h.1
  have hpos : 0 < n := by
    rcases Nat.eq_zero_or_pos n with h0 | h0
    · subst h0; exact absurd (List.eq_nil_of_length_eq_zero (by simpa using hl)) hn
    · exact h0
  obtain ⟨g, cap, hv, _, hlt⟩ := h.form hpos
  have hA : A = some ⟨g, 0, none⟩ := by injection hv
  subst hA
  refine ⟨g, 0, rfl, hlt, fun i u hu => ?_⟩
  have := h.cells (g := g) rfl i u hu
  rwa [add_plain] at this

theorem own_sliceK {w : World} {base k : Nat} {e : TypeId} {v : Value} {n : Nat} {xs : List Value} (h : w.ownsRow base e k v n xs) :
    ∃ A c, v = .slice A n c ∧ n ≤ c ∧ c ≤ maxLen := by
  rcases h.2 with ⟨rfl, rfl⟩ | ⟨g, cap, cur, rfl, _, _, hc, hm, _⟩
  · exact ⟨none, 0, rfl, Nat.le_refl _, Nat.zero_le _⟩
  · exact ⟨_, cap, rfl, hc, hm⟩

/-- What stands in front of such a slice. -/
theorem own_front {w : World} {base k : Nat} {e : TypeId} {A : Option Addr} {n c m : Nat} {xs : List Value} (h : w.ownsRow base e k (.slice A n c) n xs) (hm : m ≤ n) : w.ownsRow base e k (.slice A m c) m (xs.take (m * k)) := by
  refine ⟨?_, ?_⟩
  · rw [List.length_take, h.1, Nat.min_eq_left (Nat.mul_le_mul_right k hm)]
  · rcases h.2 with ⟨h0, rfl⟩ | ⟨g, cap, cur, hv, hb, hg, hc, hcm, hcs, ht⟩
    · injection h0 with e1 e2 e3
      subst e1 e3
      have : m = 0 := by omega
      subst this
      exact .inl ⟨rfl, rfl⟩
    · injection hv with e1 e2 e3
      subst e1 e3
      refine .inr ⟨g, c, cur, rfl, hb, hg, by omega, hcm, hcs, ?_⟩
      rw [← ht, List.take_take, Nat.min_eq_left (Nat.mul_le_mul_right k hm)]

/-- A block that the call has just laid. -/
theorem own_lit {k : Nat} (w : World) (cs : Array Value) (e : TypeId) (n base : Nat) (hb : base ≤ w.heap.size) (hn : n ≤ maxLen) (hs : cs.size = n * k) : (w.alloc (.cells cs e)).ownsRow base e k (.slice (some ⟨w.heap.size, 0, none⟩) n n) n cs.toList :=
  World.ownsRow_lit w cs n hb hn hs

theorem run_append_emptyK {P : Program} {w : World} (base k : Nat) (t ty e : TypeId) (i : TypeInfo) (ht : P.underlying t = some (.slice e)) (hi : P.info? e = some i)
    (v : Value) (n : Nat) (xs : List Value) (hown : w.ownsRow base e k v n xs) (c : Nat) :
    (Builtin.append_ #[t, t] ty #[v, .slice none 0 c]).run P w = .ok v w := by
  rcases hown.2 with ⟨rfl, rfl⟩ | ⟨g, cap, cur, rfl, _, _, hnc, _⟩
  · simp [Builtin.append_, run_underlying ht, sizeOf, typeInfo, hi, Builtin.lenOf, Builtin.firstCells]
  · simp [Builtin.append_, run_underlying ht, sizeOf, typeInfo, hi, Builtin.lenOf, Builtin.firstCells, hnc, storeCells]

/-- append(owned, src...): src nil or not, elements of k cells. -/
theorem run_append_lstK {P : Program} {w : World} (base k : Nat) (hk : 0 < k) (t ty e : TypeId) (i : TypeInfo) (z : Value) (bytes : Nat) (ht : P.underlying t = some (.slice e)) (hi : P.info? e = some i) (hz : i.zero = some z)
    (hsize : i.size = k) (hby : i.bytes = bytes) (hzs : z.cells.size = k) (v : Value) (n : Nat) (xs : List Value) (hown : w.ownsRow base e k v n xs)
    (B : Nat) (A : Option Addr) (m c : Nat) (news : List Value) (hl : news.length = m * k) (hlies : Lies w B A news) (h1 : ∀ u ∈ news, u.oneCell' = true)
    (h63 : n + m ≤ maxLen) (hbytes : (n + m) * bytes ≤ 140737488355328) (hbase : base ≤ w.heap.size) :
    ∃ v' w', (Builtin.append_ #[t, t] ty #[v, .slice A m c]).run P w = .ok v' w' ∧ w'.ownsRow base e k v' (n + m) (xs ++ news) ∧ w.grownBy w' v.ownBlock ∧
      (v'.ownBlock = v.ownBlock ∨ v'.ownBlock = some w.heap.size) := by
  rcases A with _ | ad
  · have hnil : news = [] := by
      rcases news with _ | ⟨u, r⟩
      · rfl
      · obtain ⟨_, _, h, _⟩ := hlies (by simp)
        cases h
    subst hnil
    have hm : m = 0 := by
      rcases Nat.eq_zero_or_pos m with h | h
      · exact h
      · have := Nat.mul_pos h hk; simp at hl; omega
    subst hm
    exact ⟨v, w, run_append_emptyK base k t ty e i ht hi v n xs hown c, by simpa using hown, World.grownBy.refl w _, .inl rfl⟩
  · have hcells : ∀ j u, news[j]? = some u → w.cell? (ad.add j) = some u := fun j u hu => by
      obtain ⟨b, off, he, _, hc⟩ := hlies (by rintro rfl; simp at hu)
      injection he with he
      subst he
      rw [add_plain]
      exact hc j u hu
    obtain ⟨v', w', hrun, h2, h3, _, h5⟩ := run_append_own_at (P := P) w base t ty e i z k bytes ht hi hz hsize hby hzs hk v n xs hown ad m c news hl hcells h1 h63 hbytes hbase
    exact ⟨v', w', hrun, h2, h3, h5⟩

theorem wpList_append_lstK {P : Program} {w : World} {ops : Array Oper} {rest : List Oper} {o : Oper} {a : Act} {Q : Exit → Act → World → Prop} (hgd : o.guard = none) (s x : Operand) (t : TypeId)
    (ho : o.op = .call { callee := .builtin .append, args := #[s, x], argTypes := #[t, t] })
    (base k : Nat) (hk : 0 < k) (e : TypeId) (i : TypeInfo) (z : Value) (bytes : Nat) (ht : P.underlying t = some (.slice e)) (hi : P.info? e = some i) (hz : i.zero = some z)
    (hsize : i.size = k) (hby : i.bytes = bytes) (hzs : z.cells.size = k) (v : Value) (n : Nat) (xs : List Value) (hs : a.eval s = v) (hown : w.ownsRow base e k v n xs)
    (B : Nat) (A : Option Addr) (m c : Nat) (news : List Value) (hx : a.eval x = .slice A m c) (hl : news.length = m * k) (hlies : Lies w B A news) (h1 : ∀ u ∈ news, u.oneCell' = true)
    (h63 : n + m ≤ maxLen) (hbytes : (n + m) * bytes ≤ 140737488355328) (hbase : base ≤ w.heap.size)
    (h : ∀ v' w', w'.ownsRow base e k v' (n + m) (xs ++ news) → w.grownBy w' v.ownBlock → Below base w w' → (v'.ownBlock = v.ownBlock ∨ v'.ownBlock = some w.heap.size) → wpList P ops Q rest (a.put o.dst v') w') :
    wpList P ops Q (o :: rest) a w := by
  refine wpList_plain hgd fun K hK => ?_
  obtain ⟨v', w', hrun, h2, h3, h4⟩ := run_append_lstK (P := P) (w := w) base k hk t o.type e i z bytes ht hi hz hsize hby hzs v n xs hown B A m c news hl hlies h1 h63 hbytes hbase
  have hk := hK _ _ (h v' w' h2 h3 ((Below.refl base w).grown h3 hbase (fun k e => (hown.lt k e).1)) h4)
  unfold Oper.wp execOp
  simp only [ho, resolve, invoke, builtin, Sem.run_bind, Sem.run_pure, Result.andThen_ok, List.map_toArray, List.map_cons, List.map_nil, hs, hx, hrun]
  exact hk

/-- A run of stores behind the front of a slice of the call's own. -/
theorem own_setCells {base k g n c : Nat} {e : TypeId} : ∀ (vs : List Value) (o : Nat) (w : World) (xs : List Value), w.ownsRow base e k (.slice (some ⟨g, 0, none⟩) n c) n xs →
    ∃ ys, (w.setCells g o vs).ownsRow base e k (.slice (some ⟨g, 0, none⟩) n c) n ys ∧ ys.take o = xs.take o ∧ w.grownBy (w.setCells g o vs) (some g)
  | [], o, w, xs, h => ⟨xs, h, rfl, World.grownBy.refl w _⟩
  | v :: r, o, w, xs, h => by
    obtain ⟨h1, h2⟩ := h.stored o v
    obtain ⟨ys, h3, h4, h5⟩ := own_setCells r (o + 1) _ _ h1
    refine ⟨ys, h3, ?_, h2.trans h5⟩
    have := congrArg (List.take o) h4
    rw [List.take_take, List.take_take, Nat.min_eq_left (Nat.le_succ o)] at this
    rw [this, List.take_set_of_le (Nat.le_refl o)]

set_option maxRecDepth 100000 in
theorem clear_own {base k g n c i : Nat} {e t ty : TypeId} {z : Value} {w : World} {xs : List Value} (ht : Try.prog.underlying t = some (.slice e)) (hv : ∀ w, (zeroValue e).run Try.prog w = .ok z w) (hz : z.cells.size = k) (hz1 : ∀ u ∈ z.cells.toList, u.oneCell' = true) (hk : 0 < k) (hi : i < n) (c' : Nat)
    (h : w.ownsRow base e k (.slice (some ⟨g, 0, none⟩) n c) n xs) :
    ∃ w', (Builtin.clear_ #[t] ty #[.slice (some ⟨g, i * k, none⟩) (n - i) c']).run Try.prog w = .ok (.tuple #[]) w' ∧ w'.ownsRow base e k (.slice (some ⟨g, 0, none⟩) i c) i (xs.take (i * k)) ∧ w.grownBy w' (some g) := by
  have hl : (Builtin.zeroCells z.cells (n - i)).toList.length = (n - i) * k := by simp [Builtin.zeroCells, hz]
  have h1 : ∀ u ∈ (Builtin.zeroCells z.cells (n - i)).toList, u.oneCell' = true := by
    intro u hu
    simp only [Builtin.zeroCells, Array.toList_map, List.mem_map] at hu
    obtain ⟨a, _, rfl⟩ := hu
    have hlt : a % z.cells.size < z.cells.size := Nat.mod_lt _ (by omega)
    exact hz1 _ (by rw [getElem!_pos z.cells _ hlt]; simp)
  generalize hvs : (Builtin.zeroCells z.cells (n - i)).toList = vs at hl h1
  have hlt : ∀ j, j < vs.length → i * k + j < n * k := fun j hj => by
    have : i * k + (n - i) * k = n * k := by rw [← Nat.add_mul]; congr 1; omega
    omega
  have hlen := h.1
  have hst := run_storeCells_cells (P := Try.prog) g (i * k) vs 0 w (fun j hj => by rw [Nat.add_zero, h.cellAt _ (hlt j hj), List.getElem?_eq_getElem (by rw [hlen]; exact hlt j hj)]; rfl) (fun j hj => h.frozenAt _) h1
  rw [Nat.add_zero] at hst
  obtain ⟨ys, h3, h4, h5⟩ := own_setCells vs (i * k) w xs h
  refine ⟨_, ?_, ?_, h5⟩
  · obtain ⟨m, hm⟩ : ∃ m, n - i = m + 1 := ⟨n - i - 1, by omega⟩
    rw [hm] at hvs
    simp [Builtin.clear_, run_underlying ht, hm, hv, hvs, hst]
  · have := own_front h3 (Nat.le_of_lt hi)
    rw [h4] at this
    exact this

/-- The world has only grown: draws, and blocks behind the others. -/
def Grew (w w' : World) : Prop := ∃ q os, w' = grow (w.drewN q) os

section
variable {w w1 w2 : World}

theorem Grew.refl (w : World) : Grew w w := ⟨0, #[], by rw [grow_empty]; rfl⟩

theorem Grew.alloc (h : Grew w w1) (o : Obj) : Grew w (w1.alloc o) := by
  obtain ⟨q, os, rfl⟩ := h
  exact ⟨q, os ++ #[o], by rw [alloc_eq_grow, grow_grow]⟩

theorem Grew.drewN (h : Grew w w1) (n : Nat) : Grew w (w1.drewN n) := by
  obtain ⟨q, os, rfl⟩ := h
  exact ⟨q + n, os, by show grow ((w.drewN q).drewN n) os = _; rw [World.drewN_drewN]⟩

theorem Grew.grown (h : Grew w w1) (n : Nat) (os : Array Obj) : Grew w (grow (w1.drewN n) os) := by
  obtain ⟨q, os', rfl⟩ := h
  exact ⟨q + n, os' ++ os, by show grow (grow ((w.drewN q).drewN n) os') os = _; rw [grow_grow, World.drewN_drewN]⟩

theorem Grew.trans (h : Grew w w1) (h' : Grew w1 w2) : Grew w w2 := by
  obtain ⟨n, os, rfl⟩ := h'
  exact h.grown n os

theorem Grew.size (h : Grew w w1) : w.heap.size ≤ w1.heap.size := by
  obtain ⟨q, os, rfl⟩ := h
  simp

theorem Grew.setCell (h : Grew w w1) (b o : Nat) (u : Value) (hb : w.heap.size ≤ b) : Grew w (w1.setCell ⟨b, o, none⟩ u) := by
  obtain ⟨q, os, rfl⟩ := h
  rw [setCell_eq, mapBlock_grow_new _ _ _ _ (by simpa using hb)]
  exact ⟨q, _, rfl⟩

theorem Grew.below (h : Grew w w1) : Below w.heap.size w w1 := by
  obtain ⟨q, os, rfl⟩ := h
  exact ⟨rfl, rfl, rfl, by simp, fun k hk => by rw [heap_grow_old _ _ (by simpa using hk)]; rfl⟩

end

theorem box2 (W w0 : World) (c1 c2 : Array Value) (t1 t2 : TypeId) (h : (W.alloc (.cells c1 t1)).alloc (.cells c2 t2) = w0) : w0.heap.size = W.heap.size + 1 + 1 ∧ Grew W w0 ∧
    (∀ j u, c1[j]? = some u → w0.cell? ⟨W.heap.size, j, none⟩ = some u) ∧ (∀ j u, c2[j]? = some u → w0.cell? ⟨W.heap.size + 1, j, none⟩ = some u) := by
  subst h
  refine ⟨by simp, ((Grew.refl W).alloc _).alloc _, fun j u hu => ?_, fun j u hu => ?_⟩
  · have h1 : ((W.alloc (.cells c1 t1)).alloc (.cells c2 t2)).heap[W.heap.size]? = some (.cells c1 t1 (0, 0)) := by
      rw [Below.heap_alloc _ _ _ (by simp)]
      exact heap_alloc_new W _
    rw [cell_of_row _ _ _ _ _ _ h1]; exact hu
  · have h1 := heap_alloc_new (W.alloc (.cells c1 t1)) (.cells c2 t2 (0, 0))
    have h2 := cell_of_row _ _ j _ _ _ h1
    rw [show (W.alloc (.cells c1 t1)).heap.size = W.heap.size + 1 by simp] at h2
    rw [h2]; exact hu

theorem ret_bool {a b : Bool} (h : a = b) : Ending.returned (.bool a) = Ending.returned (.bool b) := by rw [h]

theorem alloc2_new (W : World) (a b : Obj) : ((W.alloc a).alloc b).heap[W.heap.size + 1]? = some b := by
  have := heap_alloc_new (W.alloc a) b
  rwa [show (W.alloc a).heap.size = W.heap.size + 1 by simp] at this

theorem mixedOrders : Try.prog.follows .mixedOrders = true := by kernel_rfl

theorem box1 (W w0 : World) (c1 : Array Value) (t1 : TypeId) (h : W.alloc (.cells c1 t1) = w0) : w0.heap.size = W.heap.size + 1 ∧ Grew W w0 ∧ (∀ j u, c1[j]? = some u → w0.cell? ⟨W.heap.size, j, none⟩ = some u) := by
  subst h
  refine ⟨by simp, (Grew.refl W).alloc _, fun j u hu => ?_⟩
  rw [cell_of_row _ _ _ _ _ _ (heap_alloc_new W _)]; exact hu

/-- A world in which all that lay in w0 lies unturned. -/
structure Later (w0 : World) where
  w : World
  hb : RowKit.Below w0.heap.size w0 w

instance (w0 : World) : Nonempty (Later w0) := ⟨⟨w0, RowKit.Below.refl _ _⟩⟩

theorem wp_region_later {P : Program} {id : Nat} {Q : Exit → Act → World → Prop} {a : Act} {w0 : World} {l : List Oper} (hm : P.follows .mixedOrders = true) (hB : Region.lexB .any l.toArray = true)
    (h : wpQuiet P l.toArray (fun w' => ∃ p : Later w0, w' = p.w) (fun a' => ∀ w', (∃ p : Later w0, w' = p.w) → Q .normal a' w') l a) : (Code.region id l.toArray true).wp P Q a w0 :=
  wp_region_quiet (C := fun w' => ∃ p : Later w0, w' = p.w) hm hB ⟨⟨_, (RowKit.Below.refl _ _).drew⟩, rfl⟩ (by simpa using h)

theorem later_of {P : Program} {f : FuncId} {args : Array Value} {w0 : World} {p : Later w0} {v : Value} (h : Calls P f args p.w fun e w' => e = .returned v ∧ RowKit.Below p.w.heap.size p.w w') : Calls P f args p.w fun e w'' => e = .returned v ∧ ∃ q : Later w0, w'' = q.w :=
  h.mono fun _ w' ⟨he, hb⟩ => ⟨he, ⟨w', p.hb.trans (hb.mono p.hb.size)⟩, rfl⟩

theorem later_grew {P : Program} {f : FuncId} {args : Array Value} {w0 : World} {p : Later w0} {v : Value} (h : Calls P f args p.w fun e w' => e = .returned v ∧ Grew p.w w') : Calls P f args p.w fun e w'' => e = .returned v ∧ ∃ q : Later w0, w'' = q.w :=
  later_of (h.mono fun _ _ ⟨he, hg⟩ => ⟨he, hg.below⟩)

theorem later_cell {w0 : World} {b o : Nat} {v : Value} (hb : b < w0.heap.size) (h : w0.cell? ⟨b, o, none⟩ = some v) (p : Later w0) : p.w.cell? ⟨b, o, none⟩ = some v :=
  (p.hb.cell (p := ⟨b, o, none⟩) hb).trans h

theorem grown_setCell (w : World) (g i : Nat) (u : Value) : w.grownBy (w.setCell ⟨g, i, none⟩ u) (some g) :=
  ⟨rfl, rfl, rfl, by simp [World.setCell], fun k _ hne => Below.heap_setCell w _ u k (by rintro rfl; exact hne rfl)⟩

/-- Blocks among D alone have turned; new ones may be there. -/
structure OnlyE (w w' : World) (D : Nat → Prop) : Prop where
  size : w.heap.size ≤ w'.heap.size
  same : ∀ k, k < w.heap.size → ¬ D k → w'.heap[k]? = w.heap[k]?
  base : Below 0 w w'

theorem OnlyE.trans {a b c : World} {D : Nat → Prop} (h : OnlyE a b D) (k : OnlyE b c D) : OnlyE a c D :=
  ⟨Nat.le_trans h.1 k.1, fun i hi hn => (k.2 i (Nat.lt_of_lt_of_le hi h.1) hn).trans (h.2 i hi hn), h.3.trans k.3⟩

theorem OnlyE.of_below {a b : World} {D : Nat → Prop} (h : Below a.heap.size a b) : OnlyE a b D := ⟨h.size, fun i hi _ => h.block i hi, h.mono (Nat.zero_le _)⟩

theorem OnlyE.of_grown {a b : World} {D : Nat → Prop} {q : Nat} (h : a.grownBy b (some q)) (hq : D q) : OnlyE a b D :=
  ⟨h.size, fun i hi hn => h.block i hi (by rintro e; injection e with e; subst e; exact hn hq), below_of_grown h (Nat.zero_le _) (Nat.zero_le _)⟩

theorem OnlyE.mono {w w' : World} {D D' : Nat → Prop} (h : OnlyE w w' D) (hD : ∀ k, D k → D' k) : OnlyE w w' D' := ⟨h.1, fun k hk hn => h.2 k hk fun hd => hn (hD k hd), h.3⟩

theorem OnlyE.refl (w : World) (D : Nat → Prop) : OnlyE w w D := ⟨Nat.le_refl _, fun _ _ _ => rfl, Below.refl _ _⟩

theorem onlyE_set {w : World} {D : Nat → Prop} {g : Nat} (hg : D g) (i : Nat) (u : Value) : OnlyE w (w.setCell ⟨g, i, none⟩ u) D := OnlyE.of_grown (grown_setCell w g i u) hg

theorem onlyE_drew (w : World) (D : Nat → Prop) : OnlyE w w.drew D := ⟨Nat.le_refl _, fun _ _ _ => rfl, (Below.refl _ _).drew⟩

theorem OnlyE.below {w w' : World} {D : Nat → Prop} {B : Nat} (h : OnlyE w w' D) (hD : ∀ k, D k → B ≤ k) (hB : B ≤ w.heap.size) : Below B w w' :=
  ⟨h.3.os, h.3.tape, h.3.output, h.1, fun k hk => h.2 k (by omega) fun hd => by have := hD k hd; omega⟩

theorem OnlyE.setNew {w w' : World} {D : Nat → Prop} (h : OnlyE w w' D) {b : Nat} (hb : w.heap.size ≤ b) (i : Nat) (u : Value) : OnlyE w (w'.setCell ⟨b, i, none⟩ u) D := by
  refine ⟨by simpa [World.setCell] using h.1, fun k hk hn => ?_, h.3.setCell (Nat.zero_le _) u⟩
  rw [← h.2 k hk hn]
  have : b ≠ k := by omega
  simp [World.setCell, Array.getElem?_modify, this]

theorem grown_setRow (w : World) (g : Nat) (cs : Array Value) : w.grownBy (w.setRow g cs) (some g) :=
  ⟨rfl, rfl, rfl, by simp [World.setRow], fun k _ hk => setRow_other w g k cs (by rintro rfl; exact hk rfl)⟩

theorem setRow_new (w1 : World) (old cs : Array Value) (t : TypeId) : (w1.alloc (.cells old t)).setRow w1.heap.size cs = w1.alloc (.cells cs t) := by
  unfold World.setRow World.alloc
  congr 1
  apply Array.ext_getElem?
  intro k
  rw [Array.getElem?_modify]
  by_cases hk : w1.heap.size = k
  · subst hk
    simp
  · have hk' : k ≠ w1.heap.size := fun e => hk e.symm
    simp [hk, Array.getElem?_push, hk']

theorem Below.setRow {n : Nat} {a b : World} (h : RowKit.Below n a b) {g : Nat} (hg : n ≤ g) (cs : Array Value) : RowKit.Below n a (b.setRow g cs) :=
  ⟨h.os, h.tape, h.output, by simpa using h.size, fun k hk => (setRow_other b g k cs (by omega)).trans (h.block k hk)⟩

theorem onlyE_setRow {w : World} {D : Nat → Prop} {g : Nat} (hg : D g) (cs : Array Value) : OnlyE w (w.setRow g cs) D := OnlyE.of_grown (grown_setRow w g cs) hg

theorem wp_append_step {P : Program} {o : Oper} {a : Act} {w w' : World} {v vx v' : Value} {ys : Nat → Option Bool} {K : Act → World → Prop} {Q : Exit → Act → World → Prop} {s x : Operand} {t : TypeId} (hgd : o.guard = none) (ho : o.op = .call { callee := .builtin .append, args := #[s, x], argTypes := #[t, t] })
    (hs : a.eval s = v) (hx : a.eval x = vx) (hrun : (Builtin.append_ #[t, t] o.type #[v, vx]).run P w = .ok v' w') (hk : K (a.put o.dst v') w') :
    if Region.wanted o ys = true then Oper.wp P o a w K Q else K (a.put o.dst undef) w := by
  rw [if_pos (by simp [Region.wanted, hgd])]
  unfold Oper.wp execOp
  simp only [ho, resolve, invoke, builtin, Sem.run_bind, Sem.run_pure, Result.andThen_ok, List.map_toArray, List.map_cons, List.map_nil, hs, hx, hrun]
  exact hk

/-- An id: its sender and its number. -/
structure Id where
  f : Nat
  s : Nat
  hf : f < 256
  hs : s < 18446744073709551616
deriving DecidableEq

instance : Inhabited Id := ⟨⟨0, 0, by decide, by decide⟩⟩

/-- A run: its sender, its first number, how many. -/
structure Rn where
  f : Nat
  a : Nat
  c : Nat
  hf : f < 256
  ha : a < 18446744073709551616
  hc : c < 18446744073709551616
deriving DecidableEq

instance : Inhabited Rn := ⟨⟨0, 0, 0, by decide, by decide, by decide⟩⟩

theorem Id.same {x y : Id} (h1 : x.f = y.f) (h2 : x.s = y.s) : x = y := by cases x; cases y; simp_all

theorem Rn.same {x y : Rn} (h1 : x.f = y.f) (h2 : x.a = y.a) (h3 : x.c = y.c) : x = y := by cases x; cases y; simp_all

def encId (x : Id) : List Value := [.int .u8 (x.f : Int), .int .u64 (x.s : Int)]

theorem encId_len (x : Id) : (encId x).length = 2 := rfl

theorem ids_at0 (l : List Id) (i : Nat) (h : i < l.length) : (flat encId l)[i * 2]? = some (.int .u8 (l[i].f : Int)) := by have := flat_at encId_len l i 0 (by decide) h; simpa [encId] using this

theorem ids_at1 (l : List Id) (i : Nat) (h : i < l.length) : (flat encId l)[i * 2 + 1]? = some (.int .u64 (l[i].s : Int)) := by have := flat_at encId_len l i 1 (by decide) h; simpa [encId] using this

/-- The ids that a slice reads as, cell by cell. -/
theorem Lies.id {w : World} {B : Nat} {A : Option Addr} {l : List Id} (h : Lies w B A (flat encId l)) {i : Nat} (hi : i < l.length) :
    ∃ b off, A = some ⟨b, off, none⟩ ∧ b < B ∧ w.cell? ⟨b, off + i * 2, none⟩ = some (.int .u8 (l[i].f : Int)) ∧ w.cell? ⟨b, off + i * 2 + 1, none⟩ = some (.int .u64 (l[i].s : Int)) := by
  obtain ⟨b, off, rfl, hb, hc⟩ := h (by intro h0; have := ids_at0 l i hi; rw [h0] at this; simp at this)
  exact ⟨b, off, rfl, hb, hc _ _ (ids_at0 l i hi), hc _ _ (ids_at1 l i hi)⟩

def digs (n : Nat) : List UInt8 := if n = 0 then [] else UInt8.ofNat (n % 256) :: digs (n / 256)
termination_by n
decreasing_by omega

def enc (n : Nat) : List UInt8 := UInt8.ofNat (digs n).length :: digs n

def row (r : List UInt8) : List UInt8 := enc r.length ++ r

theorem uvs_at {l : List Nat} {k : Nat} (h : k < l.length) : (uvs l)[k]? = some (.int .u64 (l[k] : Int)) := by simp [uvs, uv, h]

theorem neqId (x y : Id) (w : World) : (binOp .neq 33 (.agg #[.int .u8 (x.f : Int), .int .u64 (x.s : Int)]) (.agg #[.int .u8 (y.f : Int), .int .u64 (y.s : Int)])).run Try.prog w = .ok (.bool (!decide (x = y))) w := by
  have u5 := Try.underlying5
  have a5 := Try.isAgg5
  have z5 := Try.sizeOf5
  have u22 := Try.underlying31
  have a22 := Try.isAgg31
  have z22 := Try.sizeOf31
  have hS : Try.prog.underlying 33 = some (.struct (Try.prog.fieldsOf 33)) := by kernel_rfl
  have hp : Try.prog.stoodInHeld 33 = false := by kernel_rfl
  have he : decide (x = y) = (decide (x.f = y.f) && decide (x.s = y.s)) := by
    rw [Bool.eq_iff_iff]
    simp only [Bool.and_eq_true, decide_eq_true_eq]
    exact ⟨fun h => by subst h; exact ⟨rfl, rfl⟩, fun h => Id.same h.1 h.2⟩
  rw [he, run_neq_struct, show (10000 : Nat) = 9999 + 1 from rfl, run_equalIn_agg w 9999 33 _ _ hS hp]
  simp only [Program.fieldsOf, Try.underlying33]
  go_simp
  by_cases h1 : x.f = y.f <;> by_cases h2 : x.s = y.s <;> simp [h1, h2] <;> omega

theorem guardId : Try.prog.eqGuardType Try.prog.depth 33 = false := by kernel_rfl

theorem Lies.kept {w w' : World} {B : Nat} {A : Option Addr} {xs : List Value} {row : Option Nat} (h : Lies w B A xs) (hg : w.grownBy w' row) (hB : B ≤ w.heap.size) (hne : ∀ a, A = some a → some a.block ≠ row) : Lies w' B A xs := fun hn => by
  obtain ⟨b, off, rfl, hlt, hc⟩ := h hn
  refine ⟨b, off, rfl, hlt, fun i u hu => ?_⟩
  rw [World.cell?_of_block (w := w) (hg.block b (by omega) (hne _ rfl))]
  exact hc i u hu

/-- A frame. -/
structure Fr where
  kind : Nat
  src : Nat
  dst : Nat
  id : Id
  seq : Nat
  at_ : Nat
  of_ : Nat
  size : Nat
  inst : Nat
  rnd : Nat
  est : List Rn
  aux : List Rn
  done : List Nat
  held : List Nat
  data : List UInt8

/-- Its cells: the five slices are given as they are. -/
def frCells (F : Fr) (ve vx vn vh vd : Value) : Array Value :=
  #[.int .u8 (F.kind : Int), .int .u8 (F.src : Int), .int .u8 (F.dst : Int), .int .u8 (F.id.f : Int), .int .u64 (F.id.s : Int), .int .u64 (F.seq : Int), .int .u32 (F.at_ : Int), .int .u32 (F.of_ : Int), .int .u32 (F.size : Int),
    .int .u64 (F.inst : Int), .int .u64 (F.rnd : Int), ve, vx, vn, vh, vd]

/-- Where a slice begins, and its room. -/
abbrev Hd := Option Addr × Nat

theorem own_only {w w' : World} {X : Nat → Prop} {base k : Nat} {e : TypeId} {v : Value} {n : Nat} {xs : List Value} (h : w.ownsRow base e k v n xs) (ho : OnlyE w w' X) (hX : ∀ b, v.ownBlock = some b → ¬ X b) : w'.ownsRow base e k v n xs := by
  refine ⟨h.1, ?_⟩
  rcases h.2 with hn | ⟨g, cap, cur, rfl, hbg, hg, rest⟩
  · exact .inl hn
  · exact .inr ⟨g, cap, cur, rfl, hbg, (ho.same g (Array.getElem?_eq_some_iff.1 hg).1 (hX g rfl)).trans hg, rest⟩

theorem own_one {w : World} {base k : Nat} {e : TypeId} {v : Value} {n : Nat} {xs : List Value} (h : w.ownsRow base e k v n xs) : v.oneCell' = true := by
  obtain ⟨A, c, rfl, _⟩ := own_sliceK h
  rfl

theorem drewB (W : World) : RowKit.Below W.heap.size W W.drew := (RowKit.Below.refl _ _).drew

section
variable {P : Program} {ops : Array Oper} {Q : Exit → Act → World → Prop} {md : Region.Mode} {S : World → Prop} {z : Nat}

/-- Whatever order is picked from here on, and S holds behind every operation that is carried out, but behind number z. -/
def wpAnyZ (P : Program) (md : Region.Mode) (ops : Array Oper) (Q : Exit → Act → World → Prop) (S : World → Prop) (z : Nat) : Nat → Array Bool → Act → World → Prop
  | 0, listed, a, w => Region.ready md ops listed = [] ∧ Q .normal a w
  | fuel + 1, listed, a, w =>
    (Region.ready md ops listed = [] → Q .normal a w) ∧
    ∀ i ∈ Region.ready md ops listed, wpOp P ops Q i (fun a' w' => (i ≠ z → S w') ∧ wpAnyZ P md ops Q S z fuel (listed.setIfInBounds i true) a' w') a w

theorem wpAny_of_Z : ∀ (fuel : Nat) (listed : Array Bool) (a : Act) (w : World), wpAnyZ P md ops Q S z fuel listed a w → wpAny P md ops Q fuel listed a w
  | 0, _, _, _, h => h
  | fuel + 1, _, _, _, h => ⟨h.1, fun i hi => wpOp_mono (fun a' w' h' => wpAny_of_Z fuel _ a' w' h'.2) (h.2 i hi)⟩

theorem wpAnyZ_first {i : Nat} {oi : Oper} {v : Value} (hi : ops[i]? = some oi) (hsel : ∀ (j : Nat) (o : Oper) cs b, ops[j]? = some o → o.op ≠ .select cs b)
    (hz : ∀ oz, ops[z]? = some oz → ∃ e ∈ oz.after, Region.binds md e = true ∧ e.on = i) (hQ : ∀ c a w, Q (.panic c) (a.put oi.dst v) w → Q (.panic c) a w) :
    ∀ (fuel : Nat) (listed : Array Bool) (a : Act) (w : World),
      (∀ j oj, ops[j]? = some oj → j ≠ i → listed.getD j true = false → (∀ e ∈ oj.after, Region.binds md e = true → e.on ≠ i) → oi.apart ops oj = true) →
      i ∈ Region.ready md ops listed → YieldsIf P ops S oi v a → S w →
      wpAnyZ P md ops Q S z fuel (listed.setIfInBounds i true) (a.put oi.dst v) w → wpAnyZ P md ops Q S z (fuel + 1) listed a w := by
  intro fuel
  induction fuel with
  | zero =>
    intro listed a w _ hr hy hS H
    refine ⟨fun h => (by rw [h] at hr; cases hr), fun j hj => ?_⟩
    by_cases hji : j = i
    · subst hji; exact hy.wpOp hi hS ⟨fun _ => hS, H⟩
    · have := ready_mono hj hji
      rw [H.1] at this
      cases this
  | succ fuel ih =>
    intro listed a w hfree hr hy hS H
    refine ⟨fun h => (by rw [h] at hr; cases hr), fun j hj => ?_⟩
    by_cases hji : j = i
    · subst hji; exact hy.wpOp hi hS ⟨fun _ => hS, H⟩
    · have h1 := H.2 j (ready_mono hj hji)
      obtain ⟨hjun, oj, hoj, hall⟩ := mem_ready.1 hj
      have hnot : ∀ e ∈ oj.after, Region.binds md e = true → e.on ≠ i := fun e he hb heq => by
        have h1 := hall e he hb
        have h0 := (mem_ready.1 hr).1
        rw [heq] at h1
        rcases Nat.lt_or_ge i listed.size with h' | h'
        · simp [h'] at h0 h1; rw [h0] at h1; cases h1
        · simp [Array.getElem?_eq_none h'] at h1
      have hjz : j ≠ z := fun e => by
        subst e
        obtain ⟨ed, he1, he2, he3⟩ := hz oj hoj
        exact hnot ed he1 he2 he3
      have h2 := wpOp_putIf hoj (hfree j oj hoj hji hjun hnot) (fun cs b => hsel i oi cs b hi) (fun cs b => hsel j oj cs b hoj) hQ hy h1
      have hfree' : ∀ k ok, ops[k]? = some ok → k ≠ i → (listed.setIfInBounds j true).getD k true = false →
          (∀ e ∈ ok.after, Region.binds md e = true → e.on ≠ i) → oi.apart ops ok = true := fun k ok hk hki hun hno => by
        refine hfree k ok hk hki ?_ hno
        by_cases hjk : j = k
        · subst hjk; exact hjun
        · rw [getD_set_ne true hjk] at hun; exact hun
      refine wpOp_mono (fun a' w' h3 => ⟨fun _ => h3.2.1 hjz, ih (listed.setIfInBounds j true) a' w' hfree' (ready_mono hr (Ne.symm hji)) h3.1 (h3.2.1 hjz) ?_⟩) h2
      rw [Array.setIfInBounds_comm _ _ hji]
      exact h3.2.2

/-- Number z waits for number i. -/
def waitsB (md : Region.Mode) (ops : Array Oper) (z i : Nat) : Bool := match ops[z]? with
  | some o => o.after.any fun e => Region.binds md e && e.on == i
  | none => true

theorem waitsB_spec {i : Nat} (h : waitsB md ops z i = true) : ∀ oz, ops[z]? = some oz → ∃ e ∈ oz.after, Region.binds md e = true ∧ e.on = i := fun oz ho => by
  unfold waitsB at h
  rw [ho] at h
  simp only [Array.any_eq_true, Bool.and_eq_true, beq_iff_eq] at h
  obtain ⟨j, hj, h1, h2⟩ := h
  exact ⟨_, Array.getElem_mem hj, h1, h2⟩

theorem wpZ_take {i d : Nat} {oi : Oper} {v : Value} {fuel : Nat} {listed : Array Bool} {a : Act} {w : World} (hi : ops[i]? = some oi) (hd : oi.dst = some d)
    (hs : Region.noSelect ops = true) (hf : Region.free md ops listed i = true) (hr : (Region.ready md ops listed).contains i = true) (hz : waitsB md ops z i = true)
    (hQ : ∀ c a w, Q (.panic c) (a.put (some d) v) w → Q (.panic c) a w) (hy : YieldsIf P ops S oi v a) (hS : S w)
    (h : wpAnyZ P md ops Q S z fuel (listed.setIfInBounds i true) ⟨a.tmps.setIfInBounds d v, a.defers⟩ w) : wpAnyZ P md ops Q S z (fuel + 1) listed a w :=
  wpAnyZ_first hi (Region.noSelect_spec hs) (waitsB_spec hz) (by rw [hd]; exact hQ) fuel listed a w (Region.free_spec hi hf) (by simpa using hr) hy hS (by rw [hd]; exact h)

def AllReadyZ (P : Program) (md : Region.Mode) (ops : Array Oper) (Q : Exit → Act → World → Prop) (S : World → Prop) (z : Nat) (fuel : Nat) (listed : Array Bool) (a : Act) (w : World) (rs : List Nat) : Prop :=
  ∀ i ∈ rs, wpOp P ops Q i (fun a' w' => (i ≠ z → S w') ∧ wpAnyZ P md ops Q S z fuel (listed.setIfInBounds i true) a' w') a w

theorem AllReadyZ.nil {fuel : Nat} {listed : Array Bool} {a : Act} {w : World} : AllReadyZ P md ops Q S z fuel listed a w [] := fun _ h => by cases h

theorem AllReadyZ.cons {fuel : Nat} {listed : Array Bool} {a : Act} {w : World} {i : Nat} {o : Oper} {rs : List Nat} (ho : ops[i]? = some o)
    (h : ∀ K' : Act → World → Prop, Shut (∀ a w, (i ≠ z → S w) → wpAnyZ P md ops Q S z fuel (listed.setIfInBounds i true) a w → K' a w) → if Region.wanted o (yielded ops a.tmps) = true then Oper.wp P o a w K' Q else K' (a.put o.dst undef) w)
    (hs : AllReadyZ P md ops Q S z fuel listed a w rs) : AllReadyZ P md ops Q S z fuel listed a w (i :: rs) := fun j hj => by
  rcases List.mem_cons.1 hj with rfl | hj
  · exact wpOp_step ho (fun K' hK => h K' (fun a w hS hW => hK a w ⟨hS, hW⟩))
  · exact hs j hj

theorem wpZ_ready {rs : List Nat} {fuel : Nat} {listed : Array Bool} {a : Act} {w : World} (hr : Region.ready md ops listed = rs) (hne : rs ≠ [])
    (h : AllReadyZ P md ops Q S z fuel listed a w rs) : wpAnyZ P md ops Q S z (fuel + 1) listed a w :=
  ⟨fun h0 => absurd (hr ▸ h0) hne, hr ▸ h⟩

theorem wpZ_done {listed : Array Bool} {a : Act} {w : World} (hr : Region.ready md ops listed = []) (h : Q .normal a w) :
    ∀ fuel, wpAnyZ P md ops Q S z fuel listed a w
  | 0 => ⟨hr, h⟩
  | _ + 1 => ⟨fun _ => h, by rw [hr]; simp⟩

theorem wp_region_Z (z : Nat) (S : World → Prop) {id : Nat} {a : Act} {w : World} (hm : P.follows .mixedOrders = true)
    (h : wpAnyZ P .any ops Q S z ops.size (Array.replicate ops.size false) a w.drew) : (Code.region id ops true).wp P Q a w :=
  wp_region_any hm (wpAny_of_Z _ _ _ _ h)

end

/-- A slice reads as these cells, in a block that is not among D (whatever its room is). -/
def LiesX (w : World) (D : Nat → Prop) (A : Option Addr) (xs : List Value) : Prop := xs ≠ [] → ∃ b off, A = some ⟨b, off, none⟩ ∧ b < w.heap.size ∧ ¬ D b ∧ ∀ i u, xs[i]? = some u → w.cell? ⟨b, off + i, none⟩ = some u

theorem LiesX.lies {w : World} {D : Nat → Prop} {A : Option Addr} {xs : List Value} (h : LiesX w D A xs) : Lies w w.heap.size A xs := fun hn => by
  obtain ⟨b, off, e, h1, _, h2⟩ := h hn
  exact ⟨b, off, e, h1, h2⟩

theorem LiesX.nil {w : World} {D : Nat → Prop} {A : Option Addr} : LiesX w D A [] := fun h => absurd rfl h

theorem LiesX.kept {w w' : World} {D : Nat → Prop} {A : Option Addr} {xs : List Value} (h : LiesX w D A xs) (ho : OnlyE w w' D) : LiesX w' D A xs := fun hn => by
  obtain ⟨b, off, e, h1, hd, h2⟩ := h hn
  refine ⟨b, off, e, Nat.lt_of_lt_of_le h1 ho.1, hd, fun i u hu => ?_⟩
  rw [World.cell?_of_block (w := w) (ho.2 b h1 hd)]
  exact h2 i u hu

theorem LiesX.widen {w : World} {D D' : Nat → Prop} {A : Option Addr} {xs : List Value} (h : LiesX w D A xs) (hD : ∀ k, D' k → w.heap.size ≤ k ∨ D k) : LiesX w D' A xs := fun hn => by
  obtain ⟨b, off, e, h1, hd, h2⟩ := h hn
  exact ⟨b, off, e, h1, fun hk => (hD b hk).elim (fun h => absurd h1 (Nat.not_lt.2 h)) hd, h2⟩

theorem LiesX.of_own {w : World} {D : Nat → Prop} {A : Option Addr} {xs : List Value} {base n c k : Nat} {e : TypeId} (h : w.ownsRow base e k (.slice A n c) n xs) (hD : ∀ k, D k → k < base) : LiesX w D A xs := fun hn => by
  obtain ⟨b, off, eA, h1, h2⟩ := Lies.of_ownK h hn
  refine ⟨b, off, eA, h1, fun hk => ?_, h2⟩
  have := (h.lt b (by rw [eA]; rfl)).1
  have := hD b hk
  omega

section
variable {H : Type} {enc : TypeId × Value → H} {w : World} {base : Nat} {spare : Nat → Bool} {held : Bool}

theorem flat_range {α : Type} [Inhabited α] {en : α → List Value} {k : Nat} (hk : ∀ x, (en x).length = k) (hk0 : 0 < k) {Y : Nat → α} {n t : Nat} {u : Value} (h : (flat en ((List.range n).map Y))[t]? = some u) : t / k < n ∧ (en (Y (t / k)))[t % k]? = some u := by
  have hlt := (List.getElem?_eq_some_iff.1 h).1
  rw [flat_length hk] at hlt
  simp only [List.length_map, List.length_range] at hlt
  have hi : t / k < n := Nat.div_lt_of_lt_mul (by rwa [Nat.mul_comm] at hlt)
  refine ⟨hi, ?_⟩
  have := flat_at hk ((List.range n).map Y) (t / k) (t % k) (Nat.mod_lt _ hk0) (by simpa using hi)
  rw [show t / k * k + t % k = t by rw [Nat.mul_comm]; exact Nat.div_add_mod t k, h] at this
  simpa using this.symm

end

/-- A frame, and where its five slices lie. -/
structure Pf where
  F : Fr
  p : Fin 5 → Hd

def Pf.cs (x : Pf) : Array Value := frCells x.F (.slice (x.p 0).1 x.F.est.length (x.p 0).2) (.slice (x.p 1).1 x.F.aux.length (x.p 1).2) (.slice (x.p 2).1 x.F.done.length (x.p 2).2) (.slice (x.p 3).1 x.F.held.length (x.p 3).2) (.slice (x.p 4).1 x.F.data.length (x.p 4).2)

def encPf (x : Pf) : List Value := x.cs.toList

theorem encPf_len (x : Pf) : (encPf x).length = 16 := rfl

theorem Pf.size (x : Pf) : x.cs.size = 16 := rfl

theorem own_heap {w : World} {base k : Nat} {e : TypeId} {v : Value} {n : Nat} {xs : List Value} (h : w.ownsRow base e k v n xs) {g : Nat} (hg : v.ownBlock = some g) : ∃ cur, w.heap[g]? = some (.cells cur e (0, 0)) := by
  rcases h.2 with ⟨h1, _⟩ | ⟨g', c, cur, h1, _, h2, _⟩
  · rw [h1] at hg; simp [Value.ownBlock] at hg
  · rw [h1] at hg
    simp only [Value.ownBlock, Option.some.injEq] at hg
    subst hg
    exact ⟨cur, h2⟩

/-- The cells of an element of a row of frames. -/
theorem row_at {w : World} {B : Nat} {A : Option Addr} {l : List Pf} (h : Lies w B A (flat encPf l)) {i : Nat} (hi : i < l.length) : ∃ b off, A = some ⟨b, off, none⟩ ∧ b < B ∧ w.rangeAt b (off + i * 16) (encPf l[i]) := by
  have hne : flat encPf l ≠ [] := by
    intro h0
    have := congrArg List.length h0
    rw [flat_length encPf_len] at this
    simp at this
    omega
  obtain ⟨b, off, e, hb, hc⟩ := h hne
  refine ⟨b, off, e, hb, fun j v hv => ?_⟩
  have hj : j < 16 := by
    have := (List.getElem?_eq_some_iff.1 hv).1
    rwa [encPf_len] at this
  have := flat_at encPf_len l i j hj hi
  rw [hv] at this
  have h2 := hc (i * 16 + j) v this
  rwa [← Nat.add_assoc] at h2

/-- append, where what it comes to is known. -/
theorem wpList_append_run {P : Program} {ops : Array Oper} {rest : List Oper} {o : Oper} {a : Act} {w w' : World} {v vx v' : Value} {Q : Exit → Act → World → Prop} (hgd : o.guard = none) (s x : Operand) (t : TypeId) (ho : o.op = .call { callee := .builtin .append, args := #[s, x], argTypes := #[t, t] })
    (hs : a.eval s = v) (hx : a.eval x = vx) (hrun : (Builtin.append_ #[t, t] o.type #[v, vx]).run P w = .ok v' w') (h : wpList P ops Q rest (a.put o.dst v') w') : wpList P ops Q (o :: rest) a w := by
  refine wpList_plain hgd fun K hK => ?_
  have hk := hK _ _ h
  unfold Oper.wp execOp
  simp only [ho, resolve, invoke, builtin, Sem.run_bind, Sem.run_pure, Result.andThen_ok, List.map_toArray, List.map_cons, List.map_nil, hs, hx, hrun]
  exact hk

/-- A list that was just built. -/
theorem LiesX.of_new {w : World} {D : Nat → Prop} (cs : Array Value) (t : TypeId) (hD : ¬ D w.heap.size) : LiesX (w.alloc (.cells cs t)) D (some ⟨w.heap.size, 0, none⟩) cs.toList := fun hn => by
  obtain ⟨b, off, e, hb, hc⟩ := lies_new w cs t hn
  injection e with e
  injection e with e1 e2
  subst e1 e2
  exact ⟨_, _, rfl, by simp, hD, hc⟩

theorem BytRows.nil {w : World} {B : Nat} : BytRows w B [] [] := ⟨rfl, fun _ h => absurd h (Nat.not_lt_zero _)⟩

def valId (x : Id) : Value := .agg #[.int .u8 (x.f : Int), .int .u64 (x.s : Int)]

section
variable {H : Type} {enc : TypeId × Value → H} {w : World} {base : Nat} {spare : Nat → Bool} {held : Bool}

theorem open_id {r : Reach} {b0 : Nat} {v : Value} {d : DataW H} {p : List MemPlace} (hv : Value.okWide Try.prog w r b0 33 v) (h : DataW.Trod enc Try.prog w base spare held 33 v d p) : ∃ x : Id, v = valId x := by
  obtain ⟨v0, v1, y0, y1, n, rfl, _, _, h0, h1⟩ := Joins.open_agg2 Try.underlying33 (by kernel_rfl) (by kernel_rfl) hv h
  obtain ⟨r0, e0, _, w0⟩ := DataW.trod_int Try.underlying5 h0
  obtain ⟨r1, e1, _, w1⟩ := DataW.trod_int Try.underlying31 h1
  injection e0 with e0
  injection e1 with e1
  subst e0 e1
  have b0 := bounds_u8 w0
  have b1 := bounds_u64 w1
  refine ⟨⟨r0.toNat, r1.toNat, by omega, by omega⟩, ?_⟩
  simp only [valId]
  rw [Int.toNat_of_nonneg b0.1, Int.toNat_of_nonneg b1.1]

end

/-- Kinds as cells. -/
def kv (k : Nat) : Value := .int .u8 (k : Int)

def kvs (l : List Nat) : List Value := l.map kv

def mayB (x : Id) : Bool := decide (x.f < 64) && decide (1 ≤ x.s) && decide (x.s ≤ 4611686018427387904)

theorem may_any (x : Id) (n : Int) (W : World) (hn : -9223372036854775808 ≤ n ∧ n ≤ 9223372036854775807) : Calls Try.prog 41 #[valId x, .int .i64 n] W fun e w' => e = .returned (.bool (decide ((x.f : Int) < n) && mayB x)) ∧ Grew W w' := by
  unfold valId mayB
  have h1 := x.hf
  have h2 := x.hs
  generalize x.f = f at h1 ⊢
  generalize x.s = s at h2 ⊢
  go_enter Try.func41, Try.ntmps41
  go_wp2
  all_goals
    go_ret
    refine ⟨ret_bool ?_, (Grew.refl W).alloc _⟩
    rw [Bool.eq_iff_iff]
    simp only [Bool.and_eq_true, decide_eq_true_eq, Bool.false_eq_true]
    first | omega | (rw [false_iff]; omega)

/-- The first place at which p holds, or -1. -/
def FirstAt {α : Type} (p : α → Bool) (l : List α) (r : Int) : Prop :=
  (r = -1 ∧ ∀ x ∈ l, p x = false) ∨ ∃ k, ∃ hk : k < l.length, r = (k : Int) ∧ p l[k] = true ∧ ∀ x ∈ l.take k, p x = false

theorem FirstAt.found {α : Type} {p : α → Bool} {l : List α} {r : Int} (h : FirstAt p l r) : decide (0 ≤ r) = l.any p := by
  rcases h with ⟨rfl, h⟩ | ⟨k, hk, rfl, h1, _⟩
  · have : l.any p = false := by rw [List.any_eq_false]; intro x hx; rw [h x hx]; simp
    rw [this]; rfl
  · have : l.any p = true := by rw [List.any_eq_true]; exact ⟨_, List.getElem_mem hk, h1⟩
    rw [this]; simp

theorem refMay_any (x : Id) (n : Int) (W : World) (_ : -9223372036854775808 ≤ n ∧ n ≤ 9223372036854775807) : Calls Try.prog 23 #[valId x, .int .i64 n] W fun e w' => e = .returned (.bool (decide ((x.f : Int) < n) && mayB x)) ∧ Grew W w' := by
  unfold valId mayB
  have h1 := x.hf
  have h2 := x.hs
  generalize x.f = f at h1 ⊢
  generalize x.s = s at h2 ⊢
  go_enter Try.func23, Try.ntmps23
  go_wp2
  all_goals
    go_ret
    refine ⟨ret_bool ?_, (Grew.refl W).alloc _⟩
    rw [Bool.eq_iff_iff]
    simp only [Bool.and_eq_true, decide_eq_true_eq, Bool.false_eq_true]
    first | omega | (rw [false_iff]; omega)

section
variable {H : Type} {enc : TypeId × Value → H} {w : World} {base : Nat} {spare : Nat → Bool} {held : Bool}

theorem open_ids {fuel : Nat} {v : Value} {x : DataW H × List MemPlace} (h : DataW.trod enc Try.prog w base spare held fuel 46 [v] = some x) :
    ∃ A n c, ∃ l : List Id, v = .slice A n c ∧ l.length = n ∧ n ≤ c ∧ c ≤ maxLen ∧ Lies w w.heap.size A (flat encId l) := by
  rcases Deep.open_slice Try.underlying46 h with ⟨hcs, _⟩ | ⟨a, len, cap, m, n, D, Pl, hcs, _, hl, hm, hmm, _, hx⟩
  · injection hcs with hcs
    subst hcs
    exact ⟨none, 0, 0, [], rfl, rfl, Nat.le_refl _, Nat.zero_le _, Lies.nil⟩
  · injection hcs with hcs
    subst hcs
    have hlm : len ≤ m := by rw [hmm]; split <;> omega
    have hc2 : Try.prog.cellsOf 33 = 2 := by kernel_rfl
    have hcb : Try.prog.cellsOf 5 = 1 := by kernel_rfl
    have hcu : Try.prog.cellsOf 31 = 1 := by kernel_rfl
    have key : ∀ i, i < len → ∃ y : Id, w.cell? (a.add (i * 2)) = some (.int .u8 (y.f : Int)) ∧ w.cell? ((a.add (i * 2)).add 1) = some (.int .u64 (y.s : Int)) := by
      intro i hi
      obtain ⟨cs', h1, h2⟩ := hx i (by omega)
      rw [hc2] at h1
      obtain ⟨_, hlen, hcell⟩ := World.cells?_some h1
      obtain ⟨y0, y1, n', _, _, t0, t1⟩ := trod_struct2 Try.underlying33 h2
      match cs', hlen with
      | [c0, c1], _ =>
        simp only [hcb, hcu] at t0 t1
        obtain ⟨r0, e0, _, w0⟩ := DataW.trod_int Try.underlying5 t0
        obtain ⟨r1, e1, _, w1⟩ := DataW.trod_int Try.underlying31 t1
        simp at e0 e1
        subst e0 e1
        have b0 := bounds_u8 w0
        have b1 := bounds_u64 w1
        refine ⟨⟨r0.toNat, r1.toNat, by omega, by omega⟩, ?_, ?_⟩
        · have := hcell 0 (by omega)
          rw [Int.toNat_of_nonneg b0.1]
          simpa [Addr.add] using this
        · have := hcell 1 (by omega)
          rw [Int.toNat_of_nonneg b1.1]
          simpa using this
    obtain ⟨Y, hY⟩ := Deep.choose_lt (α := Id) (n := len) key
    refine ⟨some a, len, cap, (List.range len).map Y, rfl, by simp, hl, hm, fun hn => ?_⟩
    have hp : 0 < len := by
      rcases Nat.eq_zero_or_pos len with h0 | h0
      · subst h0; simp [flat] at hn
      · exact h0
    have h0 := (hY 0 hp).1
    obtain ⟨b, off, spot⟩ := a
    have hspot : spot = none := by simpa [Addr.add] using World.cell?_spot h0
    subst hspot
    refine ⟨b, off, rfl, ?_, fun t u hu => ?_⟩
    · have := World.block_lt_of_cell? w _ h0
      rwa [Go.Proofs.Ytnpdjlcekmpmoaa.add_plain] at this
    · obtain ⟨hi, hu'⟩ := flat_range encId_len (by decide) hu
      obtain ⟨k0, k1⟩ := hY _ hi
      simp only [Go.Proofs.Ytnpdjlcekmpmoaa.add_plain] at k0 k1
      have ht : t / 2 * 2 + t % 2 = t := by omega
      have h2 : t % 2 < 2 := Nat.mod_lt _ (by decide)
      generalize t / 2 = i at *
      generalize t % 2 = j at *
      match j, h2 with
      | 0, _ => simp [encId] at hu'; rw [← ht, ← hu', Nat.add_zero]; exact k0
      | 1, _ => simp [encId] at hu'; rw [← ht, ← hu', ← Nat.add_assoc]; exact k1

end

end Go.Proofs.Ytnpdjlcekmpmoaa
