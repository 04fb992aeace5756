/- Stage 13: how it stands inside of the document's Put; the part beside its box; the ends; a part that begins (the door seat alone). -/
import Derived.Test.YthkongnjokmmfaaDoorGdI
import Derived.Test.YthkongnjokmmfaaDoorGtC
import Derived.Test.YthkongnjokmmfaaDoorGtG
import Derived.Test.YthkongnjokmmfaaDoorGtF

set_option maxRecDepth 20000
namespace Go.Proofs.YthkongnjokmmfaaDoor
open Go.RowKit Go.Sort

theorem results_cell_tmp2 {fn : Func} {p q r : Tmp} {ty : TypeId} (h : fn.results = #[.cell p ty, .tmp q, .tmp r]) (tmps : Array Value) (w : World) (g : Nat) (cs : Array Value)
    (hp : tmps.getD p undef = .pointer (some ⟨g, 0, none⟩)) (hl : (loadVar ty ⟨g, 0, none⟩).run Tryd.prog w = .ok (.agg cs) w) :
    (results fn tmps).run Tryd.prog w = .ok (.tuple #[.agg cs, tmps.getD q undef, tmps.getD r undef]) w := by
  have hp' : tmps[p]?.getD undef = .pointer (some ⟨g, 0, none⟩) := by simpa using hp
  simp [results, h, hp', asAddr, hl]

/-- What Put answers. -/
def PutQ (w : World) (D : Nat → Prop) (m' : Gm) (d : List UInt8) (made : Nat) (e : Ending) (w' : World) : Prop :=
  ∃ A' n' c' R', e = .returned (.tuple #[.agg (rgCells (.slice A' n' c') m'), .string (str d), .int .u8 (made : Int)]) ∧ RgAt w' D A' n' c' R' m' ∧ RowKit.Below w.heap.size w w'

def PuD (D : Nat → Prop) (b : Nat) : Nat → Prop := fun k => D k ∨ k = b ∨ k = b + 1 ∨ k = b + 1 + 1
/-- The boxes of the gatherer, of the frame, of the result; the rows. -/
structure PuS (w : World) (D : Nat → Prop) (fc : Array Value) (A : Option Addr) (n c : Nat) (R : List Rp) (m : Gm) (W : World) : Prop where
  below : RowKit.Below w.heap.size w W
  g : W.heap[w.heap.size]? = some (.cells (rgCells (.slice A n c) m) 32 (0, 0))
  f : W.heap[w.heap.size + 1]? = some (.cells fc 41 (0, 0))
  r : W.heap[w.heap.size + 1 + 1]? = some (.cells rgZero 32 (0, 0))
  at_ : RgAt W (PuD D w.heap.size) A n c R m
section
variable {w W W' : World} {D : Nat → Prop} {fc : Array Value} {A : Option Addr} {n c : Nat} {R : List Rp} {m : Gm}
theorem PuS.size (h : PuS w D fc A n c R m W) : w.heap.size + 2 < W.heap.size := (Array.getElem?_eq_some_iff.1 h.r).1
theorem PuS.on (h : PuS w D fc A n c R m W) (hb : RowKit.Below W.heap.size W W') : PuS w D fc A n c R m W' := by
  have hs := h.size
  exact ⟨h.below.trans (hb.mono (by omega)), (hb.block _ (by omega)).trans h.g, (hb.block _ (by omega)).trans h.f, (hb.block _ (by omega)).trans h.r, h.at_.on hb⟩
theorem PuS.start (h : RgAt w D A n c R m) (fc : Array Value) {W : World} (hW : W = ((w.alloc (.cells (rgCells (.slice A n c) m) 32)).alloc (.cells fc 41)).alloc (.cells rgZero 32)) : PuS w D fc A n c R m W := by
  obtain ⟨V, hV⟩ : ∃ V, V = (w.alloc (.cells (rgCells (.slice A n c) m) 32)).alloc (.cells fc 41) := ⟨_, rfl⟩
  have hVs : V.heap.size = w.heap.size + 2 := by rw [hV]; simp
  have hb1 : RowKit.Below w.heap.size w V := by rw [hV]; exact ((RowKit.Below.refl _ _).alloc (Nat.le_refl _) _).alloc (by simp) _
  have hb2 : RowKit.Below V.heap.size V W := by rw [hW, ← hV]; exact (RowKit.Below.refl _ _).alloc (Nat.le_refl _) _
  have hb := hb1.trans (hb2.mono (by omega))
  refine ⟨hb, (hb2.block _ (by omega)).trans (by rw [hV]; exact alloc2_old w _ _ _), (hb2.block _ (by omega)).trans (by rw [hV]; exact alloc2_new w _ _), ?_, (h.widen fun k hk => ?_).on hb⟩
  · rw [hW, ← hV, ← show V.heap.size = w.heap.size + 1 + 1 by omega]
    exact heap_alloc_new V (.cells _ _ (0, 0))
  · rcases hk with hk | rfl | rfl | rfl
    · exact .inr hk
    all_goals exact .inl (by omega)
theorem PuS.gc (h : PuS w D fc A n c R m W) (i : Nat) (u : Value) (hu : (rgCells (.slice A n c) m)[i]? = some u) : W.cell? ⟨w.heap.size, i, none⟩ = some u := (cell_of_row W w.heap.size i _ _ _ h.g).trans hu
theorem PuS.gf (h : PuS w D fc A n c R m W) (i : Nat) : W.frozen? ⟨w.heap.size, i, none⟩ = false := frozen_of_row W w.heap.size i _ _ h.g
theorem PuS.fcell (h : PuS w D fc A n c R m W) (i : Nat) (u : Value) (hu : fc[i]? = some u) : W.cell? ⟨w.heap.size + 1, i, none⟩ = some u := (cell_of_row W (w.heap.size + 1) i _ _ _ h.f).trans hu
/-- A cell of the gatherer's box is written. -/
theorem PuS.set (h : PuS w D fc A n c R m W) (i : Nat) (u : Value) {A' : Option Addr} {n' c' : Nat} {R' : List Rp} {m' : Gm} (he : (rgCells (.slice A n c) m).setIfInBounds i u = rgCells (.slice A' n' c') m') (ha : RgAt W (PuD D w.heap.size) A' n' c' R' m') : PuS w D fc A' n' c' R' m' (W.setCell ⟨w.heap.size, i, none⟩ u) := by
  have hs := h.size
  have hO : OnlyE W (W.setCell ⟨w.heap.size, i, none⟩ u) (fun k => k = w.heap.size) := onlyE_set (D := fun k => k = w.heap.size) rfl i _
  refine ⟨h.below.trans (hO.below (fun k hk => by omega) (by omega)), ?_, (hO.same _ (by omega) (by omega)).trans h.f, (hO.same _ (by omega) (by omega)).trans h.r, ha.kept (hO.mono fun k hk => .inr (.inl hk))⟩
  rw [← he]
  exact heap_setCell_same W w.heap.size i _ _ _ h.g
theorem rg_counts {l : List Nat} (h6 : l.length = 6) : ∃ a b c d e f, l = [a, b, c, d, e, f] := by
  match l, h6 with
  | [a, b, c, d, e, f], _ => exact ⟨a, b, c, d, e, f, rfl⟩
theorem rg_bump (v : Value) (m : Gm) (k : Nat) (hk : k < 6) (h6 : m.counts.length = 6) : (rgCells v m).setIfInBounds (6 + k) (.int .i64 ((m.counts.getD k 0 + 1 : Nat) : Int)) = rgCells v { m with counts := bump m.counts k 1 } := by
  obtain ⟨a, b, c, d, e, f, he⟩ := rg_counts h6
  unfold rgCells bump
  rw [he]
  match k, hk with
  | 0, _ => rfl
  | 1, _ => rfl
  | 2, _ => rfl
  | 3, _ => rfl
  | 4, _ => rfl
  | 5, _ => rfl
theorem RgAt.counted (h : RgAt W D A n c R m) (cn : List Nat) : RgAt W D A n c R { m with counts := cn } := ⟨h.len, h.nc, h.cm, h.lies, h.has, h.cut, h.ml⟩
theorem PuS.bump (h : PuS w D fc A n c R m W) (k : Nat) (hk : k < 6) (h6 : m.counts.length = 6) : PuS w D fc A n c R { m with counts := bump m.counts k 1 } (W.setCell ⟨w.heap.size, 6 + k, none⟩ (.int .i64 ((m.counts.getD k 0 + 1 : Nat) : Int))) :=
  h.set _ _ (rg_bump _ m k hk h6) (h.at_.counted _)
/-- The end: the gatherer is stored into the result's box. -/
theorem PuS.done (h : PuS w D fc A n c R m W) : RgAt (W.setRow (w.heap.size + 1 + 1) (rgCells (.slice A n c) m)) D A n c R m ∧ RowKit.Below w.heap.size w (W.setRow (w.heap.size + 1 + 1) (rgCells (.slice A n c) m)) ∧
    (W.setRow (w.heap.size + 1 + 1) (rgCells (.slice A n c) m)).heap[w.heap.size + 1 + 1]? = some (.cells (rgCells (.slice A n c) m) 32 (0, 0)) := by
  have hs := h.size
  have hO : OnlyE W (W.setRow (w.heap.size + 1 + 1) (rgCells (.slice A n c) m)) (fun k => k = w.heap.size + 1 + 1) := OnlyE.of_grown (grown_setRow _ _ _) rfl
  refine ⟨(h.at_.kept (hO.mono fun k hk => .inr (.inr (.inr hk)))).widen fun k hk => .inr (.inl hk), h.below.trans (hO.below (fun k hk => by omega) (by omega)), setRow_heap _ _ _ _ _ (0, 0) h.r⟩

/-- What a return wants, the gatherer's cells as a variable. -/
structure Dn (w : World) (D : Nat → Prop) (m : Gm) (cs : Array Value) (W : World) : Prop where
  size : cs.size = 12
  one : cs.all (·.oneCell') = true
  g : W.heap[w.heap.size]? = some (.cells cs 32 (0, 0))
  r : W.heap[w.heap.size + 1 + 1]? = some (.cells rgZero 32 (0, 0))
  row : (W.setRow (w.heap.size + 1 + 1) cs).heap[w.heap.size + 1 + 1]? = some (.cells cs 32 (0, 0))
  q : ∀ (d : List UInt8) (made : Nat), PutQ w D m d made (.returned (.tuple #[.agg cs, .string (str d), .int .u8 (made : Int)])) (W.setRow (w.heap.size + 1 + 1) cs)
theorem PuS.dn (h : PuS w D fc A n c R m W) : ∃ cs, Dn w D m cs W :=
  ⟨rgCells (.slice A n c) m, rg_size _ _, rg_one _ _ _ _, h.g, h.r, h.done.2.2, fun _ _ => ⟨A, n, c, R, rfl, h.done.1, h.done.2.1⟩⟩
/-- Used, in a region that draws: the gatherer is loaded whole out of its box. -/
theorem PuS.whole (h : PuS w D fc A n c R m W) (hu : usedL m.l ≤ 9223372036854775807) : ∃ q0 q1 q2 q3 q4 q5 : Int,
    (∀ p : Later W, p.w.cell? ⟨w.heap.size, 0, none⟩ = some (.int .i64 (m.chunk : Int))) ∧ (∀ p : Later W, p.w.cell? ⟨w.heap.size, 1, none⟩ = some (.int .i64 (m.most : Int))) ∧ (∀ p : Later W, p.w.cell? ⟨w.heap.size, 2, none⟩ = some (.int .i64 (m.room : Int))) ∧
    (∀ p : Later W, p.w.cell? ⟨w.heap.size, 3, none⟩ = some (.slice A n c)) ∧ (∀ p : Later W, p.w.cell? ⟨w.heap.size, 4, none⟩ = some (.int .u8 (m.wanted.f : Int))) ∧ (∀ p : Later W, p.w.cell? ⟨w.heap.size, 5, none⟩ = some (.int .u64 (m.wanted.s : Int))) ∧
    (∀ p : Later W, p.w.cell? ⟨w.heap.size, 6, none⟩ = some (.int .i64 q0)) ∧ (∀ p : Later W, p.w.cell? ⟨w.heap.size, 7, none⟩ = some (.int .i64 q1)) ∧ (∀ p : Later W, p.w.cell? ⟨w.heap.size, 8, none⟩ = some (.int .i64 q2)) ∧
    (∀ p : Later W, p.w.cell? ⟨w.heap.size, 9, none⟩ = some (.int .i64 q3)) ∧ (∀ p : Later W, p.w.cell? ⟨w.heap.size, 10, none⟩ = some (.int .i64 q4)) ∧ (∀ p : Later W, p.w.cell? ⟨w.heap.size, 11, none⟩ = some (.int .i64 q5)) ∧
    (∀ p : Later W, Calls Tryd.prog 15 #[.agg #[.int .i64 (m.chunk : Int), .int .i64 (m.most : Int), .int .i64 (m.room : Int), .slice A n c, .int .u8 (m.wanted.f : Int), .int .u64 (m.wanted.s : Int), .int .i64 q0, .int .i64 q1, .int .i64 q2, .int .i64 q3, .int .i64 q4, .int .i64 q5]] p.w
      fun e w' => e = .returned (.int .i64 (usedL m.l : Int)) ∧ ∃ q : Later W, w' = q.w) := by
  have hs := h.size
  have hlt : w.heap.size < W.heap.size := by omega
  exact ⟨_, _, _, _, _, _, later_cell hlt (h.gc 0 _ rfl), later_cell hlt (h.gc 1 _ rfl), later_cell hlt (h.gc 2 _ rfl), later_cell hlt (h.gc 3 _ rfl), later_cell hlt (h.gc 4 _ rfl), later_cell hlt (h.gc 5 _ rfl),
    later_cell hlt (h.gc 6 _ rfl), later_cell hlt (h.gc 7 _ rfl), later_cell hlt (h.gc 8 _ rfl), later_cell hlt (h.gc 9 _ rfl), later_cell hlt (h.gc 10 _ rfl), later_cell hlt (h.gc 11 _ rfl), fun p => later_of (refUsed_any ((h.on p.hb).at_) hu)⟩
theorem PuS.fl (h : PuS w D fc A n c R m W) (i : Nat) (u : Value) (hu : fc[i]? = some u) : ∀ p : Later W, p.w.cell? ⟨w.heap.size + 1, i, none⟩ = some u :=
  later_cell (by have := h.size; omega) (h.fcell i u hu)
end

end Go.Proofs.YthkongnjokmmfaaDoor

set_option maxRecDepth 20000
namespace Go.Proofs.YthkongnjokmmfaaDoor
open Go.RowKit Go.Sort

theorem Tryd.infoBv : (Tryd.prog.info? 4).map (fun i => (i.zero, i.size, i.bytes)) = some (some (.bool false), 1, 1) := by kernel_rfl
theorem Tryd.infoSv : (Tryd.prog.info? 9).map (fun i => (i.zero, i.size, i.bytes)) = some (some (.string { data := #[] }), 1, 16) := by kernel_rfl
theorem Tryd.infoP5 : (Tryd.prog.info? 71).map (·.size) = some 5 := by kernel_rfl
theorem bvl_one (l : List Bool) : ∀ u ∈ bvl l, u.oneCell' = true := by
  intro u hu
  obtain ⟨b, -, rfl⟩ := List.mem_map.1 hu
  rfl
theorem svl_one (l : List (List UInt8)) : ∀ u ∈ svl l, u.oneCell' = true := by
  intro u hu
  obtain ⟨b, -, rfl⟩ := List.mem_map.1 hu
  rfl
theorem bvl_len (l : List Bool) : (bvl l).length = l.length := List.length_map _
theorem svl_len (l : List (List UInt8)) : (svl l).length = l.length := List.length_map _
theorem bvl_set (l : List Bool) (a : Nat) (b : Bool) : (bvl l).set a (.bool b) = bvl (l.set a b) := by
  unfold bvl
  rw [List.map_set]
theorem svl_set (l : List (List UInt8)) (a : Nat) (b : List UInt8) : (svl l).set a (.string (str b)) = svl (l.set a b) := by
  unfold svl
  rw [List.map_set]

theorem app_b {W : World} {base n B m c : Nat} {v : Value} {xs : List Value} {A : Option Addr} {ys : List Bool} (hown : W.ownsRow base 4 1 v n xs) (hl : ys.length = m) (hL : Lies W B A (bvl ys)) (hb : base ≤ W.heap.size) (hn : n + m ≤ 10000000) :
    ∃ A' c' W', (Builtin.append_ #[68, 68] 68 #[v, .slice A m c]).run Tryd.prog W = .ok (.slice A' (n + m) c') W' ∧ W'.ownsRow base 4 1 (.slice A' (n + m) c') (n + m) (xs ++ bvl ys) ∧
      W.grownBy W' v.ownBlock ∧ ((Value.slice A' (n + m) c').ownBlock = v.ownBlock ∨ (Value.slice A' (n + m) c').ownBlock = some W.heap.size) := by
  obtain ⟨i0, hi, hz0, hz1, hz2⟩ := info_parts Tryd.infoBv
  obtain ⟨v', W', hrun, ho, hg, hk⟩ := run_append_lstK (P := Tryd.prog) base 1 (by decide) 68 68 4 i0 (.bool false) 1 Tryd.underlying68 hi hz0 hz1 hz2 rfl v n xs hown B A m c (bvl ys)
    (by rw [bvl_len, hl]; omega) hL (bvl_one _) (by unfold maxLen; omega) (by omega) hb
  obtain ⟨A', c', rfl, h1, h2⟩ := own_sliceK ho
  exact ⟨A', c', W', hrun, ho, hg, hk⟩
theorem app_s {W : World} {base n B m c : Nat} {v : Value} {xs : List Value} {A : Option Addr} {ys : List (List UInt8)} (hown : W.ownsRow base 9 1 v n xs) (hl : ys.length = m) (hL : Lies W B A (svl ys)) (hb : base ≤ W.heap.size) (hn : n + m ≤ 10000000) :
    ∃ A' c' W', (Builtin.append_ #[69, 69] 69 #[v, .slice A m c]).run Tryd.prog W = .ok (.slice A' (n + m) c') W' ∧ W'.ownsRow base 9 1 (.slice A' (n + m) c') (n + m) (xs ++ svl ys) ∧
      W.grownBy W' v.ownBlock ∧ ((Value.slice A' (n + m) c').ownBlock = v.ownBlock ∨ (Value.slice A' (n + m) c').ownBlock = some W.heap.size) := by
  obtain ⟨i0, hi, hz0, hz1, hz2⟩ := info_parts Tryd.infoSv
  obtain ⟨v', W', hrun, ho, hg, hk⟩ := run_append_lstK (P := Tryd.prog) base 1 (by decide) 69 69 9 i0 (.string { data := #[] }) 16 Tryd.underlying69 hi hz0 hz1 hz2 rfl v n xs hown B A m c (svl ys)
    (by rw [svl_len, hl]; omega) hL (svl_one _) (by unfold maxLen; omega) (by omega) hb
  obtain ⟨A', c', rfl, h1, h2⟩ := own_sliceK ho
  exact ⟨A', c', W', hrun, ho, hg, hk⟩

section
variable {ops : Array Oper} {rest : List Oper} {dst : Option Tmp} {ty : TypeId} {pos : String} {aft : Array Edge} {a : Act} {w : World} {Q : Exit → Act → World → Prop} {cs : Array Value}
theorem infoP {cs : Array Value} (h : cs.size = 5) : (Tryd.prog.info? 71).map (·.size) = some cs.size := by
  rw [h]; exact Tryd.infoP5
/-- A part of a row of parts is loaded whole. -/
theorem load_Pm (y : Operand) {b o : Nat} {z : Rp} (hx : a.eval y = .pointer (some ⟨b, o, none⟩)) (hc : w.rangeAt b o (encRp z))
    (h : wpList Tryd.prog ops Q rest (a.put dst (.agg (encRp z).toArray)) w) : wpList Tryd.prog ops Q (⟨dst, .load 71 y, ty, pos, aft, none⟩ :: rest) a w :=
  wpList_load_mid rfl _ y rfl b o hx (encRp z) _ hc Tryd.underlying71 rfl (Tryd.infoP5.trans (by rw [encRp_len])) h
theorem load_Pc (y : Operand) {b o : Nat} {z : Rp} (hx : a.eval y = .pointer (some ⟨b, o, none⟩)) (hc : w.rangeAt b o (encRp z)) (hz : (encRp z).toArray = cs)
    (h : wpList Tryd.prog ops Q rest (a.put dst (.agg cs)) w) : wpList Tryd.prog ops Q (⟨dst, .load 71 y, ty, pos, aft, none⟩ :: rest) a w :=
  load_Pm y hx hc (hz ▸ h)
theorem load_P (x : Operand) {g : Nat} (hx : a.eval x = .pointer (some ⟨g, 0, none⟩)) (hg : w.heap[g]? = some (.cells cs 71 (0, 0))) (hs : cs.size = 5)
    (h : wpList Tryd.prog ops Q rest (a.put dst (.agg cs)) w) : wpList Tryd.prog ops Q (⟨dst, .load 71 x, ty, pos, aft, none⟩ :: rest) a w :=
  wpList_load_row rfl _ x rfl g hx _ cs (0, 0) _ hg Tryd.underlying71 rfl (infoP hs) h
theorem store_P (x y : Operand) {g : Nat} {old : Array Value} (hx : a.eval x = .pointer (some ⟨g, 0, none⟩)) (hy : a.eval y = .agg cs) (hg : w.heap[g]? = some (.cells old 71 (0, 0))) (ho : old.size = 5) (hs : cs.size = 5) (h1 : cs.all (·.oneCell') = true)
    (h : wpList Tryd.prog ops Q rest (a.put dst undef) (w.setRow g cs)) : wpList Tryd.prog ops Q (⟨dst, .store 71 x y, ty, pos, aft, none⟩ :: rest) a w :=
  wpList_store_row rfl _ x y rfl g cs hx hy _ old hg (infoP hs) (by omega) h1 h
/-- .. or stored whole at its place. -/
theorem store_Pm (x y : Operand) {g o : Nat} {cs : Array Value} (hx : a.eval x = .pointer (some ⟨g, o, none⟩)) (hy : a.eval y = .agg cs) (hs : cs.size = 5) (h1 : cs.all (·.oneCell') = true) (ht : w.there g o 5)
    (h : wpList Tryd.prog ops Q rest (a.put none undef) (w.setCells g o cs.toList)) : wpList Tryd.prog ops Q (⟨none, .store 71 x y, ty, pos, aft, none⟩ :: rest) a w :=
  wpList_store_mid rfl _ x y rfl g o cs hx hy (by rw [hs]; exact ht) (infoP hs) h1 h
end
theorem encRp_oneA (z : Rp) : (encRp z).toArray.all (·.oneCell') = true := by
  unfold encRp
  simp only [List.all_toArray, List.all_cons, List.all_nil, Value.oneCell', Bool.and_true]

/-- A part's box, laid behind W. -/
structure TlS (W : World) (pcs : Array Value) (V : World) : Prop where
  below : RowKit.Below W.heap.size W V
  p : V.heap[W.heap.size]? = some (.cells pcs 71 (0, 0))
section
variable {W V V' : World} {pcs : Array Value}
theorem TlS.size (h : TlS W pcs V) : W.heap.size < V.heap.size := (Array.getElem?_eq_some_iff.1 h.p).1
theorem TlS.on (h : TlS W pcs V) (hb : RowKit.Below V.heap.size V V') : TlS W pcs V' := ⟨h.below.trans (hb.mono h.below.size), (hb.block _ h.size).trans h.p⟩
theorem TlS.c (h : TlS W pcs V) (i : Nat) (u : Value) (hu : pcs[i]? = some u) : V.cell? ⟨W.heap.size, i, none⟩ = some u := (cell_of_row V W.heap.size i _ _ _ h.p).trans hu
theorem TlS.f (h : TlS W pcs V) (i : Nat) : V.frozen? ⟨W.heap.size, i, none⟩ = false := frozen_of_row V W.heap.size i _ _ h.p
theorem TlS.set (h : TlS W pcs V) (i : Nat) (u : Value) : TlS W (pcs.setIfInBounds i u) (V.setCell ⟨W.heap.size, i, none⟩ u) :=
  ⟨h.below.trans ((onlyE_set (D := fun k => k = W.heap.size) rfl i _).below (fun k hk => by omega) h.below.size), heap_setCell_same V W.heap.size i _ _ _ h.p⟩
theorem TlS.other (h : TlS W pcs V) {g : Nat} (hg : W.heap.size < g) (i : Nat) (u : Value) : TlS W pcs (V.setCell ⟨g, i, none⟩ u) := by
  have hO : OnlyE V (V.setCell ⟨g, i, none⟩ u) (fun k => k = g) := onlyE_set (D := fun k => k = g) rfl i _
  exact ⟨h.below.trans (hO.below (fun k hk => by omega) h.below.size), (hO.same _ h.size (by omega)).trans h.p⟩
theorem TlS.start (W : World) (old pcs : Array Value) : TlS W pcs ((W.alloc (.cells old 71)).setRow W.heap.size pcs) := by
  have hO : OnlyE (W.alloc (.cells old 71)) ((W.alloc (.cells old 71)).setRow W.heap.size pcs) (fun k => k = W.heap.size) := OnlyE.of_grown (grown_setRow _ _ _) rfl
  exact ⟨((RowKit.Below.refl _ _).alloc (Nat.le_refl _) _).trans (hO.below (fun k hk => by omega) (by simp)), setRow_heap _ _ _ _ _ (0, 0) (heap_alloc_new W (.cells old 71 (0, 0)))⟩
end
theorem own_pos {w : World} {base k n c : Nat} {e : TypeId} {A : Option Addr} {xs : List Value} (h : w.ownsRow base e k (.slice A n c) n xs) (hn : 0 < n) : ∃ g, A = some ⟨g, 0, none⟩ ∧ base ≤ g ∧ g < w.heap.size ∧ n ≤ c ∧ c ≤ maxLen := by
  obtain ⟨g, cap, hv, hb, hlt⟩ := h.form hn
  injection hv with e1 e2 e3
  subst e1 e3
  obtain ⟨A9, c9, e9, h1, h2⟩ := own_sliceK h
  injection e9 with e1 _ e3
  subst e3
  exact ⟨g, rfl, hb, hlt, h1, h2⟩

section
variable {W : World} {D : Nat → Prop} {A : Option Addr} {n c : Nat} {R : List Rp} {m : Gm}
theorem RgAt.range (h : RgAt W D A n c R m) {i : Nat} (hi : i < R.length) : ∃ b off, A = some ⟨b, off, none⟩ ∧ W.rangeAt b (off + i * 5) (encRp R[i]) := by
  have hn : flat encRp R ≠ [] := by
    intro h0
    have := flat_length encRp_len R
    rw [h0] at this
    simp at this
    omega
  obtain ⟨b, off, e, hb, -, hc⟩ := h.lies hn
  refine ⟨b, off, e, fun j v hv => ?_⟩
  have hj : j < 5 := by have := (List.getElem?_eq_some_iff.1 hv).1; rwa [encRp_len] at this
  have := flat_at encRp_len R i j hj hi
  rw [hv] at this
  have h2 := hc (i * 5 + j) v this
  rwa [← Nat.add_assoc] at h2

/-- The end of the copies: the part's box, its own two rows. -/
structure TlE (W : World) (D : Nat → Prop) (x : Part) (a : Nat) (d : List UInt8) (g1 c1 g2 c2 : Nat) (V : World) : Prop where
  s : TlS W #[.int .u8 (x.id.f : Int), .int .u64 (x.id.s : Int), .int .i64 (x.size : Int), .slice (some ⟨g1, 0, none⟩) x.has.length c1, .slice (some ⟨g2, 0, none⟩) x.has.length c2] V
  l1 : LiesX V D (some ⟨g1, 0, none⟩) (bvl (x.has.set a true))
  l2 : LiesX V D (some ⟨g2, 0, none⟩) (svl (x.cuts.set a d))
  b1 : x.has.length ≤ c1 ∧ c1 ≤ maxLen
  b2 : x.has.length ≤ c2 ∧ c2 ≤ maxLen

theorem tail_mem (h : RgAt W D A n c R m) (hD : ∀ k, D k → k < W.heap.size) {i : Nat} (hi : i < R.length) (hlen : R[i].x.has.length ≤ 2000000) (hcl : R[i].x.cuts.length = R[i].x.has.length) {a : Nat} (ha : a < R[i].x.has.length) (d : List UInt8) (old : Array Value) {V1 : World} (hV1 : V1 = (W.alloc (.cells old 71)).setRow W.heap.size (encRp R[i]).toArray) :
    TlS W (encRp R[i]).toArray V1 ∧ ∃ g1 c1 W3 g2 c2 W6, (Builtin.append_ #[68, 68] 68 #[.slice (some ⟨V1.heap.size, 0, none⟩) 0 0, .slice R[i].h.1 R[i].x.has.length R[i].h.2]).run Tryd.prog (V1.alloc (.cells #[] 4)) = .ok (.slice (some ⟨g1, 0, none⟩) R[i].x.has.length c1) W3 ∧
      TlS W (encRp R[i]).toArray W3 ∧
      (Builtin.append_ #[69, 69] 69 #[.slice (some ⟨W3.heap.size, 0, none⟩) 0 0, .slice R[i].c.1 R[i].x.has.length R[i].c.2]).run Tryd.prog ((W3.setCell ⟨W.heap.size, 3, none⟩ (.slice (some ⟨g1, 0, none⟩) R[i].x.has.length c1)).alloc (.cells #[] 9)) = .ok (.slice (some ⟨g2, 0, none⟩) R[i].x.has.length c2) W6 ∧
      TlS W ((encRp R[i]).toArray.setIfInBounds 3 (.slice (some ⟨g1, 0, none⟩) R[i].x.has.length c1)) W6 ∧ R[i].x.has.length ≤ c1 ∧ c1 ≤ maxLen ∧ R[i].x.has.length ≤ c2 ∧ c2 ≤ maxLen ∧
      ∃ V7, V7 = W6.setCell ⟨W.heap.size, 4, none⟩ (.slice (some ⟨g2, 0, none⟩) R[i].x.has.length c2) ∧
        TlS W #[.int .u8 (R[i].x.id.f : Int), .int .u64 (R[i].x.id.s : Int), .int .i64 (R[i].x.size : Int), .slice (some ⟨g1, 0, none⟩) R[i].x.has.length c1, .slice (some ⟨g2, 0, none⟩) R[i].x.has.length c2] V7 ∧
        (∃ b, V7.cell? ⟨g1, a, none⟩ = some (.bool b)) ∧ V7.frozen? ⟨g1, a, none⟩ = false ∧
      ∃ V8, V8 = V7.setCell ⟨g1, a, none⟩ (.bool true) ∧
        TlS W #[.int .u8 (R[i].x.id.f : Int), .int .u64 (R[i].x.id.s : Int), .int .i64 (R[i].x.size : Int), .slice (some ⟨g1, 0, none⟩) R[i].x.has.length c1, .slice (some ⟨g2, 0, none⟩) R[i].x.has.length c2] V8 ∧
        (∃ s, V8.cell? ⟨g2, a, none⟩ = some (.string s)) ∧ V8.frozen? ⟨g2, a, none⟩ = false ∧
        TlE W D R[i].x a d g1 c1 g2 c2 (V8.setCell ⟨g2, a, none⟩ (.string (str d))) := by
  have hmem := List.getElem_mem hi
  obtain ⟨hhas, -, -⟩ := h.has _ hmem
  obtain ⟨hcut, -, -⟩ := h.cut _ hmem
  have hS1 := TlS.start W old (encRp R[i]).toArray
  have hsz1 : V1.heap.size = W.heap.size + 1 := by rw [hV1]; simp
  rw [← hV1] at hS1
  have hb1 := hS1.below
  have hbA : RowKit.Below V1.heap.size V1 (V1.alloc (.cells #[] 4)) := (RowKit.Below.refl _ _).alloc (Nat.le_refl _) _
  have hown : (V1.alloc (.cells #[] 4)).ownsRow V1.heap.size 4 1 (.slice (some ⟨V1.heap.size, 0, none⟩) 0 0) 0 [] := World.ownsRow_lit V1 #[] 0 (Nat.le_refl _) (Nat.zero_le _) rfl
  have hhasA : LiesX (V1.alloc (.cells #[] 4)) D R[i].h.1 (bvl R[i].x.has) := hhas.kept (OnlyE.of_below (hb1.trans (hbA.mono (by omega))))
  obtain ⟨A1, c1, W3, hrun1, ho1, hg1, -⟩ := app_b (m := R[i].x.has.length) (c := R[i].h.2) hown rfl hhasA.lies (by simp) (by omega)
  rw [Nat.zero_add] at hrun1 ho1
  rw [List.nil_append] at ho1
  obtain ⟨g1, rfl, hg1b, hg1l, hc11, hc12⟩ := own_pos ho1 (by omega)
  have hb13 : RowKit.Below V1.heap.size V1 W3 := hbA.grown hg1 (by simp) fun q hq => by simp [Value.ownBlock] at hq; omega
  have hS3 := hS1.on hb13
  have hs3 := hb13.size
  obtain ⟨V4, hV4⟩ : ∃ V4, V4 = W3.setCell ⟨W.heap.size, 3, none⟩ (.slice (some ⟨g1, 0, none⟩) R[i].x.has.length c1) := ⟨_, rfl⟩
  have hS4 := hS3.set 3 (.slice (some ⟨g1, 0, none⟩) R[i].x.has.length c1)
  rw [← hV4] at hS4
  have hsz4 : V4.heap.size = W3.heap.size := by rw [hV4]; simp [World.setCell]
  have hO4 : OnlyE W3 V4 (fun k => k = W.heap.size) := by rw [hV4]; exact onlyE_set (D := fun k => k = W.heap.size) rfl 3 _
  have ho4 := own_only ho1 hO4 (fun b hb => by have hb2 : g1 = b := Option.some.inj hb; show ¬ b = _; omega)
  have hbB : RowKit.Below V4.heap.size V4 (V4.alloc (.cells #[] 9)) := (RowKit.Below.refl _ _).alloc (Nat.le_refl _) _
  have hown2 : (V4.alloc (.cells #[] 9)).ownsRow V4.heap.size 9 1 (.slice (some ⟨V4.heap.size, 0, none⟩) 0 0) 0 [] := World.ownsRow_lit V4 #[] 0 (Nat.le_refl _) (Nat.zero_le _) rfl
  have hcutA : LiesX (V4.alloc (.cells #[] 9)) D R[i].c.1 (svl R[i].x.cuts) := hcut.kept (OnlyE.of_below (hS4.below.trans (hbB.mono hS4.below.size)))
  obtain ⟨A2, c2, W6, hrun2, ho2, hg2, -⟩ := app_s (m := R[i].x.has.length) (c := R[i].c.2) hown2 hcl hcutA.lies (by simp) (by omega)
  rw [Nat.zero_add] at hrun2 ho2
  rw [List.nil_append] at ho2
  obtain ⟨g2, rfl, hg2b, hg2l, hc21, hc22⟩ := own_pos ho2 (by omega)
  have hb46 : RowKit.Below V4.heap.size V4 W6 := hbB.grown hg2 (by simp) fun q hq => by simp [Value.ownBlock] at hq; omega
  have hS6 := hS4.on hb46
  have ho6 := own_only ho4 (OnlyE.of_below (D := fun _ => False) hb46) (fun _ _ => id)
  have hs6 := hb46.size
  obtain ⟨V7, hV7⟩ : ∃ V7, V7 = W6.setCell ⟨W.heap.size, 4, none⟩ (.slice (some ⟨g2, 0, none⟩) R[i].x.has.length c2) := ⟨_, rfl⟩
  have hS7 := hS6.set 4 (.slice (some ⟨g2, 0, none⟩) R[i].x.has.length c2)
  rw [← hV7] at hS7
  have hO7 : OnlyE W6 V7 (fun k => k = W.heap.size) := by rw [hV7]; exact onlyE_set (D := fun k => k = W.heap.size) rfl 4 _
  have ho71 := own_only ho6 hO7 (fun b hb => by have hb2 : g1 = b := Option.some.inj hb; show ¬ b = _; omega)
  have ho72 := own_only ho2 hO7 (fun b hb => by have hb2 : g2 = b := Option.some.inj hb; show ¬ b = _; omega)
  obtain ⟨ho81, hg8⟩ := ho71.stored a (.bool true)
  have hO8 : OnlyE V7 (V7.setCell ⟨g1, a, none⟩ (.bool true)) (fun k => k = g1) := onlyE_set (D := fun k => k = g1) rfl a _
  have ho82 := own_only ho72 hO8 (fun b hb => by have hb2 : g2 = b := Option.some.inj hb; show ¬ b = _; omega)
  have hS8 := hS7.other (g := g1) (by omega) a (.bool true)
  obtain ⟨ho92, hg9⟩ := ho82.stored a (.string (str d))
  have hO9 : OnlyE (V7.setCell ⟨g1, a, none⟩ (.bool true)) ((V7.setCell ⟨g1, a, none⟩ (.bool true)).setCell ⟨g2, a, none⟩ (.string (str d))) (fun k => k = g2) := onlyE_set (D := fun k => k = g2) rfl a _
  have ho91 := own_only ho81 hO9 (fun b hb => by have hb2 : g1 = b := Option.some.inj hb; show ¬ b = _; omega)
  have hS9 := hS8.other (g := g2) (by omega) a (.string (str d))
  rw [bvl_set] at ho91
  rw [svl_set] at ho92
  rw [hsz4, hV4] at hrun2
  refine ⟨hS1, g1, c1, W3, g2, c2, W6, hrun1, hS3, hrun2, hS6, hc11, hc12, hc21, hc22, V7, hV7, hS7, ⟨R[i].x.has[a], ?_⟩, ho71.frozenAt _, _, rfl, hS8, ⟨str (R[i].x.cuts[a]'(by omega)), ?_⟩, ho82.frozenAt _,
    ⟨hS9, LiesX.of_own ho91 fun k hk => by have := hD k hk; omega, LiesX.of_own ho92 fun k hk => by have := hD k hk; omega, ⟨hc11, hc12⟩, ⟨hc21, hc22⟩⟩⟩
  · rw [ho71.cellAt a (by omega), bvl, List.getElem?_map, List.getElem?_eq_getElem ha]; rfl
  · rw [ho82.cellAt a (by omega), svl, List.getElem?_map, List.getElem?_eq_getElem (by omega)]; rfl
end

end Go.Proofs.YthkongnjokmmfaaDoor

set_option maxRecDepth 20000
namespace Go.Proofs.YthkongnjokmmfaaDoor
open Go.RowKit Go.Sort

/-- Cells written one behind the other. -/
def setL : List Value → Nat → List Value → List Value
  | xs, _, [] => xs
  | xs, o, v :: r => setL (xs.set o v) (o + 1) r
theorem setL_at : ∀ (vs : List Value) (xs : List Value) (o i : Nat), o + vs.length ≤ xs.length → (setL xs o vs)[i]? = if o ≤ i ∧ i < o + vs.length then vs[i - o]? else xs[i]?
  | [], xs, o, i, _ => by
    rw [if_neg (by rw [List.length_nil]; omega)]; rfl
  | v :: r, xs, o, i, h => by
    rw [List.length_cons] at h
    show (setL (xs.set o v) (o + 1) r)[i]? = _
    rw [setL_at r (xs.set o v) (o + 1) i (by rw [List.length_set]; omega), List.length_cons]
    by_cases h1 : i = o
    · subst h1
      rw [if_neg (by omega), if_pos (by omega), Nat.sub_self, List.getElem?_set_self (by omega)]
      rfl
    · by_cases h2 : o + 1 ≤ i ∧ i < o + 1 + r.length
      · rw [if_pos h2, if_pos (by omega), show i - o = (i - (o + 1)) + 1 by omega, List.getElem?_cons_succ]
      · rw [if_neg h2, if_neg (by omega), List.getElem?_set_ne (by omega)]
theorem own_setL {base k g n c : Nat} {e : TypeId} : ∀ (vs : List Value) (o : Nat) (w : World) (xs : List Value), w.ownsRow base e k (.slice (some ⟨g, 0, none⟩) n c) n xs →
    (w.setCells g o vs).ownsRow base e k (.slice (some ⟨g, 0, none⟩) n c) n (setL xs o vs) ∧ OnlyE w (w.setCells g o vs) (fun b => b = g)
  | [], _, w, _, h => ⟨h, OnlyE.of_below (RowKit.Below.refl _ _)⟩
  | v :: r, o, w, xs, h => by
    obtain ⟨h1, -⟩ := h.stored o v
    obtain ⟨h3, h5⟩ := own_setL r (o + 1) _ _ h1
    exact ⟨h3, (OnlyE.of_grownO (h.stored o v).2 |>.mono fun b hb => by injection hb with hb; exact hb.symm).trans h5⟩
theorem flat_set (ys : List Rp) (j : Nat) (hj : j < ys.length) (y : Rp) : setL (flat encRp ys) (j * 5) (encRp y) = flat encRp (ys.set j y) := by
  refine List.ext_getElem? fun i => ?_
  have hl : (flat encRp ys).length = ys.length * 5 := flat_length encRp_len ys
  rw [setL_at _ _ _ _ (by rw [hl, encRp_len]; have : (j + 1) * 5 ≤ ys.length * 5 := Nat.mul_le_mul_right _ hj; omega), encRp_len]
  by_cases h : i < ys.length * 5
  · obtain ⟨q, r, hr, rfl⟩ : ∃ q r, r < 5 ∧ i = q * 5 + r := ⟨i / 5, i % 5, by omega, by omega⟩
    have hq : q < ys.length := by omega
    rw [flat_at encRp_len (ys.set j y) q r hr (by rw [List.length_set]; exact hq), List.getElem_set]
    by_cases e : j = q
    · subst e
      rw [if_pos (by omega), if_pos rfl, show j * 5 + r - j * 5 = r by omega]
    · rw [if_neg (by omega), if_neg e, flat_at encRp_len ys q r hr hq]
  · rw [if_neg (by omega), List.getElem?_eq_none (by omega), List.getElem?_eq_none (by rw [flat_length encRp_len, List.length_set]; omega)]

theorem there_own {w : World} {base g n c : Nat} {ys : List Rp} (h : w.ownsRow base 71 5 (.slice (some ⟨g, 0, none⟩) n c) n (flat encRp ys)) {j : Nat} (hj : j < ys.length) : w.there g (j * 5) 5 := fun i hi => by
  refine ⟨?_, h.frozenAt _⟩
  have hl : (flat encRp ys).length = ys.length * 5 := flat_length encRp_len ys
  have hn : ys.length * 5 = n * 5 := by have := h.1; omega
  rw [h.cellAt _ (by omega), List.getElem?_eq_getElem (by omega)]
  rfl

section
variable {w : World} {D : Nat → Prop} {fc : Array Value} {A : Option Addr} {n c : Nat} {R : List Rp} {m : Gm} {W : World}
/-- The gatherer is stored whole. -/
theorem PuS.setAll (h : PuS w D fc A n c R m W) {A' : Option Addr} {n' c' : Nat} {R' : List Rp} {m' : Gm} (ha : RgAt W (PuD D w.heap.size) A' n' c' R' m') : PuS w D fc A' n' c' R' m' (W.setRow w.heap.size (rgCells (.slice A' n' c') m')) := by
  have hs := h.size
  have hO : OnlyE W (W.setRow w.heap.size (rgCells (.slice A' n' c') m')) (fun k => k = w.heap.size) := OnlyE.of_grown (grown_setRow _ _ _) rfl
  exact ⟨h.below.trans (hO.below (fun k hk => by omega) (by omega)), setRow_heap _ _ _ _ _ (0, 0) h.g, (hO.same _ (by omega) (by omega)).trans h.f, (hO.same _ (by omega) (by omega)).trans h.r, ha.kept (hO.mono fun k hk => .inr (.inl hk))⟩
theorem PuS.lt (h : PuS w D fc A n c R m W) (hD : ∀ k, D k → k < w.heap.size) : ∀ k, PuD D w.heap.size k → k < W.heap.size := fun k hk => by
  have := h.size
  rcases hk with hk | rfl | rfl | rfl
  · have := hD k hk; omega
  all_goals omega
end

section
variable {V : World} {D : Nat → Prop} {A : Option Addr} {n c : Nat} {R : List Rp} {m : Gm}
/-- The row is copied, the part is put to its place. -/
theorem row_mem (h : RgAt V D A n c R m) (hn : n ≤ 1000000) (hD : ∀ k, D k → k < V.heap.size) {i : Nat} (hi : i < R.length) (z : Rp) (h1 : LiesX V D z.h.1 (bvl z.x.has) ∧ z.x.has.length ≤ z.h.2 ∧ z.h.2 ≤ maxLen) (h2 : LiesX V D z.c.1 (svl z.x.cuts) ∧ z.x.cuts.length ≤ z.c.2 ∧ z.c.2 ≤ maxLen) :
    ∃ g3 c3 V11, (Builtin.append_ #[29, 29] 29 #[.slice (some ⟨V.heap.size, 0, none⟩) 0 0, .slice A n c]).run Tryd.prog (V.alloc (.cells #[] 71)) = .ok (.slice (some ⟨g3, 0, none⟩) n c3) V11 ∧
      RowKit.Below V.heap.size V V11 ∧ V11.there g3 (i * 5) 5 ∧ n ≤ c3 ∧ c3 ≤ maxLen ∧ RowKit.Below V.heap.size V (V11.setCells g3 (i * 5) (encRp z)) ∧ RgAt (V11.setCells g3 (i * 5) (encRp z)) D (some ⟨g3, 0, none⟩) n c3 (R.set i z) { m with l := m.l.set i z.x } := by
  have hlen := h.len
  have hown : (V.alloc (.cells #[] 71)).ownsRow V.heap.size 71 5 (.slice (some ⟨V.heap.size, 0, none⟩) 0 0) 0 [] := World.ownsRow_lit V #[] 0 (Nat.le_refl _) (Nat.zero_le _) rfl
  have hbA : RowKit.Below V.heap.size V (V.alloc (.cells #[] 71)) := (RowKit.Below.refl _ _).alloc (Nat.le_refl _) _
  obtain ⟨A1, c3, V11, hrun, ho, hg, -⟩ := app_rp (ys := R) (m := n) (c := c) hown hlen ((h.on hbA).lies.lies) (by simp) (by omega)
  rw [Nat.zero_add] at hrun ho
  rw [List.nil_append] at ho
  have hb1 : RowKit.Below V.heap.size V V11 := hbA.grown hg (by simp) fun q hq => by simp [Value.ownBlock] at hq; omega
  obtain ⟨g3, rfl, hgb, hgl, k1, k2⟩ := own_pos ho (by omega)
  obtain ⟨ho2, hO⟩ := own_setL (encRp z) (i * 5) V11 _ ho
  rw [flat_set R i hi z] at ho2
  have hb2 : RowKit.Below V.heap.size V (V11.setCells g3 (i * 5) (encRp z)) := hb1.trans (hO.below (fun k hk => by omega) hb1.size)
  have hR := h.on hb2
  refine ⟨g3, c3, V11, hrun, hb1, there_own ho hi, k1, k2, hb2, ⟨by rw [List.length_set, hlen], k1, k2, LiesX.of_own ho2 fun k hk => hD k hk, fun y hy => ?_, fun y hy => ?_, ?_⟩⟩
  · rcases List.mem_or_eq_of_mem_set hy with hy | rfl
    · exact hR.has y hy
    · exact ⟨h1.1.kept (OnlyE.of_below hb2), h1.2⟩
  · rcases List.mem_or_eq_of_mem_set hy with hy | rfl
    · exact hR.cut y hy
    · exact ⟨h2.1.kept (OnlyE.of_below hb2), h2.2⟩
  · show m.l.set i z.x = _
    rw [h.ml, List.map_set]
end

/-- The part behind a chunk. -/
def putRp (x : Part) (a : Nat) (d : List UInt8) (g1 c1 g2 c2 : Nat) : Rp := ⟨x.putCut a d, (some ⟨g1, 0, none⟩, c1), (some ⟨g2, 0, none⟩, c2)⟩
theorem enc_putRp (x : Part) (a : Nat) (d : List UInt8) (g1 c1 g2 c2 : Nat) (h : x.cuts.length = x.has.length) : encRp (putRp x a d g1 c1 g2 c2) = [.int .u8 (x.id.f : Int), .int .u64 (x.id.s : Int), .int .i64 (x.size : Int), .slice (some ⟨g1, 0, none⟩) x.has.length c1, .slice (some ⟨g2, 0, none⟩) x.has.length c2] := by
  show [_, _, _, Value.slice _ (x.has.set a true).length _, Value.slice _ (x.cuts.set a d).length _] = _
  rw [List.length_set, List.length_set, h]
  rfl
theorem str_size (l : List UInt8) : (str l).size = l.length := rfl
theorem flatten_take_le (l : List (List UInt8)) (k : Nat) : (l.take k).flatten.length ≤ l.flatten.length := by
  conv => rhs; rw [← List.take_append_drop k l, List.flatten_append, List.length_append]
  omega
theorem str_append (a b : List UInt8) : str (a ++ b) = str a ++ str b := rfl

section
variable {w : World} {D : Nat → Prop} {fc : Array Value} {A : Option Addr} {n c : Nat} {R : List Rp} {m : Gm} {W V : World}
/-- The part is kept: what the walk needs behind 'full'. -/
theorem kept_mem (h : PuS w D fc A n c R m V) (hn : n ≤ 1000000) (hD : ∀ k, D k → k < w.heap.size) {i : Nat} (hi : i < R.length) (hcl : R[i].x.cuts.length = R[i].x.has.length) {a g1 c1 g2 c2 : Nat} {d : List UInt8} (hE : TlE W (PuD D w.heap.size) R[i].x a d g1 c1 g2 c2 V) :
    ∃ g3 c3 V11, (Builtin.append_ #[29, 29] 29 #[.slice (some ⟨V.heap.size, 0, none⟩) 0 0, .slice A n c]).run Tryd.prog (V.alloc (.cells #[] 71)) = .ok (.slice (some ⟨g3, 0, none⟩) n c3) V11 ∧
      V11.heap[W.heap.size]? = some (.cells #[.int .u8 (R[i].x.id.f : Int), .int .u64 (R[i].x.id.s : Int), .int .i64 (R[i].x.size : Int), .slice (some ⟨g1, 0, none⟩) R[i].x.has.length c1, .slice (some ⟨g2, 0, none⟩) R[i].x.has.length c2] 71 (0, 0)) ∧
      V11.there g3 (i * 5) 5 ∧ n ≤ c3 ∧ c3 ≤ 9223372036854775807 ∧ ∀ V12, V12 = V11.setCells g3 (i * 5) [.int .u8 (R[i].x.id.f : Int), .int .u64 (R[i].x.id.s : Int), .int .i64 (R[i].x.size : Int), .slice (some ⟨g1, 0, none⟩) R[i].x.has.length c1, .slice (some ⟨g2, 0, none⟩) R[i].x.has.length c2] →
        V12.cell? ⟨w.heap.size, 3, none⟩ = some (.slice A n c) ∧ V12.frozen? ⟨w.heap.size, 3, none⟩ = false ∧ PuS w D fc (some ⟨g3, 0, none⟩) n c3 (R.set i (putRp R[i].x a d g1 c1 g2 c2)) { m with l := m.l.set i (R[i].x.putCut a d) } (V12.setCell ⟨w.heap.size, 3, none⟩ (.slice (some ⟨g3, 0, none⟩) n c3)) := by
  have hDV := h.lt hD
  obtain ⟨g3, c3, V11, hrun, hb, hth, k1, k2, hb2, hR⟩ := row_mem h.at_ hn hDV hi (putRp R[i].x a d g1 c1 g2 c2) ⟨hE.l1, by show (R[i].x.has.set a true).length ≤ c1; rw [List.length_set]; exact hE.b1.1, hE.b1.2⟩
    ⟨hE.l2, by show (R[i].x.cuts.set a d).length ≤ c2; rw [List.length_set, hcl]; exact hE.b2.1, hE.b2.2⟩
  rw [enc_putRp _ _ _ _ _ _ _ hcl] at hb2 hR
  refine ⟨g3, c3, V11, hrun, (hE.s.on hb).p, hth, k1, by unfold maxLen at k2; omega, ?_⟩
  rintro V12 rfl
  have hP := h.on hb2
  exact ⟨hP.gc 3 _ rfl, hP.gf 3, hP.set 3 _ rfl hR⟩
/-- .. and counted. -/
theorem TlE.on {x : Part} {a : Nat} {d : List UInt8} {g1 c1 g2 c2 : Nat} {V' : World} (h : TlE W D x a d g1 c1 g2 c2 V) (hb : RowKit.Below V.heap.size V V') : TlE W D x a d g1 c1 g2 c2 V' :=
  ⟨h.s.on hb, h.l1.kept (OnlyE.of_below hb), h.l2.kept (OnlyE.of_below hb), h.b1, h.b2⟩
end

end Go.Proofs.YthkongnjokmmfaaDoor

set_option maxRecDepth 20000
namespace Go.Proofs.YthkongnjokmmfaaDoor
open Go.RowKit Go.Sort

theorem evict_stop (room size : Nat) : ∀ (l : List Part) (k : Nat), k ≤ l.length → (∀ j, j < k → room < usedL (l.drop j) + size) → ¬ room < usedL (l.drop k) + size → evict room size l = (l.drop k, k)
  | [], k, hk, _, _ => by
    have : k = 0 := by simpa using hk
    subst this
    rfl
  | p :: r, 0, _, _, h => by
    have h' : ¬ room < usedL (p :: r) + size := h
    unfold evict
    rw [if_neg h']
    rfl
  | p :: r, k + 1, hk, h1, h2 => by
    have h0 : room < usedL (p :: r) + size := h1 0 (by omega)
    unfold evict
    rw [if_pos h0, evict_stop room size r k (by simpa using hk) (fun j hj => by have := h1 (j + 1) (by omega); rwa [List.drop_succ_cons] at this) (by rwa [List.drop_succ_cons] at h2)]
    rfl
theorem bump3_zero {l : List Nat} (h6 : l.length = 6) : bump l 3 0 = l := by
  obtain ⟨a, b, c, d, e, f, rfl⟩ := rg_counts h6
  rfl
theorem bump_bump {l : List Nat} (h6 : l.length = 6) (k : Nat) : bump (bump l 3 k) 3 1 = bump l 3 (k + 1) := by
  obtain ⟨a, b, c, d, e, f, rfl⟩ := rg_counts h6
  rfl
theorem bump3_at {l : List Nat} (h6 : l.length = 6) (k : Nat) : (bump l 3 k).getD 3 0 = l.getD 3 0 + k := by
  obtain ⟨a, b, c, d, e, f, rfl⟩ := rg_counts h6
  rfl
/-- How many parts there are, out of the gatherer's box. -/
def lenAt (W : World) (b : Nat) : Nat := match W.cell? ⟨b, 3, none⟩ with | some (.slice _ n _) => n | _ => 0
def evG (m : Gm) (k : Nat) : Gm := { m with l := m.l.drop k, counts := bump m.counts 3 k }

/-- While there is no room: k parts are gone. -/
structure EvS (w : World) (D : Nat → Prop) (fc : Array Value) (R : List Rp) (m : Gm) (sz k : Nat) (A : Option Addr) (n c : Nat) (mk : Gm) (W : World) : Prop where
  k_le : k ≤ R.length
  n_eq : n = R.length - k
  m_eq : mk = evG m k
  s : PuS w D fc A n c (R.drop k) mk W
  gone : ∀ j, j < k → m.room < usedL (m.l.drop j) + sz
section
variable {w W W' : World} {D : Nat → Prop} {fc : Array Value} {A : Option Addr} {n c : Nat} {R : List Rp} {m mk : Gm} {sz k : Nat}
theorem EvS.start (h : PuS w D fc A n c R m W) (h6 : m.counts.length = 6) : EvS w D fc R m sz 0 A n c m W :=
  ⟨Nat.zero_le _, h.at_.len.symm, by unfold evG; rw [bump3_zero h6]; rfl, h, fun _ hj => absurd hj (Nat.not_lt_zero _)⟩
theorem EvS.lenAt (h : EvS w D fc R m sz k A n c mk W) : lenAt W w.heap.size = n := by
  unfold Proofs.YthkongnjokmmfaaDoor.lenAt
  rw [h.s.gc 3 (.slice A n c) rfl]
theorem EvS.next (h : EvS w D fc R m sz k A n c mk W) (h6 : m.counts.length = 6) (hno : m.room < usedL mk.l + sz) (hb : RowKit.Below W.heap.size W W') (hn : 0 < n) {A' : Option Addr} {c' : Nat} (hR : RgAt W' (PuD D w.heap.size) A' (n - 1) c' ((R.drop k).eraseIdx 0) { mk with l := mk.l.eraseIdx 0 }) :
    (W'.setRow w.heap.size (rgCells (.slice A' (n - 1) c') { mk with l := mk.l.eraseIdx 0 })).cell? ⟨w.heap.size, 9, none⟩ = some (.int .i64 (mk.counts.getD 3 0 : Int)) ∧ (W'.setRow w.heap.size (rgCells (.slice A' (n - 1) c') { mk with l := mk.l.eraseIdx 0 })).frozen? ⟨w.heap.size, 9, none⟩ = false ∧
    mk.counts.getD 3 0 = m.counts.getD 3 0 + k ∧
    EvS w D fc R m sz (k + 1) A' (n - 1) c' (evG m (k + 1)) ((W'.setRow w.heap.size (rgCells (.slice A' (n - 1) c') { mk with l := mk.l.eraseIdx 0 })).setCell ⟨w.heap.size, 9, none⟩ (.int .i64 ((mk.counts.getD 3 0 : Int) + 1))) := by
  have hs := (h.s.on hb).setAll hR
  have e1 : (R.drop k).eraseIdx 0 = R.drop (k + 1) := by
    rw [eraseIdx_split, List.take_zero, List.nil_append, List.drop_drop]
  have e2 : mk.l.eraseIdx 0 = m.l.drop (k + 1) := by
    rw [h.m_eq]
    show (m.l.drop k).eraseIdx 0 = _
    cases hd : m.l.drop k with
    | nil =>
      have h9 := congrArg (List.drop 1) hd
      rw [List.drop_drop] at h9
      rw [h9]
      rfl
    | cons p r =>
      have h9 := congrArg (List.drop 1) hd
      rw [List.drop_drop] at h9
      rw [h9]
      rfl
  have h6k : mk.counts.length = 6 := by rw [h.m_eq]; show (bump _ _ _).length = 6; rw [bump_len, h6]
  have e3 : { { mk with l := mk.l.eraseIdx 0 } with counts := bump mk.counts 3 1 } = evG m (k + 1) := by
    unfold evG
    rw [e2, h.m_eq]
    show ({ m with l := _, counts := bump (bump m.counts 3 k) 3 1 } : Gm) = _
    rw [bump_bump h6]
  have hk := h.n_eq
  refine ⟨hs.gc 9 _ rfl, hs.gf 9, by rw [h.m_eq]; exact bump3_at h6 k, ⟨by omega, by omega, rfl, ?_, fun j hj => ?_⟩⟩
  · have h9 := hs.bump 3 (by decide) h6k
    rw [e1] at h9
    rw [← e3]
    exact h9
  · by_cases e : j = k
    · subst e
      rw [h.m_eq] at hno
      exact hno
    · exact h.gone j (by omega)
end

/-! ### The rows of a part that begins -/
structure NwS (Wl : World) (x : Id) (sz k : Nat) (A1 : Option Addr) (c1 : Nat) (A2 : Option Addr) (c2 : Nat) (V : World) : Prop where
  t : TlS Wl #[.int .u8 (x.f : Int), .int .u64 (x.s : Int), .int .i64 (sz : Int), .slice A1 k c1, .slice A2 k c2] V
  o1 : V.ownsRow (Wl.heap.size + 1) 4 1 (.slice A1 k c1) k (bvl (List.replicate k false))
  o2 : V.ownsRow (Wl.heap.size + 1) 9 1 (.slice A2 k c2) k (svl (List.replicate k []))
theorem own_types {W : World} {base1 base2 n1 n2 : Nat} {v1 v2 : Value} {xs ys : List Value} (h1 : W.ownsRow base1 4 1 v1 n1 xs) (h2 : W.ownsRow base2 9 1 v2 n2 ys) : ∀ b, v2.ownBlock = some b → v1.ownBlock ≠ some b := by
  intro b hb1 hb2
  rcases h1.2 with ⟨rfl, -⟩ | ⟨g, cap, cur, rfl, -, hg, -⟩
  · simp [Value.ownBlock] at hb2
  · rcases h2.2 with ⟨rfl, -⟩ | ⟨g', cap', cur', rfl, -, hg', -⟩
    · simp [Value.ownBlock] at hb1
    · have e1 : g = b := Option.some.inj hb2
      have e2 : g' = b := Option.some.inj hb1
      rw [e1] at hg
      rw [e2, hg] at hg'
      injection hg' with hg'
      injection hg' with _ hg' _
      exact absurd hg' (by decide)
section
variable {Wl V V' : World} {x : Id} {sz k : Nat} {A1 A2 : Option Addr} {c1 c2 : Nat}
theorem NwS.start (h : TlS Wl #[.int .u8 (x.f : Int), .int .u64 (x.s : Int), .int .i64 (sz : Int), .slice none 0 0, .slice none 0 0] V) : NwS Wl x sz 0 none 0 none 0 V := ⟨h, ownsRow_nil _ _ _ _, ownsRow_nil _ _ _ _⟩
theorem NwS.step (h : NwS Wl x sz k A1 c1 A2 c2 V) (hk : k ≤ 2000000) :
    ∃ A1' c1' W3 A2' c2' W6, (Builtin.append_ #[68, 68] 68 #[.slice A1 k c1, .slice (some ⟨V.heap.size, 0, none⟩) 1 1]).run Tryd.prog (V.alloc (.cells #[.bool false] 4)) = .ok (.slice A1' (k + 1) c1') W3 ∧
      TlS Wl #[.int .u8 (x.f : Int), .int .u64 (x.s : Int), .int .i64 (sz : Int), .slice A1 k c1, .slice A2 k c2] W3 ∧
      (Builtin.append_ #[69, 69] 69 #[.slice A2 k c2, .slice (some ⟨W3.heap.size, 0, none⟩) 1 1]).run Tryd.prog ((W3.setCell ⟨Wl.heap.size, 3, none⟩ (.slice A1' (k + 1) c1')).alloc (.cells #[.string { data := #[] }] 9)) = .ok (.slice A2' (k + 1) c2') W6 ∧
      TlS Wl #[.int .u8 (x.f : Int), .int .u64 (x.s : Int), .int .i64 (sz : Int), .slice A1' (k + 1) c1', .slice A2 k c2] W6 ∧
      NwS Wl x sz (k + 1) A1' c1' A2' c2' (W6.setCell ⟨Wl.heap.size, 4, none⟩ (.slice A2' (k + 1) c2')) := by
  have hsz := h.t.size
  have hbA : RowKit.Below V.heap.size V (V.alloc (.cells #[.bool false] 4)) := (RowKit.Below.refl _ _).alloc (Nat.le_refl _) _
  have hown := own_below h.o1 hbA
  have hL : Lies (V.alloc (.cells #[.bool false] 4)) (V.heap.size + 1) (some ⟨V.heap.size, 0, none⟩) (bvl [false]) := lies_new V #[.bool false] _
  obtain ⟨A1', c1', W3, hrun1, ho1, hg1, -⟩ := app_b (m := 1) (c := 1) hown rfl hL (by simp; omega) (by omega)
  have hbase : RowKit.Below (Wl.heap.size + 1) (V.alloc (.cells #[.bool false] 4)) W3 := (RowKit.Below.refl _ _).grown hg1 (by simp; omega) fun q hq => (hown.lt q hq).1
  have hS1 := h.t.on hbA
  have hS3 : TlS Wl #[.int .u8 (x.f : Int), .int .u64 (x.s : Int), .int .i64 (sz : Int), .slice A1 k c1, .slice A2 k c2] W3 := ⟨hS1.below.trans (hbase.mono (by omega)), (hbase.block _ (by omega)).trans hS1.p⟩
  have ho2 := (own_below h.o2 hbA).kept hg1 (by
    cases h9 : (Value.slice A2 k c2).ownBlock with
    | none => exact .inl rfl
    | some b => exact .inr fun e => own_types h.o1 h.o2 b h9 e.symm)
  have hs3 := hS3.size
  obtain ⟨V4, hV4⟩ : ∃ V4, V4 = W3.setCell ⟨Wl.heap.size, 3, none⟩ (.slice A1' (k + 1) c1') := ⟨_, rfl⟩
  have hS4 := hS3.set 3 (.slice A1' (k + 1) c1')
  rw [← hV4] at hS4
  have hsz4 : V4.heap.size = W3.heap.size := by rw [hV4]; simp [World.setCell]
  have hO4 : OnlyE W3 V4 (fun k => k = Wl.heap.size) := by rw [hV4]; exact onlyE_set (D := fun k => k = Wl.heap.size) rfl 3 _
  have ho41 := own_only ho1 hO4 (fun b hb => by have h9 := (ho1.lt b hb).1; show ¬ b = _; omega)
  have ho42 := own_only ho2 hO4 (fun b hb => by have h9 := (ho2.lt b hb).1; show ¬ b = _; omega)
  have hbB : RowKit.Below V4.heap.size V4 (V4.alloc (.cells #[.string { data := #[] }] 9)) := (RowKit.Below.refl _ _).alloc (Nat.le_refl _) _
  have hownB := own_below ho42 hbB
  have hL2 : Lies (V4.alloc (.cells #[.string { data := #[] }] 9)) (V4.heap.size + 1) (some ⟨V4.heap.size, 0, none⟩) (svl [[]]) := lies_new V4 #[.string { data := #[] }] _
  obtain ⟨A2', c2', W6, hrun2, ho6, hg2, -⟩ := app_s (m := 1) (c := 1) hownB rfl hL2 (by simp; omega) (by omega)
  have hbase2 : RowKit.Below (Wl.heap.size + 1) (V4.alloc (.cells #[.string { data := #[] }] 9)) W6 := (RowKit.Below.refl _ _).grown hg2 (by simp; omega) fun q hq => (hownB.lt q hq).1
  have hS5 := hS4.on hbB
  have hS6 : TlS Wl (#[.int .u8 (x.f : Int), .int .u64 (x.s : Int), .int .i64 (sz : Int), .slice A1' (k + 1) c1', .slice A2 k c2] : Array Value) W6 := ⟨hS5.below.trans (hbase2.mono (by omega)), (hbase2.block _ (by omega)).trans hS5.p⟩
  have ho61 := (own_below ho41 hbB).kept hg2 (by
    cases h9 : (Value.slice A1' (k + 1) c1').ownBlock with
    | none => exact .inl rfl
    | some b => exact .inr fun e => own_types ho41 ho42 b e.symm h9)
  have hS7 := hS6.set 4 (.slice A2' (k + 1) c2')
  have hO7 : OnlyE W6 (W6.setCell ⟨Wl.heap.size, 4, none⟩ (.slice A2' (k + 1) c2')) (fun k => k = Wl.heap.size) := onlyE_set (D := fun k => k = Wl.heap.size) rfl 4 _
  have ho71 := own_only ho61 hO7 (fun b hb => by have h9 := (ho61.lt b hb).1; show ¬ b = _; omega)
  have ho72 := own_only ho6 hO7 (fun b hb => by have h9 := (ho6.lt b hb).1; show ¬ b = _; omega)
  have e1 : bvl (List.replicate k false) ++ bvl [false] = bvl (List.replicate (k + 1) false) := by
    unfold bvl
    rw [← List.map_append, List.replicate_succ']
  have e2 : svl (List.replicate k []) ++ svl [[]] = svl (List.replicate (k + 1) []) := by
    unfold svl
    rw [← List.map_append, List.replicate_succ']
  rw [e1] at ho71
  rw [e2] at ho72
  rw [hsz4, hV4] at hrun2
  exact ⟨A1', c1', W3, A2', c2', W6, hrun1, hS3, hrun2, hS6, hS7, ho71, ho72⟩
end

/-- The part that begins, and where its rows lie. -/
def newRp (x : Id) (sz k : Nat) (A1 : Option Addr) (c1 : Nat) (A2 : Option Addr) (c2 : Nat) : Rp := ⟨newPart x sz k, (A1, c1), (A2, c2)⟩
theorem enc_newRp (x : Id) (sz k : Nat) (A1 : Option Addr) (c1 : Nat) (A2 : Option Addr) (c2 : Nat) : encRp (newRp x sz k A1 c1 A2 c2) = [.int .u8 (x.f : Int), .int .u64 (x.s : Int), .int .i64 (sz : Int), .slice A1 k c1, .slice A2 k c2] := by
  show [_, _, _, Value.slice _ (List.replicate k false).length _, Value.slice _ (List.replicate k []).length _] = _
  rw [List.length_replicate, List.length_replicate]
  rfl
/-- How it stands while the part is put behind the others. -/
structure NwE (w : World) (D : Nat → Prop) (fc : Array Value) (A : Option Addr) (n c : Nat) (R : List Rp) (m : Gm) (Wl : World) (z : Rp) (W : World) : Prop where
  s : PuS w D fc A n c R m W
  t : TlS Wl (encRp z).toArray W
  h : LiesX W (PuD D w.heap.size) z.h.1 (bvl z.x.has) ∧ z.x.has.length ≤ z.h.2 ∧ z.h.2 ≤ maxLen
  c_ : LiesX W (PuD D w.heap.size) z.c.1 (svl z.x.cuts) ∧ z.x.cuts.length ≤ z.c.2 ∧ z.c.2 ≤ maxLen
section
variable {w W W' Wl : World} {D : Nat → Prop} {fc : Array Value} {A : Option Addr} {n c : Nat} {R : List Rp} {m : Gm} {z : Rp}
theorem NwE.on (h : NwE w D fc A n c R m Wl z W) (hb : RowKit.Below W.heap.size W W') : NwE w D fc A n c R m Wl z W' :=
  ⟨h.s.on hb, h.t.on hb, ⟨h.h.1.kept (OnlyE.of_below hb), h.h.2⟩, ⟨h.c_.1.kept (OnlyE.of_below hb), h.c_.2⟩⟩
theorem NwS.done {x : Id} {sz k : Nat} {A1 A2 : Option Addr} {c1 c2 : Nat} (h : NwS Wl x sz k A1 c1 A2 c2 W) (hs : PuS w D fc A n c R m Wl) (hD : ∀ k, D k → k < w.heap.size) : NwE w D fc A n c R m Wl (newRp x sz k A1 c1 A2 c2) W := by
  have hs' := hs.on h.t.below
  have hlt := hs.lt hD
  have hsz := h.t.size
  obtain ⟨A9, c9, e9, p1, p2⟩ := own_sliceK h.o1
  injection e9 with e1 _ e3
  subst e1 e3
  obtain ⟨A8, c8, e8, q1, q2⟩ := own_sliceK h.o2
  injection e8 with e1 _ e3
  subst e1 e3
  refine ⟨hs', by rw [enc_newRp]; exact h.t, ⟨LiesX.of_own h.o1 fun k hk => by have := hlt k hk; omega, ?_, p2⟩, ⟨LiesX.of_own h.o2 fun k hk => by have := hlt k hk; omega, ?_, q2⟩⟩
  · show (List.replicate k false).length ≤ _
    rw [List.length_replicate]; exact p1
  · show (List.replicate k []).length ≤ _
    rw [List.length_replicate]; exact q1
/-- The end: the new row is stored. -/
theorem NwE.done (h : NwE w D fc A n c R m Wl z W) {base c4 : Nat} {A4 : Option Addr} (ho : W.ownsRow base 71 5 (.slice A4 (n + 1) c4) (n + 1) (flat encRp (R ++ [z]))) (hbase : w.heap.size + 2 < base) (hD : ∀ k, D k → k < w.heap.size) :
    PuS w D fc A4 (n + 1) c4 (R ++ [z]) { m with l := m.l ++ [z.x] } (W.setCell ⟨w.heap.size, 3, none⟩ (.slice A4 (n + 1) c4)) := by
  obtain ⟨A9, c9, e9, p1, p2⟩ := own_sliceK ho
  injection e9 with e1 _ e3
  subst e1 e3
  refine h.s.set 3 _ rfl ⟨by rw [List.length_append, h.s.at_.len]; rfl, p1, p2, LiesX.of_own ho fun k hk => ?_, fun y hy => ?_, fun y hy => ?_, ?_⟩
  · rcases hk with hk | rfl | rfl | rfl
    · have := hD k hk; omega
    all_goals omega
  · rcases List.mem_append.1 hy with hy | hy
    · exact h.s.at_.has y hy
    · rw [List.mem_singleton.1 hy]; exact h.h
  · rcases List.mem_append.1 hy with hy | hy
    · exact h.s.at_.cut y hy
    · rw [List.mem_singleton.1 hy]; exact h.c_
  · show m.l ++ [z.x] = _
    rw [h.s.at_.ml, List.map_append]
    rfl
end

/-! ### The region that draws -/
set_option maxRecDepth 20000 in
theorem wp_build1P {o : Oper} {a : Act} {w : World} {K : Act → World → Prop} {Q : Exit → Act → World → Prop} {x : Operand} {y : Rp} (ho : o.op = .buildSlice 29 1 #[(0, x)]) (hx : a.eval x = .agg (encRp y).toArray)
    (h : K (a.put o.dst (.slice (some ⟨w.heap.size, 0, none⟩) 1 1)) (w.alloc (.cells (encRp y).toArray 71))) : o.wp Tryd.prog a w K Q := by
  unfold Oper.wp execOp
  simp only [ho, List.map_toArray, List.map_cons, List.map_nil, hx]
  unfold encRp at h ⊢
  go_simp
  exact h
theorem wp_build1P_step {o : Oper} {a : Act} {w : World} {ys : Nat → Option Bool} {K : Act → World → Prop} {Q : Exit → Act → World → Prop} (hgd : o.guard = none) {x : Operand} {y : Rp} (ho : o.op = .buildSlice 29 1 #[(0, x)]) (hx : a.eval x = .agg (encRp y).toArray)
    (hk : K (a.put o.dst (.slice (some ⟨w.heap.size, 0, none⟩) 1 1)) (w.alloc (.cells (encRp y).toArray 71))) : if Region.wanted o ys = true then Oper.wp Tryd.prog o a w K Q else K (a.put o.dst undef) w := by
  rw [if_pos (by simp [Region.wanted, hgd])]
  exact wp_build1P ho hx hk
theorem yields_P {ops : Array Oper} {S : World → Prop} {o : Oper} {a : Act} {x : Operand} {g : Nat} {cs : Array Value} (hw : Region.wanted o (yielded ops a.tmps) = true) (ho : o.op = .load 71 x) (hx : a.eval x = .pointer (some ⟨g, 0, none⟩)) (hs : cs.size = 5)
    (hS : ∀ V, S V → V.heap[g]? = some (.cells cs 71 (0, 0))) : YieldsIf Tryd.prog ops S o (.agg cs) a :=
  .inl ⟨hw, fun V hV => by
    have h1 := run_loadVar_row (P := Tryd.prog) V g _ _ cs (0, 0) _ (hS V hV) Tryd.underlying71 rfl (infoP hs)
    unfold execOp
    simp only [ho, hx, Instr.loadAt, Instr.sureAddr, Sem.run_bind, Sem.run_pure, Result.andThen_ok, h1]⟩
theorem LiesX.at_row {W : World} {D : Nat → Prop} {q : Nat} {cs : Array Value} {t : TypeId} {fr : Nat × Nat} {xs : List Value} (h : W.heap[q]? = some (.cells cs t fr)) (hD : ¬ D q) (hx : cs.toList = xs) : LiesX W D (some ⟨q, 0, none⟩) xs := fun _ =>
  ⟨q, 0, rfl, (Array.getElem?_eq_some_iff.1 h).1, hD, fun i u hu => by
    rw [Nat.zero_add, cell_of_row W q i _ _ _ h, ← hu, ← hx]
    simp⟩
theorem flat_singleR (x : Rp) : flat encRp [x] = (encRp x).toArray.toList := by simp [flat]
theorem app_rpB {W : World} {base n B m c : Nat} {v : Value} {xs : List Value} {A : Option Addr} {ys : List Rp} (hown : W.ownsRow base 71 5 v n xs) (hl : ys.length = m) (hL : Lies W B A (flat encRp ys)) (hb : base ≤ W.heap.size) (hn : n + m ≤ 10000000) :
    ∃ A' c' W', (Builtin.append_ #[29, 29] 29 #[v, .slice A m c]).run Tryd.prog W = .ok (.slice A' (n + m) c') W' ∧ W'.ownsRow base 71 5 (.slice A' (n + m) c') (n + m) (xs ++ flat encRp ys) ∧ W.grownBy W' v.ownBlock ∧ RowKit.Below base W W' := by
  obtain ⟨A', c', W', h1, h2, h3, -⟩ := app_rp (c := c) hown hl hL hb hn
  exact ⟨A', c', W', h1, h2, h3, (RowKit.Below.refl _ _).grown h3 hb (fun k e => (hown.lt k e).1)⟩
theorem usedL_drop : ∀ (l : List Part) (k : Nat), usedL (l.drop k) ≤ usedL l
  | [], k => by rw [List.drop_nil]; exact Nat.le_refl _
  | p :: r, 0 => Nat.le_refl _
  | p :: r, k + 1 => by
    rw [List.drop_succ_cons]
    have := usedL_drop r k
    show _ ≤ p.size + usedL r
    omega

end Go.Proofs.YthkongnjokmmfaaDoor
