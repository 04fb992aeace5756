/- The document's bag as a value: New; its boxes. -/
import Derived.Test.YtjecphjdmjoeiaaBgR
namespace Go.Proofs.Ytjecphjdmjoeiaa
open Go.RowKit Go.Sort

def encG (x : List UInt8 × Bool) : List Value := [.string (str x.1), .bool x.2]
theorem encG_len (x : List UInt8 × Bool) : (encG x).length = 2 := rfl
theorem encG_one (x : List UInt8 × Bool) : ∀ v ∈ encG x, v.oneCell' = true := by
  intro v hv
  simp [encG] at hv
  rcases hv with rfl | rfl <;> rfl

theorem results_cell_tmp {fn : Func} {p q : Tmp} {ty : TypeId} (h : fn.results = #[.cell p ty, .tmp q]) (tmps : Array Value) (w : World) (g : Nat) (cs : Array Value)
    (hp : tmps.getD p undef = .pointer (some ⟨g, 0, none⟩)) (hl : (loadVar ty ⟨g, 0, none⟩).run Try.prog w = .ok (.agg cs) w) :
    (results fn tmps).run Try.prog w = .ok (.tuple #[.agg cs, tmps.getD q undef]) w := by
  have hp' : tmps[p]?.getD undef = .pointer (some ⟨g, 0, none⟩) := by simpa using hp
  simp [results, h, hp', asAddr, hl]
theorem results_cell_tmp2 {fn : Func} {p q r : Tmp} {ty : TypeId} (h : fn.results = #[.cell p ty, .tmp q, .tmp r]) (tmps : Array Value) (w : World) (g : Nat) (cs : Array Value)
    (hp : tmps.getD p undef = .pointer (some ⟨g, 0, none⟩)) (hl : (loadVar ty ⟨g, 0, none⟩).run Try.prog w = .ok (.agg cs) w) :
    (results fn tmps).run Try.prog w = .ok (.tuple #[.agg cs, tmps.getD q undef, tmps.getD r undef]) w := by
  have hp' : tmps[p]?.getD undef = .pointer (some ⟨g, 0, none⟩) := by simpa using hp
  simp [results, h, hp', asAddr, hl]
theorem results_tmp_cell {fn : Func} {p q : Tmp} {ty : TypeId} (h : fn.results = #[.tmp q, .cell p ty]) (tmps : Array Value) (w : World) (g : Nat) (cs : Array Value)
    (hp : tmps.getD p undef = .pointer (some ⟨g, 0, none⟩)) (hl : (loadVar ty ⟨g, 0, none⟩).run Try.prog w = .ok (.agg cs) w) :
    (results fn tmps).run Try.prog w = .ok (.tuple #[tmps.getD q undef, .agg cs]) w := by
  have hp' : tmps[p]?.getD undef = .pointer (some ⟨g, 0, none⟩) := by simpa using hp
  simp [results, h, hp', asAddr, hl]

theorem infoG {cs : Array Value} (h : cs.size = 3) : (Try.prog.info? 28).map (·.size) = some cs.size := by
  rw [h]
  kernel_rfl
theorem load_rowG {W : World} {g : Nat} {cs : Array Value} (hg : W.heap[g]? = some (.cells cs 28 (0, 0))) (hs : cs.size = 3) : (loadVar 28 ⟨g, 0, none⟩).run Try.prog W = .ok (.agg cs) W :=
  run_loadVar_row W g _ _ cs (0, 0) _ hg Try.underlying28 rfl (infoG hs)

theorem refNew_any (r : Int) (w : World) : Calls Try.prog 10 #[.int .i64 r] w fun e w' =>
    e = .returned (.agg #[.int .i64 (roomN r : Int), .slice none 0 0, .int .i64 0]) ∧ RowKit.Below w.heap.size w w' := by
  have hb : ∀ o, RowKit.Below w.heap.size w (w.alloc o) := fun o => (RowKit.Below.refl _ _).alloc (Nat.le_refl _) _
  by_cases hlo : r < 1
  · have HE : Hid ((roomN r : Int) = 1) := by show _ = _; unfold roomN; omega
    rw [HE.out]
    go_enter Try.func10, Try.ntmps10
    go_wp2
    exact bodyPost_ret (results_cell_row rfl _ _ _ _ _ _ _ rfl (heap_alloc_new _ _) Try.underlying28 rfl (by kernel_rfl)) rfl ⟨rfl, hb _⟩
  · by_cases hhi : 4096 < r
    · have HE : Hid ((roomN r : Int) = 4096) := by show _ = _; unfold roomN; omega
      rw [HE.out]
      go_enter Try.func10, Try.ntmps10
      go_wp2
      exact bodyPost_ret (results_cell_row rfl _ _ _ _ _ _ _ rfl (heap_alloc_new _ _) Try.underlying28 rfl (by kernel_rfl)) rfl ⟨rfl, hb _⟩
    · have HE : Hid ((roomN r : Int) = r) := by show _ = _; unfold roomN; omega
      rw [HE.out]
      go_enter Try.func10, Try.ntmps10
      go_wp2
      exact bodyPost_ret (results_cell_row rfl _ _ _ _ _ _ _ rfl (heap_alloc_new _ _) Try.underlying28 rfl (by kernel_rfl)) rfl ⟨rfl, hb _⟩

/-! ### The two boxes of a call: its own bag, and the answer -/
def zeroG : Array Value := #[.int .i64 0, .slice none 0 0, .int .i64 0]
def gCells (room : Nat) (v : Value) (lost : Nat) : Array Value := #[.int .i64 (room : Int), v, .int .i64 (lost : Int)]

structure GBox (w : World) (gs rs : Array Value) (W : World) : Prop where
  below : RowKit.Below w.heap.size w W
  box : W.heap[w.heap.size]? = some (.cells gs 28 (0, 0))
  res : W.heap[w.heap.size + 1]? = some (.cells rs 28 (0, 0))

theorem GBox.start {w W : World} {gs rs : Array Value} (h : (w.alloc (.cells gs 28)).alloc (.cells rs 28) = W) : GBox w gs rs W := by
  subst h
  refine ⟨((RowKit.Below.refl _ _).alloc (Nat.le_refl _) _).alloc (by simp) _, (heap_alloc_old _ _ (by simp)).trans (heap_alloc_new _ _), ?_⟩
  have := heap_alloc_new (w.alloc (.cells gs 28)) (.cells rs 28)
  simpa using this
theorem GBox.lt {w W : World} {gs rs : Array Value} (h : GBox w gs rs W) : w.heap.size + 2 ≤ W.heap.size := (Array.getElem?_eq_some_iff.1 h.res).1
theorem GBox.up {w W W' : World} {gs rs : Array Value} (h : GBox w gs rs W) (hb : RowKit.Below (w.heap.size + 2) W W') : GBox w gs rs W' :=
  ⟨h.below.trans (hb.mono (by omega)), (hb.block _ (by omega)).trans h.box, (hb.block _ (by omega)).trans h.res⟩
theorem GBox.on {w W W' : World} {gs rs : Array Value} (h : GBox w gs rs W) (hb : RowKit.Below W.heap.size W W') : GBox w gs rs W' := h.up (hb.mono h.lt)
theorem GBox.setBox {w W : World} {gs rs : Array Value} (h : GBox w gs rs W) (i : Nat) (u : Value) : GBox w (gs.setIfInBounds i u) rs (W.setCell ⟨w.heap.size, i, none⟩ u) :=
  ⟨h.below.setCell (p := ⟨w.heap.size, i, none⟩) (Nat.le_refl _) u, heap_setCell_same W _ i _ _ u h.box, (heap_setCell_other W ⟨w.heap.size, i, none⟩ (w.heap.size + 1) u (by simp)).trans h.res⟩
theorem GBox.setRes {w W : World} {gs rs : Array Value} (h : GBox w gs rs W) (i : Nat) (u : Value) : GBox w gs (rs.setIfInBounds i u) (W.setCell ⟨w.heap.size + 1, i, none⟩ u) :=
  ⟨h.below.setCell (p := ⟨w.heap.size + 1, i, none⟩) (Nat.le_succ _) u, (heap_setCell_other W ⟨w.heap.size + 1, i, none⟩ w.heap.size u (by simp)).trans h.box, heap_setCell_same W _ i _ _ u h.res⟩
theorem GBox.cell {w W : World} {gs rs : Array Value} (h : GBox w gs rs W) (i : Nat) : W.cell? ⟨w.heap.size, i, none⟩ = gs[i]? := cell_of_row W _ i _ _ _ h.box
theorem GBox.cellR {w W : World} {gs rs : Array Value} (h : GBox w gs rs W) (i : Nat) : W.cell? ⟨w.heap.size + 1, i, none⟩ = rs[i]? := cell_of_row W _ i _ _ _ h.res
theorem GBox.fr {w W : World} {gs rs : Array Value} (h : GBox w gs rs W) (i : Nat) : W.frozen? ⟨w.heap.size, i, none⟩ = false := frozen_of_row W _ i _ _ h.box
theorem GBox.frR {w W : World} {gs rs : Array Value} (h : GBox w gs rs W) (i : Nat) : W.frozen? ⟨w.heap.size + 1, i, none⟩ = false := frozen_of_row W _ i _ _ h.res

/-- The answer's list reads as gl', wherever the argument's read as gl, outside of blocks that were there. -/
def KeepsG (w : World) (A : Option Addr) (gl : List (List UInt8 × Bool)) (A' : Option Addr) (gl' : List (List UInt8 × Bool)) (w' : World) : Prop :=
  ∀ D : Nat → Prop, (∀ b, D b → b < w.heap.size) → LiesX w D A (flat encG gl) → LiesX w' D A' (flat encG gl')

/-- What a call answers of the document's bag: the bag behind it, and what else (xs). -/
def GGot (w : World) (A : Option Addr) (gl : List (List UInt8 × Bool)) (room : Nat) (gl' : List (List UInt8 × Bool)) (lost' : Nat) (xs : Array Value) (e : Ending) (w' : World) : Prop :=
  ∃ A' c', e = .returned (.tuple (#[.agg (gCells room (.slice A' gl'.length c') lost')] ++ xs)) ∧ gl'.length ≤ c' ∧ c' ≤ maxLen ∧ KeepsG w A gl A' gl' w' ∧ RowKit.Below w.heap.size w w'

theorem KeepsG.same {w w' : World} (A : Option Addr) (gl : List (List UInt8 × Bool)) (hb : RowKit.Below w.heap.size w w') : KeepsG w A gl A gl w' := fun _ _ h => h.kept (OnlyE.of_below hb)
theorem KeepsG.new {w w' : World} {A A' : Option Addr} {gl gl' : List (List UInt8 × Bool)} {base n c : Nat} (h : w'.ownsRow base 40 2 (.slice A' n c) n (flat encG gl')) (hb : w.heap.size ≤ base) : KeepsG w A gl A' gl' w' := fun D hD _ =>
  LiesX.of_own h fun b hb' hd => by
    have h1 := (h.lt b hb').1
    have h2 := hD b hd
    omega

theorem Try.infoT : (Try.prog.info? 40).map (fun i => (i.zero, i.size, i.bytes)) = some (some (.agg #[.string ⟨#[]⟩, .bool false]), 2, 24) := by kernel_rfl

/-- append(own, things...). -/
theorem gApp {W : World} {base n m c B : Nat} {v : Value} {xs : List Value} {A : Option Addr} {gl : List (List UInt8 × Bool)} (hown : W.ownsRow base 40 2 v n xs) (hl : gl.length = m) (hL : Lies W B A (flat encG gl)) (hb : base ≤ W.heap.size) (hnm : n + m ≤ 100000) :
    ∃ A' c' W', (Builtin.append_ #[26, 26] 26 #[v, .slice A m c]).run Try.prog W = .ok (.slice A' (n + m) c') W' ∧ W'.ownsRow base 40 2 (.slice A' (n + m) c') (n + m) (xs ++ flat encG gl) ∧
      W.grownBy W' v.ownBlock ∧ RowKit.Below base W W' ∧ n + m ≤ c' ∧ c' ≤ maxLen := by
  obtain ⟨i0, hi, hz0, hz1, hz2⟩ := info_parts Try.infoT
  obtain ⟨v', W', hrun, ho, hg, _⟩ := run_append_lstK (P := Try.prog) base 2 (by decide) 26 26 40 i0 (.agg #[.string ⟨#[]⟩, .bool false]) 24 Try.underlying26 hi hz0 hz1 hz2 rfl v n xs hown B A m c (flat encG gl)
    (by rw [flat_length encG_len, hl]) hL (flat_one encG_one _) (by unfold maxLen; omega) (by omega) hb
  obtain ⟨A', c', rfl, h1, h2⟩ := own_sliceK ho
  exact ⟨A', c', W', hrun, ho, hg, (RowKit.Below.refl _ _).grown hg hb (fun k e => (hown.lt k e).1), h1, h2⟩

end Go.Proofs.Ytjecphjdmjoeiaa
