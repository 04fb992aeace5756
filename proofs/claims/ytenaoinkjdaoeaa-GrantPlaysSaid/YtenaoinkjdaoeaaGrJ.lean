/- Stage 17: the document's with. -/
import Derived.Test.YtenaoinkjdaoeaaGrI
set_option maxRecDepth 20000
namespace Go.Proofs.Ytenaoinkjdaoeaa
open Go.RowKit Go.Sort

/-- The three boxes of with. -/
structure WBox (w : World) (gs xs rs : Array Value) (W : World) : Prop where
  below : RowKit.Below w.heap.size w W
  g : W.heap[w.heap.size]? = some (.cells gs 29 (0, 0))
  x : W.heap[w.heap.size + 1]? = some (.cells xs 40 (0, 0))
  r : W.heap[w.heap.size + 2]? = some (.cells rs 29 (0, 0))
section
variable {w W W' : World} {gs xs rs : Array Value}
theorem WBox.start (h : ((w.alloc (.cells gs 29)).alloc (.cells xs 40)).alloc (.cells rs 29) = W) : WBox w gs xs rs W := by
  obtain ⟨h1, h2, h3⟩ := alloc2_blocks w (.cells gs 29) (.cells xs 40) rfl
  have hb := alloc_below ((w.alloc (.cells gs 29)).alloc (.cells xs 40)) (.cells rs 29)
  subst h
  refine ⟨h3.trans (hb.mono h3.size), (hb.block _ (by simp; omega)).trans h1, (hb.block _ (by simp)).trans h2, ?_⟩
  have := heap_alloc_new ((w.alloc (.cells gs 29)).alloc (.cells xs 40)) (.cells rs 29 (0, 0))
  simpa using this
theorem WBox.lt (h : WBox w gs xs rs W) : w.heap.size + 3 ≤ W.heap.size := (Array.getElem?_eq_some_iff.1 h.r).1
theorem WBox.up (h : WBox w gs xs rs W) (hb : RowKit.Below (w.heap.size + 3) W W') : WBox w gs xs rs W' :=
  ⟨h.below.trans (hb.mono (by omega)), (hb.block _ (by omega)).trans h.g, (hb.block _ (by omega)).trans h.x, (hb.block _ (by omega)).trans h.r⟩
theorem WBox.on (h : WBox w gs xs rs W) (hb : RowKit.Below W.heap.size W W') : WBox w gs xs rs W' := h.up (hb.mono h.lt)
theorem WBox.setG (h : WBox w gs xs rs W) (i : Nat) (u : Value) : WBox w (gs.setIfInBounds i u) xs rs (W.setCell ⟨w.heap.size, i, none⟩ u) :=
  ⟨h.below.setCell (p := ⟨w.heap.size, i, none⟩) (Nat.le_refl _) u, heap_setCell_same W _ i _ _ u h.g, (heap_setCell_other W ⟨w.heap.size, i, none⟩ (w.heap.size + 1) u (by simp)).trans h.x, (heap_setCell_other W ⟨w.heap.size, i, none⟩ (w.heap.size + 2) u (by simp)).trans h.r⟩
theorem WBox.setR (h : WBox w gs xs rs W) (i : Nat) (u : Value) : WBox w gs xs (rs.setIfInBounds i u) (W.setCell ⟨w.heap.size + 2, i, none⟩ u) :=
  ⟨h.below.setCell (p := ⟨w.heap.size + 2, i, none⟩) (by show w.heap.size ≤ w.heap.size + 2; omega) u, (heap_setCell_other W ⟨w.heap.size + 2, i, none⟩ w.heap.size u (by simp)).trans h.g, (heap_setCell_other W ⟨w.heap.size + 2, i, none⟩ (w.heap.size + 1) u (by simp)).trans h.x, heap_setCell_same W _ i _ _ u h.r⟩
theorem WBox.cellG (h : WBox w gs xs rs W) (i : Nat) : W.cell? ⟨w.heap.size, i, none⟩ = gs[i]? := cell_of_row W _ i _ _ _ h.g
theorem WBox.cellX (h : WBox w gs xs rs W) (i : Nat) : W.cell? ⟨w.heap.size + 1, i, none⟩ = xs[i]? := cell_of_row W _ i _ _ _ h.x
theorem WBox.cellR (h : WBox w gs xs rs W) (i : Nat) : W.cell? ⟨w.heap.size + 2, i, none⟩ = rs[i]? := cell_of_row W _ i _ _ _ h.r
theorem WBox.frG (h : WBox w gs xs rs W) (i : Nat) : W.frozen? ⟨w.heap.size, i, none⟩ = false := frozen_of_row W _ i _ _ h.g
theorem WBox.frR (h : WBox w gs xs rs W) (i : Nat) : W.frozen? ⟨w.heap.size + 2, i, none⟩ = false := frozen_of_row W _ i _ _ h.r

/-- append([]X{}, l...) beside the boxes. -/
theorem wpList_anewX (hW : WBox w gs xs rs W) {ops : Array Oper} {rest : List Oper} {o : Oper} {a : Act} {Q : Exit → Act → World → Prop} (hgd : o.guard = none) (s x : Operand)
    (ho : o.op = .call { callee := .builtin .append, args := #[s, x], argTypes := #[27, 27] })
    (hs : a.eval s = .slice (some ⟨W.heap.size, 0, none⟩) 0 0) (A : Option Addr) (n c : Nat) (l : List Wd) (hx : a.eval x = .slice A n c) (hl : l.length = n) (hn : n ≤ 64) (hp : 0 < n) (hL : Lies w w.heap.size A (flat encW l))
    (h : ∀ z c' w', WBox w gs xs rs w' → w'.ownsRow (w.heap.size + 3) 40 2 (.slice (some ⟨z, 0, none⟩) n c') n (flat encW l) → n ≤ c' → c' ≤ maxLen → wpList Try.prog ops Q rest (a.put o.dst (.slice (some ⟨z, 0, none⟩) n c')) w') :
    wpList Try.prog ops Q (o :: rest) a (W.alloc (.cells #[] 40)) := by
  obtain ⟨i0, hi, hz0, hz1, hz2⟩ := info_parts Try.infoX
  have hlt := hW.lt
  have hal := alloc_below W (.cells #[] 40)
  refine wpList_append_lstK hgd s x 27 ho (w.heap.size + 3) 2 (by decide) 40 i0 (.agg #[.int .u64 0, .bool false]) 16 Try.underlying27 hi hz0 hz1 hz2 rfl _ 0 [] hs (World.ownsRow_lit W #[] 0 hlt (Nat.zero_le _) rfl) w.heap.size A n c (flat encW l) hx (by rw [flat_length encW_len, hl]) ((hL.below hW.below).below (hal.mono (by omega))) (flat_one encW_one l) (by unfold maxLen; omega) (by omega) (by simp; omega) ?_
  intro v' w' hown' _ hb' _
  rw [Nat.zero_add, List.nil_append] at hown'
  obtain ⟨z, cap, rfl, -⟩ := hown'.form hp
  obtain ⟨A', c', e, h1, h2⟩ := own_sliceK hown'
  injection e with e1 e2 e3
  subst e1 e3
  exact h z cap w' ((hW.on hal).up hb') hown' h1 h2
end

theorem set_both {l : List Wd} {k : Nat} (hk : k < l.length) (t : Nat) (h : Bool) : ((flat encW l).set (k * 2) (.int .u64 (t : Int))).set (k * 2 + 1) (.bool h) = flat encW (l.set k ⟨t, h⟩) := by
  rw [set_t hk, set_h (by simpa using hk), wat_set hk, if_pos rfl, List.set_set]

/-- What with, and the document's Tell and Gone, answer: grants, a row of these. -/
def Dgot (w : World) (A : Option Addr) (l l' : List Wd) (A' : Option Addr) (c' : Nat) (w' : World) : Prop :=
  l'.length ≤ c' ∧ c' ≤ maxLen ∧ RowKit.Below w.heap.size w w' ∧ ∀ D, (∀ b, D b → b < w.heap.size) → LiesX w D A (flat encW l) → LiesX w' D A' (flat encW l')

set_option maxHeartbeats 1600000 in
theorem refWith_any (A : Option Addr) (n c me k t : Nat) (h : Bool) (l : List Wd) (w : World) (hl : l.length = n) (hn : n ≤ 64) (hk : k < n) (hL : Lies w w.heap.size A (flat encW l)) :
    Calls Try.prog 20 #[.agg (dgc (.slice A n c) me), .int .i64 (k : Int), .agg #[.int .u64 (t : Int), .bool h]] w fun e w' =>
      ∃ A' c', e = .returned (.agg (dgc (.slice A' n c') me)) ∧ Hid (Dgot w A l (l.set k ⟨t, h⟩) A' c' w') := by
  have HL := Lib.hid hl
  have HK := Lib.hid hL
  have hpos : 0 < n := by omega
  clear hl hL
  unfold dgc
  go_enter Try.func20, Try.ntmps20
  go_upto_region 1 with fail
  generalize hw0 : World.alloc (World.alloc (World.alloc w _) _) _ = w0
  have HW := Lib.hid (WBox.start hw0)
  have z0 : w0.cell? ⟨w.heap.size, 0, none⟩ = some (.slice A n c) := HW.out.cellG 0
  have hsz : w.heap.size < w0.heap.size := by have := HW.out.lt; omega
  clear hw0
  go_wp2_with (at_builtin; refine wpList_anewX HW.out rfl (.tmp 8) (.tmp 10) rfl rfl A n c l rfl HL.out hn hpos HK.out ?_)
  intro z c' w1 hW1 ho1 hc1 hc2
  have HO1 := Lib.hid ho1
  have HW1 := Lib.hid hW1
  have y0 : w1.cell? ⟨z, k * 2, none⟩ = some (.int .u64 ((wat l k).t : Int)) := by rw [ho1.cellAt _ (by omega)]; exact wd_t (by rw [HL.out]; exact hk)
  have y1 : w1.cell? ⟨z, k * 2 + 1, none⟩ = some (.bool (wat l k).h) := by rw [ho1.cellAt _ (by omega)]; exact wd_h (by rw [HL.out]; exact hk)
  have yf0 := ho1.frozenAt (k * 2)
  have yf1 := ho1.frozenAt (k * 2 + 1)
  have x0 : w1.cell? ⟨w.heap.size + 1, 0, none⟩ = some (.int .u64 (t : Int)) := hW1.cellX 0
  have x1 : w1.cell? ⟨w.heap.size + 1, 1, none⟩ = some (.bool h) := hW1.cellX 1
  have hz := (ho1.lt z rfl).1
  clear HW z0 hW1 ho1
  go_upto_region 3 with fail
  have hO : OnlyE w1 ((w1.setCell ⟨z, k * 2, none⟩ (.int .u64 (t : Int))).setCell ⟨z, k * 2 + 1, none⟩ (.bool h)) (fun b => b = z) := (onlyE_set (D := fun b => b = z) rfl _ _).trans (onlyE_set (D := fun b => b = z) rfl _ _)
  have HO2 : Hid (((w1.setCell ⟨z, k * 2, none⟩ (.int .u64 (t : Int))).setCell ⟨z, k * 2 + 1, none⟩ (.bool h)).ownsRow (w.heap.size + 3) 40 2 (.slice (some ⟨z, 0, none⟩) n c') n (flat encW (l.set k ⟨t, h⟩))) := by
    have := ((HO1.out.stored (k * 2) (.int .u64 (t : Int))).1.stored (k * 2 + 1) (.bool h)).1
    rwa [set_both (by rw [HL.out]; exact hk)] at this
  have HW2 := Lib.hid (HW1.out.up (hO.below (fun b hb => by subst hb; exact hz) HW1.out.lt))
  generalize World.setCell (w1.setCell _ _) _ _ = w2 at HO2 HW2 ⊢
  have g0 : w2.cell? ⟨w.heap.size, 0, none⟩ = some (.slice A n c) := HW2.out.cellG 0
  have g1 : w2.cell? ⟨w.heap.size, 1, none⟩ = some (.int .i64 (me : Int)) := HW2.out.cellG 1
  have gf := HW2.out.frG 0
  have r0 : w2.cell? ⟨w.heap.size + 1 + 1, 0, none⟩ = some (.slice none 0 0) := HW2.out.cellR 0
  have r1 : w2.cell? ⟨w.heap.size + 1 + 1, 1, none⟩ = some (.int .i64 0) := HW2.out.cellR 1
  have rf0 : w2.frozen? ⟨w.heap.size + 1 + 1, 0, none⟩ = false := HW2.out.frR 0
  have rf1 : w2.frozen? ⟨w.heap.size + 1 + 1, 1, none⟩ = false := HW2.out.frR 1
  clear hO HO1 HW1 y0 y1 yf0 yf1 x0 x1
  go_wp2
  have hW3 : WBox w (dgc (.slice (some ⟨z, 0, none⟩) n c') me) #[.int .u64 (t : Int), .bool h] (dgc (.slice (some ⟨z, 0, none⟩) n c') me) (((w2.setCell ⟨w.heap.size, 0, none⟩ (.slice (some ⟨z, 0, none⟩) n c')).setCell ⟨w.heap.size + 1 + 1, 0, none⟩ (.slice (some ⟨z, 0, none⟩) n c')).setCell ⟨w.heap.size + 1 + 1, 1, none⟩ (.int .i64 (me : Int))) := ((HW2.out.setG 0 _).setR 0 _).setR 1 _
  have hO : OnlyE w2 (((w2.setCell ⟨w.heap.size, 0, none⟩ (.slice (some ⟨z, 0, none⟩) n c')).setCell ⟨w.heap.size + 1 + 1, 0, none⟩ (.slice (some ⟨z, 0, none⟩) n c')).setCell ⟨w.heap.size + 1 + 1, 1, none⟩ (.int .i64 (me : Int))) (fun b => b < w.heap.size + 3) :=
    ((onlyE_set (D := fun b => b < w.heap.size + 3) (by omega) _ _).trans (onlyE_set (D := fun b => b < w.heap.size + 3) (by omega) _ _)).trans (onlyE_set (D := fun b => b < w.heap.size + 3) (by omega) _ _)
  refine bodyPost_ret (results_cell_row rfl _ _ _ _ _ _ _ rfl hW3.r Try.underlying29 rfl (by kernel_rfl)) rfl ?_
  refine ⟨_, c', rfl, by rw [List.length_set, HL.out]; exact hc1, hc2, hW3.below, fun D hD _ => ?_⟩
  have hown := own_only HO2.out hO fun b hb e => by have := (HO2.out.lt b hb).1; omega
  exact LiesX.of_own hown fun b hb e => by have h1 := (hown.lt b hb).1; have h2 := hD b e; omega

end Go.Proofs.Ytenaoinkjdaoeaa
