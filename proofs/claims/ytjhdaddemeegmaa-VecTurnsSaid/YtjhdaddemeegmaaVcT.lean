/- Lists of vectors that are put together: append of rows, by a list of operations and inside a region that draws. -/
import Derived.Test.YtjhdaddemeegmaaVcN
import Derived.Test.YtjhdaddemeegmaaVcG
import Derived.Test.YtjhdaddemeegmaaHeld
namespace Go.Proofs.Ytjhdaddemeegmaa
open Go.RowKit

theorem rows_one {w : World} {B : Nat} {vs : List Value} {ls : List (List Nat)} (h : VecRows w B vs ls) : ∀ u ∈ vs, u.oneCell' = true := by
  intro u hu
  obtain ⟨i, hi, rfl⟩ := List.getElem_of_mem hu
  obtain ⟨A, n, c, e, _⟩ := h.2 i hi (by rw [← h.1]; exact hi)
  rw [e]
  rfl

/-- append(rows, more...) -/
theorem wpList_rows {w : World} {ops : Array Oper} {rest : List Oper} {o : Oper} {a : Act} {Q : Exit → Act → World → Prop} (hgd : o.guard = none) (s x : Operand)
    (ho : o.op = .call { callee := .builtin .append, args := #[s, x], argTypes := #[30, 30] }) (base n : Nat) (xs : List Value) (v : Value) (hs : a.eval s = v) (hown : w.ownsRow base 22 1 v n xs)
    (A : Option Addr) (m c B : Nat) (news : List Value) (hx : a.eval x = .slice A m c) (hl : news.length = m) (hL : Lies w B A news) (h1 : ∀ u ∈ news, u.oneCell' = true) (hn : n + m ≤ 1000) (hbase : base ≤ w.heap.size)
    (h : ∀ v' w', w'.ownsRow base 22 1 v' (n + m) (xs ++ news) → Below base w w' → wpList Try.prog ops Q rest (a.put o.dst v') w') :
    wpList Try.prog ops Q (o :: rest) a w := by
  obtain ⟨i0, hi, hz0, hz1, hz2⟩ := info_parts Try.infoV
  refine wpList_append_lst hgd s x 30 ho base 22 i0 (.slice none 0 0) 24 Try.underlying30 hi hz0 hz1 hz2 rfl v n xs hs hown B A m c news hx hl hL h1 (by unfold maxLen; omega) (by omega) hbase ?_
  intro v' w' hown' _ hb' _
  exact h v' w' hown' hb'

/-- append([][]uint64{}, rows...) -/
theorem wpList_rowsNew {wb : World} {ops : Array Oper} {rest : List Oper} {o : Oper} {a : Act} {Q : Exit → Act → World → Prop} (hgd : o.guard = none) (s x : Operand)
    (ho : o.op = .call { callee := .builtin .append, args := #[s, x], argTypes := #[30, 30] }) (hs : a.eval s = .slice (some ⟨wb.heap.size, 0, none⟩) 0 0)
    (A : Option Addr) (m c B : Nat) (news : List Value) (hx : a.eval x = .slice A m c) (hl : news.length = m) (hL : Lies wb B A news) (hB : B ≤ wb.heap.size) (h1 : ∀ u ∈ news, u.oneCell' = true) (hn : m ≤ 1000)
    (h : ∀ v' w', w'.ownsRow wb.heap.size 22 1 v' m news → Below wb.heap.size wb w' → wpList Try.prog ops Q rest (a.put o.dst v') w') :
    wpList Try.prog ops Q (o :: rest) a (wb.alloc (.cells #[] 22)) := by
  have hal : Below wb.heap.size wb (wb.alloc (.cells #[] 22)) := (Below.refl _ _).alloc (Nat.le_refl _) _
  refine wpList_rows hgd s x ho wb.heap.size 0 [] _ hs (World.ownsRow_lit wb #[] 0 (Nat.le_refl _) (Nat.zero_le _) rfl) A m c B news hx hl (hL.below (hal.mono hB)) h1 (by omega) (by simp) ?_
  intro v' w' hown' hb'
  refine h v' w' ?_ (hal.trans hb')
  simpa using hown'

/-- The same, as it runs: a list of one row, and more. -/
theorem run_rows {w : World} (base n : Nat) (xs : List Value) (v : Value) (hown : w.ownsRow base 22 1 v n xs)
    (A : Option Addr) (m c B : Nat) (news : List Value) (hl : news.length = m) (hL : Lies w B A news) (h1 : ∀ u ∈ news, u.oneCell' = true) (hn : n + m ≤ 1000) (hbase : base ≤ w.heap.size) :
    ∃ v' w', (Builtin.append_ #[30, 30] 30 #[v, .slice A m c]).run Try.prog w = .ok v' w' ∧ w'.ownsRow base 22 1 v' (n + m) (xs ++ news) ∧ Below base w w' := by
  obtain ⟨i0, hi, hz0, hz1, hz2⟩ := info_parts Try.infoV
  obtain ⟨v', w', hrun, h2, h3, _⟩ := run_append_lst (P := Try.prog) (w := w) base 30 30 22 i0 (.slice none 0 0) 24 Try.underlying30 hi hz0 hz1 hz2 rfl v n xs hown B A m c news hl hL h1 (by unfold maxLen; omega) (by omega) hbase
  exact ⟨v', w', hrun, h2, (Below.refl base w).grown h3 hbase (fun k e => (hown.lt k e).1)⟩

theorem wp_append_step {P : Program} {o : Oper} {a : Act} {w w' : World} {v vx v' : Value} {ys : Nat → Option Bool} {K : Act → World → Prop} {Q : Exit → Act → World → Prop} {s x : Operand} {t : TypeId} (hgd : o.guard = none) (ho : o.op = .call { callee := .builtin .append, args := #[s, x], argTypes := #[t, t] })
    (hs : a.eval s = v) (hx : a.eval x = vx) (hrun : (Builtin.append_ #[t, t] o.type #[v, vx]).run P w = .ok v' w') (hk : K (a.put o.dst v') w') :
    if Region.wanted o ys = true then Oper.wp P o a w K Q else K (a.put o.dst undef) w := by
  rw [if_pos (by simp [Region.wanted, hgd])]
  unfold Oper.wp execOp
  simp only [ho, resolve, invoke, builtin, Sem.run_bind, Sem.run_pure, Result.andThen_ok, List.map_toArray, List.map_cons, List.map_nil, hs, hx, hrun]
  exact hk

end Go.Proofs.Ytjhdaddemeegmaa
