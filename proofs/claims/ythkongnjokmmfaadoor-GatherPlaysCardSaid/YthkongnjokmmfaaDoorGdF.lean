/- Stage 13: the document's without (the door seat alone). -/
import Derived.Test.YthkongnjokmmfaaDoorGdE
import Derived.Test.YthkongnjokmmfaaDoorGdB
set_option maxRecDepth 20000
namespace Go.Proofs.YthkongnjokmmfaaDoor
open Go.RowKit Go.Sort

theorem Tryd.infoRp : (Tryd.prog.info? 71).map (fun i => (i.zero, i.size, i.bytes)) = some (some (.agg #[.int .u8 0, .int .u64 0, .int .i64 0, .slice none 0 0, .slice none 0 0]), 5, 72) := by kernel_rfl
theorem app_rp {W : World} {base n B m c : Nat} {v : Value} {xs : List Value} {A : Option Addr} {ys : List Rp} (hown : W.ownsRow base 71 5 v n xs) (hl : ys.length = m) (hL : Lies W B A (flat encRp ys)) (hb : base ≤ W.heap.size) (hn : n + m ≤ 10000000) :
    ∃ A' c' W', (Builtin.append_ #[29, 29] 29 #[v, .slice A m c]).run Tryd.prog W = .ok (.slice A' (n + m) c') W' ∧ W'.ownsRow base 71 5 (.slice A' (n + m) c') (n + m) (xs ++ flat encRp ys) ∧
      W.grownBy W' v.ownBlock ∧ ((Value.slice A' (n + m) c').ownBlock = v.ownBlock ∨ (Value.slice A' (n + m) c').ownBlock = some W.heap.size) := by
  obtain ⟨i0, hi, hz0, hz1, hz2⟩ := info_parts Tryd.infoRp
  obtain ⟨v', W', hrun, ho, hg, hk⟩ := run_append_lstK (P := Tryd.prog) base 5 (by decide) 29 29 71 i0 (.agg #[.int .u8 0, .int .u64 0, .int .i64 0, .slice none 0 0, .slice none 0 0]) 72 Tryd.underlying29 hi hz0 hz1 hz2 rfl v n xs hown B A m c (flat encRp ys)
    (by rw [flat_length encRp_len, hl]) hL (flat_one encRp_one _) (by unfold maxLen; omega) (by omega) hb
  obtain ⟨A', c', rfl, h1, h2⟩ := own_sliceK ho
  exact ⟨A', c', W', hrun, ho, hg, hk⟩

section
variable {ops : Array Oper} {rest : List Oper} {dst : Option Tmp} {ty : TypeId} {pos : String} {aft : Array Edge} {a : Act} {w : World} {Q : Exit → Act → World → Prop} {cs : Array Value}
theorem load_Rg (x : Operand) {g : Nat} (hx : a.eval x = .pointer (some ⟨g, 0, none⟩)) (hg : w.heap[g]? = some (.cells cs 32 (0, 0))) (hs : cs.size = 12)
    (h : wpList Tryd.prog ops Q rest (a.put dst (.agg cs)) w) : wpList Tryd.prog ops Q (⟨dst, .load 32 x, ty, pos, aft, none⟩ :: rest) a w :=
  wpList_load_row rfl _ x rfl g hx _ cs (0, 0) _ hg Tryd.underlying32 rfl (infoRg hs) h
theorem store_Rg (x y : Operand) {g : Nat} {old : Array Value} (hx : a.eval x = .pointer (some ⟨g, 0, none⟩)) (hy : a.eval y = .agg cs) (hg : w.heap[g]? = some (.cells old 32 (0, 0))) (ho : old.size = 12) (hs : cs.size = 12) (h1 : cs.all (·.oneCell') = true)
    (h : wpList Tryd.prog ops Q rest (a.put dst undef) (w.setRow g cs)) : wpList Tryd.prog ops Q (⟨dst, .store 32 x y, ty, pos, aft, none⟩ :: rest) a w :=
  wpList_store_row rfl _ x y rfl g cs hx hy _ old hg (infoRg hs) (by omega) h1 h
end
theorem rg_size (v : Value) (m : Gm) : (rgCells v m).size = 12 := rfl
theorem rg_one (A : Option Addr) (n c : Nat) (m : Gm) : (rgCells (.slice A n c) m).all (·.oneCell') = true := by
  unfold rgCells
  simp only [List.all_toArray, List.all_cons, List.all_nil, Value.oneCell', Bool.and_true]
theorem rg_set (v v' : Value) (m m' : Gm) (h : m' = { m with l := m'.l }) : (rgCells v m).setIfInBounds 3 v' = rgCells v' m' := by
  rw [h]
  rfl
theorem eraseIdx_split : ∀ (l : List Rp) (i : Nat), l.eraseIdx i = l.take i ++ l.drop (i + 1)
  | [], i => by simp
  | _ :: _, 0 => rfl
  | x :: r, i + 1 => by
    rw [List.eraseIdx_cons_succ, List.take_succ_cons, List.drop_succ_cons, List.cons_append, eraseIdx_split r i]
theorem map_eraseR : ∀ (l : List Rp) (i : Nat), (l.eraseIdx i).map Rp.x = (l.map Rp.x).eraseIdx i
  | [], _ => rfl
  | _ :: _, 0 => rfl
  | z :: r, i + 1 => by
    rw [List.eraseIdx_cons_succ, List.map_cons, List.map_cons, List.eraseIdx_cons_succ, map_eraseR r i]

section
variable {w : World} {D : Nat → Prop} {A : Option Addr} {n c : Nat} {R : List Rp} {m : Gm}
/-- The two appends of without, in every world that has only grown. -/
theorem RgAt.cut2 (h : RgAt w D A n c R m) (hn : n ≤ 1000000) (hD : ∀ k, D k → k < w.heap.size) {i : Nat} (hi : i < n) {V : World} (hV : RowKit.Below w.heap.size w V) {b off : Nat} (hA : A = some ⟨b, off, none⟩) :
    ∃ A1 c1 W1, (Builtin.append_ #[29, 29] 29 #[.slice (some ⟨V.heap.size, 0, none⟩) 0 0, .slice A i c]).run Tryd.prog (V.alloc (.cells #[] 71)) = .ok (.slice A1 i c1) W1 ∧ RowKit.Below V.heap.size V W1 ∧
      ∀ (a : Addr) (c' : Nat), (i + 1 < n → a = ⟨b, off + (i + 1) * 5, none⟩) → ∃ A2 c2 W2, (Builtin.append_ #[29, 29] 29 #[.slice A1 i c1, .slice (some a) (n - (i + 1)) c']).run Tryd.prog W1 = .ok (.slice A2 (n - 1) c2) W2 ∧ RowKit.Below V.heap.size V W2 ∧
        RgAt W2 D A2 (n - 1) c2 (R.eraseIdx i) { m with l := m.l.eraseIdx i } := by
  have hlen := h.len
  have hVs := hV.size
  have hR := h.on hV
  have hown : (V.alloc (.cells #[] 71)).ownsRow V.heap.size 71 5 (.slice (some ⟨V.heap.size, 0, none⟩) 0 0) 0 [] := World.ownsRow_lit V #[] 0 (Nat.le_refl _) (Nat.zero_le _) rfl
  have hbA : RowKit.Below V.heap.size V (V.alloc (.cells #[] 71)) := (RowKit.Below.refl _ _).alloc (Nat.le_refl _) _
  have hL1 : Lies (V.alloc (.cells #[] 71)) (V.alloc (.cells #[] 71)).heap.size A (flat encRp (R.take i)) := by
    have h0 := (hR.on hbA).lies.lies
    rw [← List.take_append_drop i R, flat_append] at h0
    intro hne
    obtain ⟨b2, o2, e, hb2, hc2⟩ := h0 (fun e => hne (List.append_eq_nil_iff.1 e).1)
    exact ⟨b2, o2, e, hb2, fun j u hu => hc2 j u (by rw [List.getElem?_append_left (List.getElem?_eq_some_iff.1 hu).1]; exact hu)⟩
  obtain ⟨A1, c1, W1, hrun1, hown1, hg1, -⟩ := app_rp (ys := R.take i) (m := i) (c := c) hown (by rw [List.length_take]; omega) hL1 (by simp) (by omega)
  rw [Nat.zero_add] at hrun1 hown1
  rw [List.nil_append] at hown1
  have hb1 : RowKit.Below V.heap.size V W1 := hbA.grown hg1 (by simp) fun q hq => by simp [Value.ownBlock] at hq; omega
  refine ⟨A1, c1, W1, hrun1, hb1, fun a c' ha => ?_⟩
  have hL2 : Lies W1 W1.heap.size (some a) (flat encRp (R.drop (i + 1))) := by
    intro hne
    have hlt : i + 1 < n := by
      rcases Nat.lt_or_ge (i + 1) n with h | h
      · exact h
      · rw [List.drop_eq_nil_of_le (by omega)] at hne
        exact absurd rfl hne
    have h0 := (hR.on hb1).lies.lies
    have hRne : flat encRp R ≠ [] := by
      intro e
      have := flat_length encRp_len R
      rw [e] at this
      simp at this
      omega
    obtain ⟨b2, o2, e, hb2, hc2⟩ := h0 hRne
    rw [hA] at e
    injection e with e
    injection e with e1 e2
    subst e1 e2
    refine ⟨b, off + (i + 1) * 5, by rw [ha hlt], hb2, fun j u hu => ?_⟩
    rw [← flat_drop encRp_len R (i + 1) (by omega), List.getElem?_drop] at hu
    have := hc2 _ u hu
    rwa [← Nat.add_assoc] at this
  obtain ⟨A2, c2, W2, hrun2, hown2, hg2, -⟩ := app_rp (ys := R.drop (i + 1)) (m := n - (i + 1)) (c := c') hown1 (by rw [List.length_drop]; omega) hL2 (by have := hb1.size; omega) (by omega)
  rw [show i + (n - (i + 1)) = n - 1 by omega] at hrun2 hown2
  rw [← flat_append, ← eraseIdx_split] at hown2
  have hb2 : RowKit.Below V.heap.size V W2 := hb1.grown hg2 hb1.size fun q hq => (hown1.lt q hq).1
  have hR2 := h.on (hV.trans (hb2.mono hVs))
  obtain ⟨A9, c9, e9, k1, k2⟩ := own_sliceK hown2
  injection e9 with e1 _ e3
  subst e1 e3
  refine ⟨A2, c2, W2, hrun2, hb2, ⟨by rw [List.length_eraseIdx, if_pos (by omega)]; omega, k1, k2, LiesX.of_own hown2 fun k hk => by have := hD k hk; omega, fun z hz => hR2.has z (List.mem_of_mem_eraseIdx hz), fun z hz => hR2.cut z (List.mem_of_mem_eraseIdx hz), ?_⟩⟩
  show m.l.eraseIdx i = _
  rw [map_eraseR, ← h.ml]
end

end Go.Proofs.YthkongnjokmmfaaDoor
