/- One more frame in a window. -/
import Derived.Test.YtbkkpimhoeagdaaSlG
namespace Go.Proofs.Ytbkkpimhoeagdaa
open Go.RowKit Go.Sort

theorem Try.infoFrame : (Try.prog.info? 44).map (fun i => (i.zero, i.size, i.bytes)) = some (some (.agg zeroF), 16, 184) := by kernel_rfl

/-- append(frames, one). -/
theorem app_frame {W : World} {base n B m c : Nat} {v : Value} {xs : List Value} {A : Option Addr} {ys : List Pf} (hown : W.ownsRow base 44 16 v n xs) (hl : ys.length = m) (hL : Lies W B A (flat encPf ys)) (hb : base ≤ W.heap.size) (hn : n + m ≤ 10000) :
    ∃ A' c' W', (Builtin.append_ #[26, 26] 26 #[v, .slice A m c]).run Try.prog W = .ok (.slice A' (n + m) c') W' ∧ W'.ownsRow base 44 16 (.slice A' (n + m) c') (n + m) (xs ++ flat encPf ys) ∧
      W.grownBy W' v.ownBlock ∧ ((Value.slice A' (n + m) c').ownBlock = v.ownBlock ∨ (Value.slice A' (n + m) c').ownBlock = some W.heap.size) ∧ n + m ≤ c' ∧ c' ≤ maxLen := by
  obtain ⟨i0, hi, hz0, hz1, hz2⟩ := info_parts Try.infoFrame
  obtain ⟨v', W', hrun, ho, hg, hk⟩ := run_append_lstK (P := Try.prog) base 16 (by decide) 26 26 44 i0 (.agg zeroF) 184 Try.underlying26 hi hz0 hz1 hz2 rfl v n xs hown B A m c (flat encPf ys)
    (by rw [flat_length encPf_len, hl]) hL (flat_one encPf_one _) (by unfold maxLen; omega) (by omega) hb
  obtain ⟨A', c', rfl, h1, h2⟩ := own_sliceK ho
  exact ⟨A', c', W', hrun, ho, hg, hk, h1, h2⟩

theorem flat_single (x : Pf) : flat encPf [x] = x.cs.toList := by simp [flat, encPf]

section
variable {w : World} {base p : Nat} {T : Value} {width last : Nat} {l : List Pf} {D : Nat → Prop}

/-- What a window is behind one more frame. -/
def Pushed (w : World) (base p : Nat) (T : Value) (width last : Nat) (l : List Pf) (D : Nat → Prop) (x : Pf) (T' : Value) (w2 : World) : Prop :=
  WinAt (w2.setCell ⟨p, 0, none⟩ T') base p T' width (last + 1) (l ++ [x]) (fun k => D k ∨ T'.ownBlock = some k) ∧ OnlyE w (w2.setCell ⟨p, 0, none⟩ T') (WD p T) ∧ w2.cell? ⟨p, 0, none⟩ = some T ∧ w2.frozen? ⟨p, 0, none⟩ = false ∧ (∀ b, T'.ownBlock = some b → T.ownBlock = some b ∨ w.heap.size ≤ b)

set_option maxRecDepth 20000 in
theorem WinAt.push {w1 : World} (h : WinAt w base p T width last l D) (x : Pf) (ho : OnlyE w w1 (fun k => k = p)) (hbox : w1.heap[p]? = some (.cells #[T, .int .i64 (width : Int), .int .u64 ((last + 1 : Nat) : Int)] 92 (0, 0)))
    (hx : x.Own w1 w.heap.size) (hs : x.F.seq = last + 1) (hok : x.F.Ok) (hr : l.length < width) (hlow : last + 1 ≤ 1000000) :
    ∃ A' c' w2, (Builtin.append_ #[26, 26] 26 #[T, .slice (some ⟨w1.heap.size, 0, none⟩) 1 1]).run Try.prog (w1.alloc (.cells x.cs 44)) = .ok (.slice A' (l.length + 1) c') w2 ∧
      (w1.alloc (.cells x.cs 44)).grownBy w2 T.ownBlock ∧ Pushed w base p T width last l D x (.slice A' (l.length + 1) c') w2 := by
  have hlow1 := h.lo
  have hw2 := h.wid2
  have hsz := ho.size
  have hTp : T.ownBlock ≠ some p := fun e => h.ne_row e rfl
  have hbA : RowKit.Below w1.heap.size w1 (w1.alloc (.cells x.cs 44)) := (RowKit.Below.refl _ _).alloc (Nat.le_refl _) _
  have hr1 : w1.ownsRow base 44 16 T l.length (flat encPf l) := own_only h.row ho fun b hb e => hTp (e ▸ hb)
  have hrA := hr1.alloc (.cells x.cs 44)
  have hL := lies_new w1 x.cs 44
  rw [← flat_single] at hL
  obtain ⟨A', c', w2, hrun, hown, hg, hblk, -, -⟩ := app_frame (m := 1) (c := 1) hrA (List.length_singleton : [x].length = 1) hL (by simp; omega) (by omega)
  refine ⟨A', c', w2, hrun, hg, ?_⟩
  have hsA : (w1.alloc (.cells x.cs 44)).heap.size = w1.heap.size + 1 := by simp
  have hs2 := hg.size
  have hTlt : ∀ k, T.ownBlock = some k → k < w.heap.size := fun k hk => h.wlt (.inr hk)
  have hT' : ∀ b, (Value.slice A' (l.length + 1) c').ownBlock = some b → T.ownBlock = some b ∨ b = w1.heap.size + 1 := fun b hb => by
    rcases hblk with e | e
    · exact .inl (e ▸ hb)
    · right; rw [e, hsA] at hb; injection hb with hb; exact hb.symm
  -- only the box and the row have turned
  have hO2 : OnlyE w1 w2 (fun k => T.ownBlock = some k) := (OnlyE.of_below hbA).trans (OnlyE.of_grownO hg)
  have hOs : OnlyE w2 (w2.setCell ⟨p, 0, none⟩ (.slice A' (l.length + 1) c')) (fun k => k = p) := onlyE_set (D := fun k => k = p) rfl 0 _
  have hO1 : OnlyE w1 (w2.setCell ⟨p, 0, none⟩ (.slice A' (l.length + 1) c')) (WD p T) := (hO2.mono fun k hk => .inr hk).trans (hOs.mono fun k hk => .inl hk)
  have hO : OnlyE w (w2.setCell ⟨p, 0, none⟩ (.slice A' (l.length + 1) c')) (WD p T) := (ho.mono fun k hk => .inl hk).trans hO1
  have hp1 : p < w1.heap.size := Nat.lt_of_lt_of_le h.plt hsz
  have hbox2 : w2.heap[p]? = some (.cells #[T, .int .i64 (width : Int), .int .u64 ((last + 1 : Nat) : Int)] 92 (0, 0)) := (hO2.same p hp1 hTp).trans hbox
  refine ⟨?_, hO, cell_of_row w2 p 0 _ _ _ hbox2, frozen_of_row w2 p 0 _ _ hbox2, fun b hb => (hT' b hb).imp id fun e => by omega⟩
  exact
  { box := heap_setCell_same w2 p 0 _ _ _ hbox2
    row := by
      rw [List.length_append, flat_append]
      exact own_only hown hOs fun b hb e => by
        subst e
        rcases hT' _ hb with e | e
        · exact hTp e
        · omega
    frs := fun y hy => by
      rcases List.mem_append.1 hy with hy | hy
      · have h1 := (h.frs y hy).widen (D' := fun k => D k ∨ (Value.slice A' (l.length + 1) c').ownBlock = some k) fun k hk => hk.elim .inr fun hk => (hT' k hk).elim (fun e => .inr (h.dt e)) fun e => .inl (by omega)
        exact h1.kept (hO.mono fun k hk => .inl (h.dw k hk))
      · simp only [List.mem_cons, List.not_mem_nil, or_false] at hy
        subst hy
        have h1 : y.X w1 (fun k => D k ∨ (Value.slice A' (l.length + 1) c').ownBlock = some k) := hx.X fun k hk => hk.elim (fun hk => .inl (h.din k hk).2) fun hk => (hT' k hk).elim (fun e => .inl (hTlt k e)) fun e => .inr (by omega)
        exact h1.kept (hO1.mono fun k hk => .inl (h.dw k hk))
    oks := fun y hy => by
      rcases List.mem_append.1 hy with hy | hy
      · exact h.oks y hy
      · simp only [List.mem_cons, List.not_mem_nil, or_false] at hy
        subst hy
        exact hok
    seqs := fun i hi => by
      rw [List.length_append, List.length_singleton] at hi ⊢
      by_cases hl : i < l.length
      · rw [List.getElem_append_left hl]
        have := h.seqs i hl
        omega
      · rw [List.getElem_append_right (by omega)]
        simp only [List.getElem_singleton, hs]
        omega
    dw := fun b hb => hb.elim (fun e => .inl (e ▸ h.dp)) .inr
    din := fun b hb => by
      simp only [World.setCell, Array.size_modify]
      rcases hb with hb | hb
      · have := h.din b hb; omega
      · exact hown.lt b hb
    fit := by rw [List.length_append]; exact hr
    fit2 := by rw [List.length_append]; have := h.fit2; simp; omega
    wid1 := h.wid1, wid2 := h.wid2, low := hlow }
end

end Go.Proofs.Ytbkkpimhoeagdaa
