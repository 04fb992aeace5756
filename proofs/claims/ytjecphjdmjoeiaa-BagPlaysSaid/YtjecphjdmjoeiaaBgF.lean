/- One more thing in a bag. -/
import Derived.Test.YtjecphjdmjoeiaaBgE
namespace Go.Proofs.Ytjecphjdmjoeiaa
open Go.RowKit Go.Sort

/-- A slice reads as these cells, in a block that is not among D (whatever its room is). -/
def LiesX (w : World) (D : Nat → Prop) (A : Option Addr) (xs : List Value) : Prop := xs ≠ [] → ∃ b off, A = some ⟨b, off, none⟩ ∧ b < w.heap.size ∧ ¬ D b ∧ ∀ i u, xs[i]? = some u → w.cell? ⟨b, off + i, none⟩ = some u
theorem LiesX.lies {w : World} {D : Nat → Prop} {A : Option Addr} {xs : List Value} (h : LiesX w D A xs) : Lies w w.heap.size A xs := fun hn => by
  obtain ⟨b, off, e, h1, _, h2⟩ := h hn
  exact ⟨b, off, e, h1, h2⟩
theorem LiesX.nil {w : World} {D : Nat → Prop} {A : Option Addr} : LiesX w D A [] := fun h => absurd rfl h
theorem LiesX.kept {w w' : World} {D : Nat → Prop} {A : Option Addr} {xs : List Value} (h : LiesX w D A xs) (ho : OnlyE w w' D) : LiesX w' D A xs := fun hn => by
  obtain ⟨b, off, e, h1, hd, h2⟩ := h hn
  refine ⟨b, off, e, Nat.lt_of_lt_of_le h1 ho.1, hd, fun i u hu => ?_⟩
  rw [World.cell?_of_block (w := w) (ho.2 b h1 hd)]
  exact h2 i u hu
theorem LiesX.widen {w : World} {D D' : Nat → Prop} {A : Option Addr} {xs : List Value} (h : LiesX w D A xs) (hD : ∀ k, D' k → D k ∨ w.heap.size ≤ k) : LiesX w D' A xs := fun hn => by
  obtain ⟨b, off, e, h1, hd, h2⟩ := h hn
  exact ⟨b, off, e, h1, fun hk => (hD b hk).elim hd (fun h => absurd h1 (Nat.not_lt.2 h)), h2⟩
theorem LiesX.of_lies {w : World} {D : Nat → Prop} {B : Nat} {A : Option Addr} {xs : List Value} (h : Lies w B A xs) (hB : B ≤ w.heap.size) (hD : ∀ k, D k → B ≤ k) : LiesX w D A xs := fun hn => by
  obtain ⟨b, off, e, h1, h2⟩ := h hn
  exact ⟨b, off, e, Nat.lt_of_lt_of_le h1 hB, fun hk => absurd h1 (Nat.not_lt.2 (hD b hk)), h2⟩
theorem LiesX.of_own {w : World} {D : Nat → Prop} {A : Option Addr} {xs : List Value} {base n c k : Nat} {e : TypeId} (h : w.ownsRow base e k (.slice A n c) n xs) (hD : ∀ b, (Value.slice A n c).ownBlock = some b → ¬ D b) : LiesX w D A xs := fun hn => by
  obtain ⟨b, off, eA, h1, h2⟩ := Lies.of_ownK h hn
  exact ⟨b, off, eA, h1, hD b (by rw [eA]; rfl), h2⟩
/-- Rows of bytes that lie outside of D. -/
def BytX (w : World) (D : Nat → Prop) (v : Value) (l : List UInt8) : Prop := ∃ A n c, v = .slice A n c ∧ l.length = n ∧ n ≤ c ∧ c ≤ maxLen ∧ LiesX w D A (bvs l)
theorem BytX.kept {w w' : World} {D : Nat → Prop} {v : Value} {l : List UInt8} (h : BytX w D v l) (ho : OnlyE w w' D) : BytX w' D v l := by
  obtain ⟨A, n, c, h1, h2, h3, h4, h5⟩ := h
  exact ⟨A, n, c, h1, h2, h3, h4, h5.kept ho⟩
theorem BytX.widen {w : World} {D D' : Nat → Prop} {v : Value} {l : List UInt8} (h : BytX w D v l) (hD : ∀ k, D' k → D k ∨ w.heap.size ≤ k) : BytX w D' v l := by
  obtain ⟨A, n, c, h1, h2, h3, h4, h5⟩ := h
  exact ⟨A, n, c, h1, h2, h3, h4, h5.widen hD⟩
theorem BytX.of_byt {w : World} {D : Nat → Prop} {B : Nat} {v : Value} {l : List UInt8} (h : Byt w B v l) (hB : B ≤ w.heap.size) (hD : ∀ k, D k → B ≤ k) : BytX w D v l := by
  obtain ⟨A, n, c, h1, h2, h3, h4, h5⟩ := h
  exact ⟨A, n, c, h1, h2, h3, h4, LiesX.of_lies h5 hB hD⟩

theorem OnlyE.of_grownO {a b : World} {q : Option Nat} (h : a.grownBy b q) : OnlyE a b (fun k => q = some k) :=
  ⟨h.size, fun i hi hn => h.block i hi (fun e => hn e.symm), ⟨h.os, h.tape, h.output, h.size, fun k hk => absurd hk (Nat.not_lt_zero k)⟩⟩

theorem bodies_snoc (l : List Th) (x : Th) : bodies (l ++ [x]) = bodies l ++ x.v.ownBlock.toList := by
  unfold bodies
  rw [List.filterMap_append]
  cases h : x.v.ownBlock <;> simp [h]

section
variable {w : World} {base p : Nat} {T : Value} {room lost : Nat} {l : List Th} {D : Nat → Prop}

/-- What a bag is behind one more thing. -/
def Pushed (w : World) (base p : Nat) (T : Value) (room lost : Nat) (l : List Th) (D : Nat → Prop) (x : Th) (T' : Value) (w2 : World) : Prop :=
  BagAt (w2.setCell ⟨p, 0, none⟩ T') base p T' room lost (l ++ [x]) (fun k => D k ∨ (w.heap.size ≤ k ∧ k < w2.heap.size)) ∧ OnlyE w (w2.setCell ⟨p, 0, none⟩ T') D ∧ w2.cell? ⟨p, 0, none⟩ = some T ∧ w2.frozen? ⟨p, 0, none⟩ = false

theorem BagAt.push {w1 : World} (h : BagAt w base p T room lost l D) (v : Value) (b : List UInt8) (t : Bool) (hb1 : RowKit.Below w.heap.size w w1) (hv : w1.ownsRow w.heap.size 5 1 v b.length (bvs b)) (hbm : b.length ≤ 1000) (hr : l.length < room) :
    ∃ A' c' w2, (Builtin.append_ #[52, 52] 52 #[T, .slice (some ⟨w1.heap.size, 0, none⟩) 1 1]).run Try.prog (w1.alloc (.cells #[v, .bool t] 64)) = .ok (.slice A' (l.length + 1) c') w2 ∧
      Pushed w base p T room lost l D ⟨v, b, t⟩ (.slice A' (l.length + 1) c') w2 := by
  obtain ⟨j0, hj, hz0, hz1, hz2⟩ := info_parts Try.infoTh
  have hlow := h.lo
  have hroom := h.room2
  have hs1 := hb1.size
  have hbA : RowKit.Below w.heap.size w (w1.alloc (.cells #[v, .bool t] 64)) := hb1.alloc hb1.size _
  have hA := h.on hbA
  have hvA : (w1.alloc (.cells #[v, .bool t] 64)).ownsRow w.heap.size 5 1 v b.length (bvs b) := hv.alloc _
  obtain ⟨T', w2, hrun, hown, hg, hblk⟩ := run_append_lstK (P := Try.prog) base 2 (by decide) 52 52 64 j0 (.agg #[.slice none 0 0, .bool false]) 32 Try.underlying52 hj hz0 hz1 hz2 rfl T l.length _ hA.ths
    _ _ 1 1 [v, .bool t] rfl (lies_new w1 #[v, .bool t] 64) (by
      intro u hu
      simp only [List.mem_cons, List.not_mem_nil, or_false] at hu
      rcases hu with rfl | rfl
      · exact own_one hv
      · rfl) (by unfold maxLen; omega) (by omega) hA.lo
  obtain ⟨A', c', rfl, -, -⟩ := own_sliceK hown
  refine ⟨A', c', w2, hrun, ?_, ?_, ?_, ?_⟩
  · have hg1 : OnlyE w w2 (fun k => T.ownBlock = some k) := (OnlyE.of_below hbA).trans (OnlyE.of_grownO hg)
    have hTlt : ∀ k, T.ownBlock = some k → k < w.heap.size := fun k hk => (h.din k (h.dt k hk)).2
    have hsA : (w1.alloc (.cells #[v, .bool t] 64)).heap.size = w1.heap.size + 1 := by simp
    have hs2 := hg.size
    refine h.setRow hg1 ?_ ?_ ?_ (fun _ => .inl) ?_ ?_ ?_ ?_
    · rw [List.length_append, flat_append]
      exact hown
    · intro x hx
      rw [List.mem_append] at hx
      rcases hx with hx | hx
      · exact .inl hx
      · simp only [List.mem_cons, List.not_mem_nil, or_false] at hx
        subst hx
        refine .inr ⟨own_only hvA (OnlyE.of_grownO hg) fun k hk hk' => ?_, hbm⟩
        have := (hvA.lt k hk).1
        have := hTlt k hk'
        omega
    · rw [bodies_snoc, List.nodup_append]
      refine ⟨h.dis, by cases hq : (Th.v ⟨v, b, t⟩).ownBlock <;> simp, fun x hx y hy => ?_⟩
      rintro rfl
      have h1 := (h.din x (h.db x hx)).2
      simp only [Option.mem_toList] at hy
      have h2 := (hv.lt x hy).1
      omega
    · intro k hk
      rcases hblk with e | e
      · exact .inl (h.dt k (e ▸ hk))
      · right
        have := (hown.lt k hk).2
        rw [e] at hk
        injection hk with hk
        omega
    · intro k hk
      rw [bodies_snoc, List.mem_append] at hk
      rcases hk with hk | hk
      · exact .inl (h.db k hk)
      · simp only [Option.mem_toList] at hk
        have := hvA.lt k hk
        right
        omega
    · rintro k (hk | hk)
      · have := h.din k hk
        omega
      · omega
    · rw [List.length_append]; exact hr
  · have hO : OnlyE w w2 D := (OnlyE.of_below hbA).trans ((OnlyE.of_grownO hg).mono fun k hk => h.dt k hk)
    exact hO.trans (onlyE_set h.dp 0 _)
  · have hbl := hg.block p (hA.plt) (fun e => h.ne_row e.symm rfl)
    exact (World.cell?_of_block (a := ⟨p, 0, none⟩) hbl).trans hA.c0
  · have hbl := hg.block p (hA.plt) (fun e => h.ne_row e.symm rfl)
    exact (World.frozen?_of_block (a := ⟨p, 0, none⟩) hbl).trans (hA.fr 0)
end

end Go.Proofs.Ytjecphjdmjoeiaa
