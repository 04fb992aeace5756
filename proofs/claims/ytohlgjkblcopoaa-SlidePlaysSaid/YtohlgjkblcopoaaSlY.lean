/- An act is loaded whole, and boxed. -/
import Derived.Test.YtohlgjkblcopoaaSlX
namespace Go.Proofs.Ytohlgjkblcopoaa
open Go.RowKit Go.Sort

theorem infoSa : (Try.prog.info? 42).map (·.size) = some 18 := by kernel_rfl
def saCs (a : Sa) : Array Value := (encSa a).toArray
theorem saCs_size (a : Sa) : (saCs a).size = 18 := by unfold saCs; rw [List.size_toArray, encSa_len]
theorem saCs_one (a : Sa) : (saCs a).all (·.oneCell') = true := by
  refine all_oneCell_toArray fun v hv => ?_
  simp only [encSa, List.mem_append, List.mem_cons, List.not_mem_nil, or_false] at hv
  rcases hv with rfl | hv | rfl
  · rfl
  · exact encPf_one a.x v hv
  · rfl

section
variable {ops : Array Oper} {rest : List Oper} {dst : Option Tmp} {ty : TypeId} {pos : String} {aft : Array Edge} {a : Act} {w : World} {Q : Exit → Act → World → Prop}
theorem load_act (y : Operand) {b o : Nat} {x : Sa} (hx : a.eval y = .pointer (some ⟨b, o, none⟩)) (hc : w.rangeAt b o (encSa x))
    (h : wpList Try.prog ops Q rest (a.put dst (.agg (saCs x))) w) : wpList Try.prog ops Q (⟨dst, .load 42 y, ty, pos, aft, none⟩ :: rest) a w :=
  wpList_load_mid rfl _ y rfl b o hx (encSa x) _ hc Try.underlying42 rfl (infoSa.trans (by rw [encSa_len])) h
theorem store_act_new (x y : Operand) {w1 : World} {g : Nat} {old cs : Array Value} (hgw : g = w1.heap.size) (hx : a.eval x = .pointer (some ⟨g, 0, none⟩)) (hy : a.eval y = .agg cs) (ho : old.size = 18) (hs : cs.size = 18) (h1 : cs.all (·.oneCell') = true)
    (h : wpList Try.prog ops Q rest (a.put dst undef) (w1.alloc (.cells cs 42))) : wpList Try.prog ops Q (⟨dst, .store 42 x y, ty, pos, aft, none⟩ :: rest) a (w1.alloc (.cells old 42)) := by
  subst hgw
  refine wpList_store_row rfl _ x y rfl w1.heap.size cs hx hy _ old (heap_alloc_new _ _) (infoSa.trans (by rw [hs])) (by omega) h1 ?_
  rw [setRow_new]
  exact h
end

/-- The act in its box. -/
structure ActB (g : Nat) (a : Sa) (W : World) : Prop where
  lt : g < W.heap.size
  c0 : W.cell? ⟨g, 0, none⟩ = some (.bool a.ack)
  f : W.rangeAt g 1 (encPf a.x)
  n : W.cell? ⟨g, 17, none⟩ = some (.int .u64 (a.n : Int))
theorem ActB.new (w : World) (a : Sa) : ActB w.heap.size a (w.alloc (.cells (saCs a) 42)) := by
  have hr := heap_alloc_new w (.cells (saCs a) 42)
  have hc : ∀ j, (w.alloc (.cells (saCs a) 42)).cell? ⟨w.heap.size, j, none⟩ = (encSa a)[j]? := fun j => (cell_of_row _ _ j _ _ _ hr).trans (by simp [saCs])
  refine ⟨by simp, (hc 0).trans rfl, fun j v hv => ?_, (hc 17).trans ?_⟩
  · rw [hc (1 + j)]
    have hj : j < 16 := by
      have := (List.getElem?_eq_some_iff.1 hv).1
      rwa [encPf_len] at this
    unfold encSa
    rw [List.getElem?_append_right (by simp), List.length_singleton, Nat.add_sub_cancel_left, List.getElem?_append_left (by rw [encPf_len]; exact hj)]
    exact hv
  · unfold encSa
    rw [List.getElem?_append_right (by simp), List.length_singleton, List.getElem?_append_right (by rw [encPf_len]; decide), encPf_len]
    rfl
theorem ActB.on {g : Nat} {a : Sa} {W W' : World} {D : Nat → Prop} (h : ActB g a W) (ho : OnlyE W W' D) (hD : ¬ D g) : ActB g a W' := by
  have hk := ho.same g h.lt hD
  exact ⟨Nat.lt_of_lt_of_le h.lt ho.size, (World.cell?_of_block (a := ⟨g, 0, none⟩) hk).trans h.c0, fun j v hv => (World.cell?_of_block (a := ⟨g, 1 + j, none⟩) hk).trans (h.f j v hv), (World.cell?_of_block (a := ⟨g, 17, none⟩) hk).trans h.n⟩
theorem ActB.below {g : Nat} {a : Sa} {W W' : World} (h : ActB g a W) (hb : RowKit.Below W.heap.size W W') : ActB g a W' := h.on (D := fun _ => False) (OnlyE.of_below hb) id

theorem refAcked_all (A : Option Addr) (n c width last upto : Nat) (lm : List Pf) (w : World) (hl : lm.length = n) (hnc : n ≤ c) (hcm : c ≤ maxLen) (hA : Lies w w.heap.size A (flat encPf lm)) (hn : n ≤ last) (hn1 : n ≤ 100) (hs : ∀ i (h : i < lm.length), lm[i].F.seq = firstN last n + i) :
    Calls Try.prog 11 #[.agg #[.int .i64 (width : Int), .slice A n c, .int .u64 (last : Int)], .int .u64 (upto : Int)] w (RGot w A lm width (lm.drop (ackN last n upto)) last (ackN last n upto)) := by
  by_cases hu : upto ≤ last
  · exact refAcked_any A n c width last upto lm w hl hu hA hn hn1 hs
  · exact refAcked_past A n c width last upto lm w hl hnc hcm (by omega)

section
variable {w W : World} {p q width : Nat} {T : Value} {last : Nat} {lw : List Pf} {D : Nat → Prop} {Am : Option Addr} {cm : Nat} {lm : List Pf} {lastm : Nat}
theorem SP.len (_h : SP w p q width T last lw D Am cm lm lastm W) (hm : lw.map Pf.F = lm.map Pf.F) : lm.length = lw.length := by
  have := congrArg List.length hm
  simpa using this.symm
theorem SP.seqs (h : SP w p q width T last lw D Am cm lm lastm W) (hm : lw.map Pf.F = lm.map Pf.F) : ∀ i (hi : i < lm.length), lm[i].F.seq = firstN last lm.length + i := fun i hi => by
  have hl := h.len hm
  have hi2 : i < lw.length := by omega
  rw [map_at hm hi2 hi, hl]
  exact h.win.seqAt hi2
theorem SP.m64 (h : SP w p q width T last lw D Am cm lm lastm W) (hm : lw.map Pf.F = lm.map Pf.F) : lm.length ≤ 64 ∧ lm.length ≤ last := by
  have hl := h.len hm
  have h1 := h.win.fit
  have h2 := h.win.wid2
  have h3 := h.win.fit2
  omega
end

end Go.Proofs.Ytohlgjkblcopoaa
