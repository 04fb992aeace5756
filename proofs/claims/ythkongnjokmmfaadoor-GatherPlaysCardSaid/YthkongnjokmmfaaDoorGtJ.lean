/- Stage 13: what stands behind a chunk that was put; what is told of a whole part. -/
import Derived.Test.YthkongnjokmmfaaDoorGtZ
set_option maxRecDepth 20000
namespace Go.Proofs.YthkongnjokmmfaaDoor
open Go.RowKit Go.Sort

theorem OnlyE.trans' {a b c : World} {D D1 : Nat → Prop} (h : OnlyE a b D) (k : OnlyE b c D1) (hD : (∀ k, D1 k → D k ∨ a.heap.size ≤ k) ∧ (∀ k, D k → D1 k)) : OnlyE a c D :=
  ⟨Nat.le_trans h.size k.size, fun i hi hn => (k.same i (Nat.lt_of_lt_of_le hi h.size) fun e => (hD.1 i e).elim hn fun e => by omega).trans (h.same i hi hn), h.3.trans k.3⟩
theorem place_facts {size k a : Nat} (hs : size ≤ 1048576) (hk : 1 ≤ k) (hk2 : k ≤ 65536) (ha : a < cntN size k) : a * k ≤ size ∧ (¬ a * k < size → size = 0) := by
  refine ⟨(lenZ_min hs hk hk2 ha).2, fun hn => ?_⟩
  cases a with
  | zero => omega
  | succ m =>
    have := (cntN_lt hk).1 ha
    omega
theorem cntN_small1 (n k : Nat) (hk : 1 ≤ k) : cntN n k ≤ max 1 n := by
  unfold cntN
  refine Nat.max_le.2 ⟨Nat.le_max_left _ _, ?_⟩
  rcases Nat.eq_zero_or_pos n with rfl | hn
  · have : (0 + k - 1) / k = 0 := Nat.div_eq_of_lt (by omega)
    omega
  · have : (n + k - 1) / k ≤ n := by
      refine Nat.div_le_of_le_mul ?_
      have := Nat.mul_le_mul_left n hk
      have h2 := Nat.mul_le_mul hn hk
      have h3 : k * n = n * k := Nat.mul_comm _ _
      have h4 : n + k ≤ n * k + 1 := by
        obtain ⟨a, rfl⟩ : ∃ a, n = a + 1 := ⟨n - 1, by omega⟩
        obtain ⟨b, rfl⟩ : ∃ b, k = b + 1 := ⟨k - 1, by omega⟩
        rw [Nat.add_mul, Nat.mul_add, Nat.one_mul]
        have := Nat.zero_le (a * b)
        omega
      omega
    omega
theorem idxP_is : ∀ (l : List Part) (i : Nat) (hi : i < l.length) (x : Id), (l.Pairwise fun p q => p.id ≠ q.id) → l[i].id = x → idxP l x = i
  | p :: r, 0, _, x, _, e => by
    have e' : p.id = x := e
    rw [idxP, if_pos e']
  | p :: r, i + 1, hi, x, h, e => by
    have h2 := List.pairwise_cons.1 h
    have hir : i < r.length := by simpa using hi
    have e' : r[i].id = x := e
    have : p.id ≠ x := fun h3 => h2.1 r[i] (List.getElem_mem hir) (h3.trans e'.symm)
    rw [idxP, if_neg this, idxP_is r i hir x h2.2 e']
theorem erase_set {α : Type} : ∀ (l : List α) (i : Nat) (y : α), (l.set i y).eraseIdx i = l.eraseIdx i
  | [], _, _ => rfl
  | _ :: _, 0, _ => rfl
  | x :: r, i + 1, y => by rw [List.set_cons_succ, List.eraseIdx_cons_succ, List.eraseIdx_cons_succ, erase_set r i y]

section
variable {W : World} {base gp : Nat} {T : Value} {L : List Pz} {g : Gm} {D : Nat → Prop}
theorem GtAt.chunk_in (h : GtAt W base gp T L g D) {i : Nat} (hi : i < L.length) {a o : Nat} {d : List UInt8} (ho : o = a * g.chunk) (ha : a < L[i].x.has.length) (hd : d.length = lenZ (L[i].x.size : Int) (g.chunk : Int) (a : Int)) {A : Option Addr} (hs : LiesX W D A (bvs d)) (c1 c2 : Nat) (ty : TypeId) :
    ∃ W1, (Builtin.copy_ #[39, 39] ty #[.slice (some ⟨L[i].b, o, none⟩) (L[i].x.size - o) c1, .slice A d.length c2]).run Tryd.prog W = .ok (goInt d.length) W1 ∧ OnlyE W W1 (fun k => k = L[i].b) ∧ SetAt W1 L[i].s L[i].q L[i].x.has ∧
      ∀ W2, OnlyE W1 W2 (DS L[i].s L[i].q) → SetAt W2 L[i].s L[i].q (L[i].x.has.set a true) → GtAt W2 base gp T (L.set i (L[i].putCut a d)) { g with l := g.l.set i (L[i].x.putCut a d) } D ∧ OnlyE W W2 (fun k => L[i].has k) := by
  subst ho
  have hz := h.part hi
  obtain ⟨pl, hp, hcut⟩ := hz.pay
  have hgl : i < g.l.length := by rw [h.len]; exact hi
  have hpa := h.ok.parts _ (List.getElem_mem hgl)
  rw [h.at_ hi] at hpa
  obtain ⟨e1, e2⟩ := lenZ_min hpa.1 h.ok.chunk1 h.ok.chunk2 (by omega : a < cntN L[i].x.size g.chunk)
  have hpl : pl.length = L[i].x.size := by have := hp.1; rw [bvs_length] at this; omega
  obtain ⟨W1, hrun, hown, hg⟩ := pay_copy (ty := ty) hp (by omega) hs.lies ⟨L[i].b, a * g.chunk, none⟩ c1 c2 (fun _ => rfl)
  have hO : OnlyE W W1 (fun k => k = L[i].b) := OnlyE.of_grown hg rfl
  exact ⟨W1, hrun, hO, hz.set.kept hO (fun e => hz.nb.1 e) (fun e => hz.nb.2 e), fun W2 h2 hS => h.putCut hi ha hd hcut hO hown hpl h2 hS⟩

theorem GtAt.told (h : GtAt W base gp T L g D) {i : Nat} (hi : i < L.length) (hf : L[i].x.full = true) : W.ownsRow 0 5 1 (.slice (some ⟨L[i].b, 0, none⟩) L[i].x.size L[i].x.size) L[i].x.size (bvs L[i].x.cuts.flatten) := by
  have hz := h.part hi
  obtain ⟨pl, hp, hcut⟩ := hz.pay
  have hgl : i < g.l.length := by rw [h.len]; exact hi
  have hpa := h.ok.parts _ (List.getElem_mem hgl)
  rw [h.at_ hi] at hpa
  have hpl : pl.length = L[i].x.size := by have := hp.1; rw [bvs_length] at this; omega
  rw [← hcut.all h.ok.chunk1 h.ok.chunk2 hpa.1 hpl hpa.2.1 hpa.2.2.1 hpa.2.2.2 hf]
  exact hp

/-- Behind a part that has all its chunks, and has gone. -/
theorem GtAt.gone (h : GtAt W base gp T L g D) {i : Nat} (hi : i < L.length) {x : Id} (hx : L[i].x.id = x) : idxP g.l x = i ∧ (g.drop x).1 = { g with l := g.l.eraseIdx i } := by
  have hgl : i < g.l.length := by rw [h.len]; exact hi
  have e := idxP_is g.l i hgl x h.ok.ids (by rw [h.at_ hi]; exact hx)
  refine ⟨e, ?_⟩
  unfold Gm.drop
  rw [e, if_pos hgl]

/-- The put of the set, behind the list that is built for it. -/
theorem put_built {X : World} {s q : Nat} {m : List Bool} {a : Nat} (h : SetAt X s q m) : Calls Tryd.prog 43 #[.pointer (some ⟨s, 0, none⟩), .slice (some ⟨X.heap.size, 0, none⟩) 1 1] (X.alloc (.cells #[.int .i64 (a : Int)] 3)) fun e w' => ∃ n : Int, e = .returned (.int .i64 n) ∧ SetAt w' s q (m.set a true) ∧ OnlyE X w' (DS s q) := by
  have hb : RowKit.Below X.heap.size X (X.alloc (.cells #[.int .i64 (a : Int)] 3)) := (RowKit.Below.refl _ _).alloc (Nat.le_refl _) _
  obtain ⟨l1, l2, -, -⟩ := h.lt
  have hL : LiesX (X.alloc (.cells #[.int .i64 (a : Int)] 3)) (DS s q) (some ⟨X.heap.size, 0, none⟩) (zvs [(a : Int)]) := LiesX.of_new #[.int .i64 (a : Int)] 3 (by rintro (e | e) <;> omega)
  refine (put_any (h.on hb) (some ⟨X.heap.size, 0, none⟩) 1 1 [(a : Int)] rfl (by omega) hL).mono ?_
  rintro e w' ⟨rfl, h1, h2⟩
  rw [putS_one] at h1
  exact ⟨_, rfl, h1, (OnlyE.of_below hb).trans h2⟩
end

end Go.Proofs.YthkongnjokmmfaaDoor
