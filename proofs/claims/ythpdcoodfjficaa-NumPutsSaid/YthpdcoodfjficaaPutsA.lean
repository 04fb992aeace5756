/- Tables of rows of bytes that the call itself collects: what each append keeps. -/
import Derived.Test.YthpdcoodfjficaaRefA
namespace Go.Proofs.Ythpdcoodfjficaa
open Go.RowKit

/-- The slice that begins at A reads as xs, in a block that is there and is none of D. -/
def LiesD (w : World) (D : Nat → Prop) (A : Option Addr) (xs : List Value) : Prop :=
  xs ≠ [] → ∃ b off, A = some ⟨b, off, none⟩ ∧ b < w.heap.size ∧ ¬ D b ∧ ∀ i u, xs[i]? = some u → w.cell? ⟨b, off + i, none⟩ = some u
def BytD (w : World) (D : Nat → Prop) (v : Value) (l : List UInt8) : Prop := ∃ A n c, v = .slice A n c ∧ l.length = n ∧ n ≤ c ∧ c ≤ maxLen ∧ LiesD w D A (bvs l)
def RowsD (w : World) (D : Nat → Prop) (vs : List Value) (ls : List (List UInt8)) : Prop := vs.length = ls.length ∧ ∀ i, (h : i < vs.length) → (h' : i < ls.length) → BytD w D vs[i] ls[i]

/-- Only blocks of D, and new ones, have turned. -/
def OnlyD (w w' : World) (D : Nat → Prop) : Prop := w.heap.size ≤ w'.heap.size ∧ ∀ k, k < w.heap.size → ¬ D k → w'.heap[k]? = w.heap[k]?

theorem OnlyD.trans {a b c : World} {D : Nat → Prop} (h : OnlyD a b D) (k : OnlyD b c D) : OnlyD a c D :=
  ⟨Nat.le_trans h.1 k.1, fun i hi hn => (k.2 i (Nat.lt_of_lt_of_le hi h.1) hn).trans (h.2 i hi hn)⟩
theorem OnlyD.of_below {a b : World} {D : Nat → Prop} (h : Below a.heap.size a b) : OnlyD a b D := ⟨h.size, fun i hi _ => h.block i hi⟩
theorem OnlyD.of_grown {a b : World} {D : Nat → Prop} {q : Nat} (h : a.grownBy b (some q)) (hq : D q) : OnlyD a b D := ⟨h.size, fun i hi hn => h.block i hi (by rintro e; injection e with e; subst e; exact hn hq)⟩

section
variable {w w' : World} {D D' : Nat → Prop}

theorem LiesD.kept {A : Option Addr} {xs : List Value} (h : LiesD w D A xs) (ho : OnlyD w w' D) (hD : ∀ k, k < w.heap.size → D' k → D k) : LiesD w' D' A xs := fun hn => by
  obtain ⟨b, off, rfl, hlt, hnD, hc⟩ := h hn
  refine ⟨b, off, rfl, Nat.lt_of_lt_of_le hlt ho.1, fun h' => hnD (hD b hlt h'), fun i u hu => ?_⟩
  rw [World.cell?_of_block (w := w) (ho.2 b hlt hnD)]
  exact hc i u hu
theorem LiesD.lies {A : Option Addr} {xs : List Value} (h : LiesD w D A xs) : Lies w w.heap.size A xs := fun hn => by
  obtain ⟨b, off, rfl, hlt, _, hc⟩ := h hn
  exact ⟨b, off, rfl, hlt, hc⟩
theorem BytD.kept {v : Value} {l : List UInt8} (h : BytD w D v l) (ho : OnlyD w w' D) (hD : ∀ k, k < w.heap.size → D' k → D k) : BytD w' D' v l := by
  obtain ⟨A, n, c, rfl, h1, h2, h3, h4⟩ := h
  exact ⟨A, n, c, rfl, h1, h2, h3, h4.kept ho hD⟩
theorem RowsD.kept {vs : List Value} {ls : List (List UInt8)} (h : RowsD w D vs ls) (ho : OnlyD w w' D) (hD : ∀ k, k < w.heap.size → D' k → D k) : RowsD w' D' vs ls :=
  ⟨h.1, fun i h1 h2 => (h.2 i h1 h2).kept ho hD⟩
theorem RowsD.rows {vs : List Value} {ls : List (List UInt8)} (h : RowsD w D vs ls) : BytRows w w.heap.size vs ls :=
  ⟨h.1, fun i h1 h2 => by
    obtain ⟨A, n, c, e, k1, k2, k3, k4⟩ := h.2 i h1 h2
    exact ⟨A, n, c, e, k1, k2, k3, k4.lies⟩⟩
theorem RowsD.snoc {vs : List Value} {ls : List (List UInt8)} {v : Value} {l : List UInt8} (h : RowsD w D vs ls) (hv : BytD w D v l) : RowsD w D (vs ++ [v]) (ls ++ [l]) := by
  refine ⟨by simp [h.1], fun i h1 h2 => ?_⟩
  have hl := h.1
  by_cases hi : i < vs.length
  · rw [List.getElem_append_left hi, List.getElem_append_left (by omega)]
    exact h.2 i hi (by omega)
  · have hi' : i = vs.length := by simp at h1; omega
    subst hi'
    simp only [List.getElem_append_right (Nat.le_refl _), Nat.sub_self, List.getElem_cons_zero]
    rw [List.getElem_append_right (by omega)]
    simpa using hv
/-- A row that the call has just made. -/
theorem BytD.of_own {base n c : Nat} {A : Option Addr} {l : List UInt8} (ho : w.ownsRow base 5 1 (.slice A n c) n (bvs l)) (h1 : n ≤ c) (h2 : c ≤ maxLen) (hD : ∀ k, base ≤ k → k < w.heap.size → ¬ D k) : BytD w D (.slice A n c) l := by
  have hl := own_len ho
  rw [bvs_length] at hl
  refine ⟨A, n, c, rfl, hl, h1, h2, fun hn => ?_⟩
  obtain ⟨b, off, rfl, hlt, hc⟩ := Lies.of_own ho hn
  exact ⟨b, off, rfl, hlt, hD b (ho.lt b rfl).1 hlt, hc⟩
end

/-- The state of a table while rows are put behind it: it lies in block q; its rows lie neither there nor in p. -/
def Tab (w0 w : World) (base p q0 : Nat) (A : Option Addr) (n c : Nat) (ls : List (List UInt8)) : Prop :=
  ∃ vs q, w.ownsRow base 22 1 (.slice A n c) n vs ∧ (Value.slice A n c).ownBlock = some q ∧ (q = q0 ∨ w0.heap.size ≤ q) ∧ RowsD w (fun b => b = q ∨ b = p) vs ls ∧ OnlyD w0 w (fun b => b = q0) ∧ p < w0.heap.size ∧ base ≤ w.heap.size ∧ Hid (ls.length = n)

theorem Tab.step {w0 w w1 w3 : World} {base p q0 n c n1 c1 n3 c3 : Nat} {A A1 A3 : Option Addr} {ls : List (List UInt8)} {x : List UInt8} {o : Obj} {vs : List Value} {q : Nat}
    (h1 : w.ownsRow base 22 1 (.slice A n c) n vs) (h2 : (Value.slice A n c).ownBlock = some q) (h3 : q = q0 ∨ w0.heap.size ≤ q) (h4 : RowsD w (fun b => b = q ∨ b = p) vs ls) (h5 : OnlyD w0 w (fun b => b = q0)) (h6 : p < w0.heap.size) (h7 : base ≤ w.heap.size) (h8 : Hid (ls.length = n))
    (hx : w1.ownsRow w.heap.size 5 1 (.slice A1 n1 c1) n1 (bvs x)) (hc1 : n1 ≤ c1) (hc2 : c1 ≤ maxLen) (hb : Below w.heap.size w w1)
    (ho : w3.ownsRow base 22 1 (.slice A3 n3 c3) n3 (vs ++ [.slice A1 n1 c1])) (hn3 : n3 = n + 1) (hg : (w1.alloc o).grownBy w3 (Value.slice A n c).ownBlock) (hat : (Value.slice A3 n3 c3).ownBlock = (Value.slice A n c).ownBlock ∨ (Value.slice A3 n3 c3).ownBlock = some (w1.heap.size + 1)) :
    Tab w0 w3 base p q0 A3 n3 c3 (ls ++ [x]) := by
  rw [h2] at hg hat
  have hq := (h1.lt q h2).2
  have hs1 := hb.size
  have hsg := hg.size
  simp at hsg
  have hpw : p < w.heap.size := Nat.lt_of_lt_of_le h6 h5.1
  obtain ⟨q', hq', hqq⟩ : ∃ q', (Value.slice A3 n3 c3).ownBlock = some q' ∧ (q' = q ∨ q' = w1.heap.size + 1) := by
    rcases hat with hat | hat
    · exact ⟨q, hat, .inl rfl⟩
    · exact ⟨_, hat, .inr rfl⟩
  have hO1 : OnlyD w (w1.alloc o) (fun b => b = q ∨ b = p) := OnlyD.of_below (hb.alloc hs1 _)
  have hO2 : OnlyD (w1.alloc o) w3 (fun b => b = q ∨ b = p) := OnlyD.of_grown hg (.inl rfl)
  refine ⟨vs ++ [.slice A1 n1 c1], q', ho, hq', ?_, ?_, ?_, h6, by omega, ?_⟩
  · have := h5.1
    rcases hqq with rfl | rfl
    · exact h3
    · right; omega
  · refine RowsD.snoc (h4.kept (hO1.trans hO2) (fun k hk hD => ?_)) ?_
    · rcases hD with rfl | rfl
      · rcases hqq with h | h
        · exact .inl h
        · exfalso; omega
      · exact .inr rfl
    · have hB : BytD (w1.alloc o) (fun b => b = q ∨ b = p) (.slice A1 n1 c1) x := by
        refine BytD.of_own (base := w.heap.size) (hx.alloc o) hc1 hc2 (fun k hk hk2 => ?_)
        rintro (rfl | rfl) <;> omega
      obtain ⟨A', n', c', e, k1, k2, k3, k4⟩ := hB
      injection e with e1 e2 e3
      subst e1 e2 e3
      refine ⟨_, _, _, rfl, k1, k2, k3, fun hn => ?_⟩
      obtain ⟨b, off, rfl, hlt, hnD, hcell⟩ := k4 hn
      have hb2 := (hx.lt b rfl).2
      refine ⟨b, off, rfl, Nat.lt_of_lt_of_le hlt hO2.1, ?_, fun i u hu => ?_⟩
      · rintro (h | h)
        · rcases hqq with h' | h'
          · exact hnD (.inl (h.trans h'))
          · omega
        · exact hnD (.inr h)
      · rw [World.cell?_of_block (w := w1.alloc o) (hO2.2 b hlt hnD)]
        exact hcell i u hu
  · refine ⟨by have := h5.1; omega, fun k hk hne => ?_⟩
    have hkq : ¬ (k = q ∨ k = p) ∨ k = p ∧ k ≠ q := by
      by_cases hkp : k = p
      · right
        refine ⟨hkp, ?_⟩
        rcases h3 with h | h
        · rw [h]; exact hne
        · omega
      · left
        rintro (h | h)
        · rcases h3 with h' | h'
          · exact hne (h.trans h')
          · omega
        · exact hkp h
    have e1 : (w1.alloc o).heap[k]? = w.heap[k]? := (hb.alloc hs1 o).block k (by have := h5.1; omega)
    have hkne : k ≠ q := by
      rcases hkq with h | h
      · exact fun e => h (.inl e)
      · exact h.2
    have e2 : w3.heap[k]? = (w1.alloc o).heap[k]? := hg.block k (by simp; have := h5.1; omega) (by rintro e; injection e with e; exact hkne e)
    exact (e2.trans e1).trans (h5.2 k hk hne)
  · show (ls ++ [x]).length = n3
    have := h8.out
    simp [this, hn3]

theorem table_snoc {α : Type} (l : List UInt8) (f : α → List UInt8) (xs : List α) (k : Nat) (h : k < xs.length) : [l] ++ (xs.take (k + 1)).map f = ([l] ++ (xs.take k).map f) ++ [f xs[k]] := by
  rw [List.take_succ_eq_append_getElem h, List.map_append, List.append_assoc]; rfl

theorem own_onlyD {w w' : World} {D : Nat → Prop} {base : Nat} {e : TypeId} {v : Value} {n : Nat} {xs : List Value} (h : w.ownsRow base e 1 v n xs) (ho : OnlyD w w' D) (hD : ∀ q, v.ownBlock = some q → ¬ D q) : w'.ownsRow base e 1 v n xs := by
  refine ⟨h.1, ?_⟩
  rcases h.2 with hn | ⟨g, cap, cur, rfl, hbg, hg, rest⟩
  · exact .inl hn
  · exact .inr ⟨g, cap, cur, rfl, hbg, (ho.2 g (Array.getElem?_eq_some_iff.1 hg).1 (hD g rfl)).trans hg, rest⟩

/-- A table of one row, which came in. -/
theorem Tab.start {w w5 : World} {A0 : Option Addr} {n0 c0 q p : Nat} {l : List UInt8} (hb : Below w.heap.size w w5) (h0 : Lies w w.heap.size A0 (bvs l)) (hl : l.length = n0) (hc : n0 ≤ c0 ∧ c0 ≤ maxLen)
    (hq : w5.heap[q]? = some (.cells #[.slice A0 n0 c0] 22 (0, 0))) (hwq : w.heap.size ≤ q) (hwp : w.heap.size ≤ p) (hp : p < w5.heap.size) :
    Tab w5 w5 w.heap.size p q (some ⟨q, 0, none⟩) 1 1 [l] := by
  refine ⟨[.slice A0 n0 c0], q, ⟨rfl, .inr ⟨q, 1, _, rfl, hwq, hq, Nat.le_refl _, by unfold maxLen; omega, rfl, rfl⟩⟩, rfl, .inl rfl, ⟨rfl, ?_⟩, ⟨Nat.le_refl _, fun _ _ _ => rfl⟩, hp, by omega, rfl⟩
  intro i h1 h2
  simp at h1
  subst h1
  refine ⟨A0, n0, c0, rfl, hl, hc.1, hc.2, fun hn => ?_⟩
  obtain ⟨b, off, rfl, hlt, hcell⟩ := (h0.below hb) hn
  exact ⟨b, off, rfl, Nat.lt_of_lt_of_le hlt hb.size, by rintro (h | h) <;> omega, hcell⟩

/-- The other table, when the first has been filled. -/
theorem Tab.other {w5 w6 : World} {base q p q1 : Nat} {A : Option Addr} {n c : Nat} {ls : List (List UInt8)} (h : Tab w5 w5 base p q A n c ls) (ho : OnlyD w5 w6 (fun b => b = p)) (hqp : q ≠ p) (hq : (Value.slice A n c).ownBlock = some q) (hq1 : q1 = p ∨ w5.heap.size ≤ q1) (hlt : q1 < w6.heap.size) : Tab w6 w6 base q1 q A n c ls := by
  obtain ⟨vs, q', h1, h2, h3, h4, h5, h6, h7, h8⟩ := h
  have hqq : q' = q := by rw [h2] at hq; injection hq
  subst hqq
  have hb : base ≤ w6.heap.size := Nat.le_trans h7 ho.1
  refine ⟨vs, q', own_onlyD h1 ho (fun k hk => ?_), h2, .inl rfl, ?_, ⟨Nat.le_refl _, fun _ _ _ => rfl⟩, hlt, hb, h8⟩
  · rw [h2] at hk
    injection hk with hk
    subst hk
    exact hqp
  · have ho' : OnlyD w5 w6 (fun b => b = q' ∨ b = p) := ⟨ho.1, fun k hk hn => ho.2 k hk (fun e => hn (.inr e))⟩
    refine h4.kept ho' (fun k hk hD => ?_)
    rcases hD with rfl | rfl
    · exact .inl rfl
    · rcases hq1 with h | h
      · exact .inr h
      · omega

theorem lies_front {w : World} {B : Nat} {A : Option Addr} {l t : List UInt8} (h : Lies w B A (bvs (l ++ t))) : Lies w B A (bvs l) := fun hn => by
  obtain ⟨b, off, e, hb, hc⟩ := h (by intro h0; apply hn; rw [bvs_append] at h0; exact (List.append_eq_nil_iff.1 h0).1)
  refine ⟨b, off, e, hb, fun i u hu => hc i u ?_⟩
  rw [bvs_append]
  obtain ⟨hi, _⟩ := List.getElem?_eq_some_iff.1 hu
  rw [List.getElem?_append_left hi]
  exact hu

/-- string(..) of this slice gives these bytes in every world that has only grown. -/
def KeepS (w : World) (A : Option Addr) (n c : Nat) (l : List UInt8) : Prop := ∀ W : World, Below w.heap.size w W → (convert 22 9 (.slice A n c)).run Try.prog W = .ok (.string (str l)) W

theorem keepS_of {w : World} {A : Option Addr} {n c : Nat} {l : List UInt8} (hl : l.length = n) (h : Lies w w.heap.size A (bvs l)) : KeepS w A n c l := fun _ hb => strs_of hl (h.below hb) c

theorem keepS_later {w w' : World} {A : Option Addr} {n c : Nat} {l : List UInt8} (h : KeepS w A n c l) (hb : Below w.heap.size w w') : KeepS w' A n c l := fun W hW => h W (hb.trans (hW.mono hb.size))

theorem join_nums (l : List UInt8) (ns : List Nat) : ([l] ++ ns.map enc).flatten = l ++ encs ns := by
  have h : ∀ ns : List Nat, (ns.map enc).flatten = encs ns := fun ns => by
    induction ns with
    | nil => rfl
    | cons x t ih => rw [List.map_cons, List.flatten_cons, ih]; rfl
  rw [List.flatten_append, h]; simp
theorem join_rows (l : List UInt8) (ls : List (List UInt8)) : ([l] ++ ls.map row).flatten = l ++ rows ls := by
  have h : ∀ ls : List (List UInt8), (ls.map row).flatten = rows ls := fun ls => by
    induction ls with
    | nil => rfl
    | cons x t ih => rw [List.map_cons, List.flatten_cons, ih]; rfl
  rw [List.flatten_append, h]; simp
theorem small_nums {l : List UInt8} {ns : List Nat} (hl : l.length ≤ 300) (hns : ∀ x ∈ ns, x < 18446744073709551616) : ∀ x ∈ [l] ++ ns.map enc, x.length ≤ 1000 := by
  intro x hx
  rw [List.mem_append] at hx
  rcases hx with hx | hx
  · simp at hx; subst hx; omega
  · obtain ⟨y, hy, rfl⟩ := List.mem_map.1 hx
    have := enc_len (hns y hy); omega
theorem small_rows {l : List UInt8} {ls : List (List UInt8)} (hl : l.length ≤ 300) (hls : ∀ x ∈ ls, x.length ≤ 300) : ∀ x ∈ [l] ++ ls.map row, x.length ≤ 1000 := by
  intro x hx
  rw [List.mem_append] at hx
  rcases hx with hx | hx
  · simp at hx; subst hx; omega
  · obtain ⟨y, hy, rfl⟩ := List.mem_map.1 hx
    have h1 := hls y hy
    have := enc_len (n := y.length) (by omega)
    simp [row]; omega

/-- What NumPuts holds of the world behind both calls. -/
def PutsEnd (w wx : World) (l : List UInt8) (ns : List Nat) (ls : List (List UInt8)) (x y : Value) (A0 : Option Addr) (n0 c0 g4 c4 : Nat) (A1 : Option Addr) (k1 : Nat) (A5 : Option Addr) (k5 : Nat) : Prop :=
  ∃ Ax nx cx Ay ny cy vs1 vs2, x = .slice Ax nx cx ∧ y = .slice Ay ny cy ∧ KeepS wx Ax nx cx (l ++ encs ns) ∧ KeepS wx Ay ny cy (l ++ rows ls) ∧ KeepS wx A0 n0 c0 l ∧ KeepS wx (some ⟨g4, 0, none⟩) n0 c4 l ∧
    (∀ W, Below wx.heap.size wx W → W.cell? ⟨g4, n0, none⟩ = some (.int .u8 7)) ∧ Lies wx wx.heap.size A1 vs1 ∧ BytRows wx wx.heap.size vs1 ([l] ++ ns.map enc) ∧ Hid (vs1.length = k1) ∧ Lies wx wx.heap.size A5 vs2 ∧ BytRows wx wx.heap.size vs2 ([l] ++ ls.map row) ∧ Hid (vs2.length = k5) ∧ Below w.heap.size w wx

theorem Try.info22 : (Try.prog.info? 22).map (fun i => (i.zero, i.size, i.bytes)) = some (some (.slice none 0 0), 1, 24) := by kernel_rfl

end Go.Proofs.Ythpdcoodfjficaa
