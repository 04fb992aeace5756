/- Put of one frame; what SlideGoes keeps. -/
import Derived.Test.YtbkkpimhoeagdaaSlNa
namespace Go.Proofs.Ytbkkpimhoeagdaa
open Go.ChangeShapes Go.WideShapes Go.ChangeAt Go.RowKit Go.Sort

section
variable {w : World} {base p : Nat} {T : Value} {width last : Nat} {l : List Pf} {D : Nat → Prop}

theorem PutIn.from {w1 w' : World} {Fs : List Fr} (h : PutIn w1 base p T width last l D Fs w') (hb : RowKit.Below w.heap.size w w1) : PutIn w base p T width last l D Fs w' := by
  obtain ⟨T', l', D', h1, h2, h3, h4, h5, h6⟩ := h
  exact ⟨T', l', D', h1, h2, (OnlyE.of_below hb).trans h3, fun b hb' => (h4 b hb').imp id fun h => Nat.le_trans hb.size h, h5, fun b hb' => (h6 b hb').imp id fun h => Nat.le_trans hb.size h⟩

theorem put_one_any (h : WinAt w base p T width last l D) (x : Pf) (hX : x.X w (WD p T)) (hok : x.F.Ok) (hlow : last + 1 ≤ 1000000) :
    Calls Try.prog 31 #[.pointer (some ⟨p, 0, none⟩), .slice (some ⟨w.heap.size, 0, none⟩) 1 1] (w.alloc (.cells x.cs 44)) fun e w' =>
      e = .returned (.int .i64 ((min 1 (width - l.length) : Nat) : Int)) ∧ PutIn w base p T width last l D ([x.F].take (min 1 (width - l.length))) w' := by
  have hbA : RowKit.Below w.heap.size w (w.alloc (.cells x.cs 44)) := (RowKit.Below.refl _ _).alloc (Nat.le_refl _) _
  have hn : ¬ WD p T w.heap.size := fun e => by have := h.wlt e; omega
  have hL := LiesX.of_new (w := w) x.cs 44 hn
  rw [← flat_single] at hL
  refine (put_any (h.on hbA) (some ⟨w.heap.size, 0, none⟩) 1 1 [x] rfl (by decide) (Nat.le_refl _) hL (fun y hy => ?_) (fun y hy => ?_) hlow).mono ?_
  · simp only [List.mem_cons, List.not_mem_nil, or_false] at hy
    subst hy
    exact hX.on hbA
  · simp only [List.mem_cons, List.not_mem_nil, or_false] at hy
    subst hy
    exact hok
  · rintro e w' ⟨he, hP⟩
    exact ⟨he, hP.from hbA⟩

theorem put_one_room (h : WinAt w base p T width last l D) (x : Pf) (hX : x.X w (WD p T)) (hok : x.F.Ok) (hlow : last + 1 ≤ 1000000) (hr : l.length < width) :
    Calls Try.prog 31 #[.pointer (some ⟨p, 0, none⟩), .slice (some ⟨w.heap.size, 0, none⟩) 1 1] (w.alloc (.cells x.cs 44)) fun e w' =>
      e = .returned (.int .i64 1) ∧ PutIn w base p T width last l D [x.F] w' := by
  have := put_one_any h x hX hok hlow
  rw [show min 1 (width - l.length) = 1 by omega] at this
  exact this
theorem put_one_full (h : WinAt w base p T width last l D) (x : Pf) (hX : x.X w (WD p T)) (hok : x.F.Ok) (hlow : last + 1 ≤ 1000000) (hr : ¬ l.length < width) :
    Calls Try.prog 31 #[.pointer (some ⟨p, 0, none⟩), .slice (some ⟨w.heap.size, 0, none⟩) 1 1] (w.alloc (.cells x.cs 44)) fun e w' =>
      e = .returned (.int .i64 0) ∧ PutIn w base p T width last l D [] w' := by
  have := put_one_any h x hX hok hlow
  rw [show min 1 (width - l.length) = 0 by omega] at this
  exact this
end

def u3 (n : Nat) : Value := .int .u32 (n : Int)
def u3vs (l : List Nat) : List Value := l.map u3
theorem ints_nums32 {zs : List Int} (h : ∀ n ∈ zs, (Lit.int .u32 n).wf = true) : zs.map (Value.int .u32) = u3vs (zs.map Int.toNat) := by
  unfold u3vs
  rw [List.map_map]
  refine List.map_congr_left fun z hz => ?_
  have := bounds_u32 (h z hz)
  simp only [Function.comp, u3]
  congr 1
  omega
section
variable {H : Type} {enc : TypeId × Value → H} {P : Program} {w : World} {base : Nat} {spare : Nat → Bool} {held : Bool}
theorem open_nums32 {t e : TypeId} {fuel : Nat} {v : Value} {x : DataW H × List MemPlace} (ht : P.underlying t = some (.slice e)) (he : P.underlying e = some (.int .u32)) (hc : P.cellsOf e = 1)
    (h : DataW.trod enc P w base spare held fuel t [v] = some x) : ∃ l A n c, v = .slice A n c ∧ l.length = n ∧ n ≤ c ∧ c ≤ maxLen ∧ Lies w w.heap.size A (u3vs l) ∧ ∀ x ∈ l, x < 4294967296 := by
  rcases open_ints ht he hc h with ⟨hcs, _⟩ | ⟨a, len, cap, zs, hcs, _, hl, hm, hz, _, hcell, hwz⟩
  · injection hcs with hcs
    subst hcs
    exact ⟨[], none, 0, 0, rfl, rfl, Nat.le_refl _, Nat.zero_le _, Lies.nil, by simp⟩
  · injection hcs with hcs
    subst hcs
    have hlz : len ≤ zs.length := by rw [hz]; split <;> omega
    refine ⟨(zs.take len).map Int.toNat, some a, len, cap, rfl, by simp; omega, hl, hm, ?_, ?_⟩
    · rw [← ints_nums32 (fun n hn => hwz n (List.mem_of_mem_take hn))]
      exact lies_ints hcell
    · intro x hx
      obtain ⟨z, hz, rfl⟩ := List.mem_map.1 hx
      have := bounds_u32 (hwz z (List.mem_of_mem_take hz))
      omega
end

theorem num_at : ∀ (l : List Fr) (n i : Nat) (h : i < l.length) (h' : i < (num n l).length), (num n l)[i] = seqd l[i] (n + i + 1)
  | F :: r, n, 0, _, _ => rfl
  | F :: r, n, i + 1, h, h' => by
    have h1 : i < r.length := by simpa using h
    have h2 : i < (num (n + 1) r).length := by rw [num_length]; exact h1
    show (num (n + 1) r)[i] = _
    rw [num_at r (n + 1) i h1 h2, show n + 1 + i + 1 = n + (i + 1) + 1 by omega]
    rfl

/-- What a window is, of whose frames so many were put in. -/
def fronts (l : List Nat) (next n : Nat) : List Fr := ((num 0 (l.map atF)).take next).drop (next - n)

theorem fronts_len (l : List Nat) (next n : Nat) (h : next ≤ l.length) (hn : n ≤ next) : (fronts l next n).length = n := by
  unfold fronts
  rw [List.length_drop, List.length_take, num_length, List.length_map]
  omega
theorem fronts_at (l : List Nat) (next n j : Nat) (hn : n ≤ next) (hj : j < n) (h2 : next - n + j < l.length) : (fronts l next n)[j]? = some (seqd (atF l[next - n + j]) (next - n + j + 1)) := by
  have h3 : next - n + j < (num 0 (l.map atF)).length := by rw [num_length, List.length_map]; exact h2
  unfold fronts
  rw [List.getElem?_drop, List.getElem?_take, if_pos (by omega), List.getElem?_eq_getElem h3, num_at _ _ _ (by rw [List.length_map]; exact h2), List.getElem_map, Nat.zero_add]
theorem fronts_put (l : List Nat) (next n : Nat) (h : next < l.length) (hn : n ≤ next) : fronts l next n ++ num next [atF l[next]] = fronts l (next + 1) (n + 1) := by
  unfold fronts
  have hl : next < (num 0 (l.map atF)).length := by rw [num_length, List.length_map]; exact h
  rw [List.take_succ_eq_append_getElem hl, show next + 1 - (n + 1) = next - n by omega, List.drop_append_of_le_length (by rw [List.length_take]; omega), num_at _ _ _ (by rw [List.length_map]; exact h), List.getElem_map, Nat.zero_add]
  rfl
theorem fronts_drop (l : List Nat) (next n k : Nat) (hn : n ≤ next) (hk : k ≤ n) : (fronts l next n).drop k = fronts l next (n - k) := by
  unfold fronts
  rw [List.drop_drop, show next - n + k = next - (n - k) by omega]

structure GoI (w : World) (p width : Nat) (l : List Nat) (next i : Nat) (T : Value) (lw : List Pf) (D : Nat → Prop) (W : World) : Prop where
  win : WinAt W w.heap.size p T width next lw D
  eq : lw.map Pf.F = fronts l next lw.length
  le : next ≤ l.length
  pot : i + min lw.length 1 ≤ 2 * next
  below : RowKit.Below w.heap.size w W

theorem GoI.on {w W W' : World} {p width next i : Nat} {l : List Nat} {T : Value} {lw : List Pf} {D : Nat → Prop} (h : GoI w p width l next i T lw D W) (hb : RowKit.Below W.heap.size W W') : GoI w p width l next i T lw D W' :=
  ⟨h.win.on hb, h.eq, h.le, h.pot, h.below.trans (hb.mono h.below.size)⟩

/-- What stands between a Put and the Acked behind it. -/
structure GoM (w : World) (p width : Nat) (l : List Nat) (next i k : Nat) (T : Value) (lw : List Pf) (D : Nat → Prop) (W : World) : Prop where
  win : WinAt W w.heap.size p T width next lw D
  eq : lw.map Pf.F = fronts l next lw.length
  le : next ≤ l.length
  kle : k ≤ lw.length
  pot : i + 1 + min (lw.length - k) 1 ≤ 2 * next
  below : RowKit.Below w.heap.size w W

theorem GoI.put {w W W' : World} {p width next i : Nat} {l : List Nat} {T : Value} {lw : List Pf} {D : Nat → Prop} (h : GoI w p width l next i T lw D W) (hlt : next < l.length) (hP : PutIn W w.heap.size p T width next lw D [atF l[next]] W') :
    ∃ T' lw' D', (∀ k, k ≤ lw'.length → GoM w p width l (next + 1) i k T' lw' D' W') ∧ lw'.length = lw.length + 1 := by
  obtain ⟨T', lw', D', hW, hl, ho, -, -, -⟩ := hP
  have hlen := PutIn.len hl
  refine ⟨T', lw', D', fun k hk => ⟨hW, ?_, hlt, hk, ?_, h.below.trans (ho.below (fun b hb => (h.win.din b (h.win.dw b hb)).1) h.below.size)⟩, hlen⟩
  · rw [hl, h.eq, hlen]
    exact fronts_put l next lw.length hlt h.win.fit2
  · have := h.pot; omega
theorem GoI.full {w W W' : World} {p width next i : Nat} {l : List Nat} {T : Value} {lw : List Pf} {D : Nat → Prop} (h : GoI w p width l next i T lw D W) (hf : ¬ lw.length < width) (hP : PutIn W w.heap.size p T width next lw D [] W') :
    ∃ T' lw' D', GoM w p width l next i lw'.length T' lw' D' W' := by
  obtain ⟨T', lw', D', hW, hl, ho, -, -, -⟩ := hP
  have hlen := PutIn.len hl
  simp only [List.length_nil, Nat.add_zero] at hlen
  refine ⟨T', lw', D', hW, ?_, h.le, Nat.le_refl _, ?_, h.below.trans (ho.below (fun b hb => (h.win.din b (h.win.dw b hb)).1) h.below.size)⟩
  · rw [hl, h.eq, hlen]
    simp [num]
  · have := h.pot
    have := h.win.wid1
    omega
theorem GoM.acked {w W W' : World} {p width next i k : Nat} {l : List Nat} {T : Value} {lw : List Pf} {D : Nat → Prop} (h : GoM w p width l next i k T lw D W) {W1 : World} (hb1 : RowKit.Below W.heap.size W W1) (hA : AckedW W1 w.heap.size p T width next (lw.drop k) D W') :
    ∃ T' lw', GoI w p width l next (i + 1) T' lw' D W' ∧ lw'.length = lw.length - k := by
  obtain ⟨T', hW, ho, -⟩ := hA
  have hlen : (lw.drop k).length = lw.length - k := List.length_drop
  have hb : RowKit.Below w.heap.size w W1 := h.below.trans (hb1.mono h.below.size)
  refine ⟨T', lw.drop k, ⟨hW, ?_, h.le, ?_, hb.trans (ho.below (fun b hb => ?_) hb.size)⟩, hlen⟩
  · rw [List.map_drop, h.eq, hlen]
    exact fronts_drop l next lw.length k h.win.fit2 h.kle
  · rw [hlen]; exact h.pot
  · have h1 := h.win.on hb1
    exact (h1.din b (h1.dw b hb)).1
theorem GoM.on {w W W' : World} {p width next i k : Nat} {l : List Nat} {T : Value} {lw : List Pf} {D : Nat → Prop} (h : GoM w p width l next i k T lw D W) (hb : RowKit.Below W.heap.size W W') : GoM w p width l next i k T lw D W' :=
  ⟨h.win.on hb, h.eq, h.le, h.kle, h.pot, h.below.trans (hb.mono h.below.size)⟩

/-- Acked of the first ones. -/
theorem ackN_first (next n k : Nat) (hn : n ≤ next) (hk : k ≤ n) : ackN next n (firstN next n + k - 1) = k := by
  unfold ackN firstN
  split <;> omega

end Go.Proofs.Ytbkkpimhoeagdaa
