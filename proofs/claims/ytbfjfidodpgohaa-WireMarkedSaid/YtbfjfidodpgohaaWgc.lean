/- The document's takeRuns: runs that stand next. -/
import Derived.Test.YtbfjfidodpgohaaWgb

namespace Go.Proofs.Ytbfjfidodpgohaa
open Go.RowKit Go.Sort

/-- Runs that are put out so far, beside a reader in box g. -/
def TkR (W : World) (B g : Nat) (L : List Rn) (s : Rs) (v : Value) (wr : World) : Prop :=
  RowKit.Below W.heap.size W wr ∧ W.heap.size ≤ g ∧ RBox wr B g s ∧ ∃ N, wr.ownsRow W.heap.size 102 3 v N (flat encRn L) ∧ Hid (L.length = N) ∧ v.ownBlock ≠ some g

theorem TkR.on {W : World} {B g : Nat} {L : List Rn} {s : Rs} {v : Value} {wr w' : World} (h : TkR W B g L s v wr) (hB : B ≤ W.heap.size) (hb : RowKit.Below wr.heap.size wr w') : TkR W B g L s v w' := by
  obtain ⟨h1, h2, h3, N, h4, h5, h6⟩ := h
  exact ⟨h1.trans (hb.mono h1.size), h2, h3.on (Nat.le_trans hB h1.size) hb, N, own_below h4 hb, h5, h6⟩

theorem TkR.set {W : World} {B g : Nat} {L : List Rn} {s s' : Rs} {v : Value} {wr : World} (h : TkR W B g L s v wr) (hB : B ≤ W.heap.size) {cs : Array Value} (hr : RAt wr B s' (.agg cs)) : TkR W B g L s' v (wr.setRow g cs) := by
  obtain ⟨h1, h2, h3, N, h4, h5, h6⟩ := h
  exact ⟨Below.setRow h1 h2 cs, h2, h3.set (Nat.le_trans hB h2) hr, N, h4.kept (grown_setRow wr g cs) (.inr h6), h5, h6⟩

/-- append(owned, y), beside a reader in box g. -/
theorem wpList_pushTkR {W : World} {B g : Nat} {L : List Rn} {sR : Rs} {wb : World} {ops : Array Oper} {rest : List Oper} {o : Oper} {a : Act} {Q : Exit → Act → World → Prop} (hgd : o.guard = none) (s x : Operand)
    (ho : o.op = .call { callee := .builtin .append, args := #[s, x], argTypes := #[30, 30] }) (y : Rn) (v : Value) (hs : a.eval s = v) (Bk : Nat) (hx : a.eval x = .slice (some ⟨Bk, 0, none⟩) 1 1) (hBk : Bk = wb.heap.size)
    (yf ya yc : Int) (hyf : (y.f : Int) = yf) (hya : (y.a : Int) = ya) (hyc : (y.c : Int) = yc)
    (hT : TkR W B g L sR v wb) (hB : B ≤ W.heap.size) (hn : L.length ≤ 1000)
    (h : ∀ v' w', TkR W B g (L ++ [y]) sR v' w' → wpList Try.prog ops Q rest (a.put o.dst v') w') :
    wpList Try.prog ops Q (o :: rest) a (wb.alloc (.cells #[.int .u8 yf, .int .u64 ya, .int .u64 yc] 102)) := by
  subst hBk hyf hya hyc
  obtain ⟨i0, hi, hz0, hz1, hz2⟩ := info_parts Try.infoRun
  obtain ⟨h1, h2, h3, N, h4, h5, h6⟩ := hT
  have hN : N ≤ 1000 := by rw [← h5.out]; exact hn
  have hgl := h3.lt
  have hA : RowKit.Below wb.heap.size wb (wb.alloc (.cells #[.int .u8 (y.f : Int), .int .u64 (y.a : Int), .int .u64 (y.c : Int)] 102)) := (RowKit.Below.refl _ _).alloc (Nat.le_refl _) _
  refine wpList_append_lstK hgd s x 30 ho W.heap.size 3 (by decide) 102 i0 (.agg #[.int .u8 0, .int .u64 0, .int .u64 0]) 24 Try.underlying30 hi hz0 hz1 hz2 rfl v N (flat encRn L) hs (h4.alloc _) _ _ 1 1 [.int .u8 (y.f : Int), .int .u64 (y.a : Int), .int .u64 (y.c : Int)] hx rfl (lies_new wb #[.int .u8 (y.f : Int), .int .u64 (y.a : Int), .int .u64 (y.c : Int)] 102) (by simp [Value.oneCell']) (by unfold maxLen; omega) (by omega) (by have := h1.size; simp; omega) ?_
  intro v' w' hown' hg' hb' hv'
  refine h v' w' ⟨(h1.alloc h1.size _).trans hb', h2, ?_, N + 1, ?_, by show _ = _; rw [List.length_append, h5.out]; rfl, ?_⟩
  · obtain ⟨cs, hcs, hr⟩ := h3.on (Nat.le_trans hB h1.size) hA
    refine ⟨cs, (hg'.block g (by simp; omega) (fun e => h6 e.symm)).trans hcs, ?_⟩
    exact hr.below (hb'.mono hB)
  · rw [flat_append]
    exact hown'
  · rcases hv' with e | e
    · rw [e]; exact h6
    · rw [e]
      intro e2
      injection e2 with e2
      simp at e2
      omega

theorem rRuns_left (k : Nat) (s : Rs) : (rRuns k s).2.1.length ≤ s.1.length := by
  induction k with
  | zero => exact Nat.le_refl _
  | succ k ih => exact Nat.le_trans (Nat.le_trans (Nat.le_trans (rN_le top _).2 (rN_le top _).2) (rN_le 255 _).2) ih

/-- What takeRuns answers. -/
def RunsTook (w : World) (B : Nat) (s : Rs) (e : Ending) (w' : World) : Prop :=
  ∃ A n c v', e = .returned (.tuple #[.slice A n c, v']) ∧ RAt w' B (gRuns s).2 v' ∧ ((gRuns s).2.2 = 0 → (gRuns s).1.length = n ∧ w'.ownsRow w.heap.size 102 3 (.slice A n c) n (flat encRn (gRuns s).1)) ∧ RowKit.Below w.heap.size w w'

theorem TkR.took {w W : World} {B g : Nat} {k : Nat} {s : Rs} {v : Value} {wr : World} (h : TkR W B g (rRuns k (rN 64 s).2).1 (rRuns k (rN 64 s).2).2 v wr) (hB : B ≤ w.heap.size) (hk : k ≤ (rN 64 s).1) (hd : k = (rN 64 s).1 ∨ (rRuns k (rN 64 s).2).2.2 ≠ 0)
    (hW : RowKit.Below w.heap.size w W) (p : Nat) (hp : w.heap.size ≤ p) (hp2 : p < W.heap.size) : ∃ cs A n c, wr.heap[g]? = some (.cells cs 59 (0, 0)) ∧ RAt wr B (rRuns k (rN 64 s).2).2 (.agg cs) ∧ v = .slice A n c ∧ ∀ W2, RowKit.Below wr.heap.size wr W2 → RunsTook w B s (.returned (.tuple #[.slice A n c, .agg cs])) (W2.setRow p cs) := by
  obtain ⟨h1, h2, ⟨cs, hg, hr⟩, N, h4, h5, h6⟩ := h
  obtain ⟨A, c, rfl, -, -⟩ := own_sliceK h4
  have hWs := hW.size
  have h1s := h1.size
  have e2 : (gRuns s).2 = (rRuns k (rN 64 s).2).2 := by
    rcases hd with hd | hd
    · rw [hd]; rfl
    · exact rRuns_stop hd hk
  refine ⟨cs, A, N, c, hg, hr, rfl, ?_⟩
  intro W2 hW2
  refine ⟨A, N, c, _, rfl, ?_, ?_, ?_⟩
  · rw [e2]
    exact (hr.below (hW2.mono (by omega))).below (Below.setRow (RowKit.Below.refl _ _) (by omega) cs)
  · intro h0
    rw [e2] at h0
    have hk2 : k = (rN 64 s).1 := hd.resolve_right (fun h => h h0)
    have ho := (own_below h4 hW2).kept (grown_setRow W2 p cs) (.inr (fun e => by have := (h4.lt _ e).1; omega))
    have e3 : (gRuns s).1 = (rRuns k (rN 64 s).2).1 := by rw [hk2]; rfl
    rw [e3]
    exact ⟨h5.out, own_base ho hWs⟩
  · exact Below.setRow (hW.trans ((h1.trans (hW2.mono h1s)).mono hWs)) hp cs

/-- Beside a run in box q, too. -/
def TkX (W : World) (B g q : Nat) (bx : Array Value) (L : List Rn) (s : Rs) (v : Value) (V : World) : Prop :=
  TkR W B g L s v V ∧ V.heap[q]? = some (.cells bx 102 (0, 0)) ∧ W.heap.size ≤ q ∧ q ≠ g ∧ v.ownBlock ≠ some q

theorem TkX.on {W : World} {B g q : Nat} {bx : Array Value} {L : List Rn} {s : Rs} {v : Value} {V V' : World} (h : TkX W B g q bx L s v V) (hB : B ≤ W.heap.size) (hb : RowKit.Below V.heap.size V V') : TkX W B g q bx L s v V' :=
  ⟨h.1.on hB hb, (hb.block q (Array.getElem?_eq_some_iff.1 h.2.1).1).trans h.2.1, h.2.2⟩
theorem TkX.set {W : World} {B g q : Nat} {bx : Array Value} {L : List Rn} {s s' : Rs} {v : Value} {V : World} (h : TkX W B g q bx L s v V) (hB : B ≤ W.heap.size) {cs : Array Value} (hr : RAt V B s' (.agg cs)) : TkX W B g q bx L s' v (V.setRow g cs) :=
  ⟨h.1.set hB hr, (setRow_other V g q cs h.2.2.2.1).trans h.2.1, h.2.2⟩
theorem TkX.put {W : World} {B g q : Nat} {bx : Array Value} {L : List Rn} {s : Rs} {v : Value} {V : World} (h : TkX W B g q bx L s v V) (hB : B ≤ W.heap.size) (i : Nat) (u : Value) : TkX W B g q (bx.setIfInBounds i u) L s v (V.setCell ⟨q, i, none⟩ u) := by
  obtain ⟨⟨h1, h2, ⟨cs, hg, hr⟩, N, h4, h5, h6⟩, h7, h8, h9, h10⟩ := h
  have hb : RowKit.Below W.heap.size V (V.setCell ⟨q, i, none⟩ u) := (RowKit.Below.refl _ _).setCell (p := ⟨q, i, none⟩) h8 u
  exact ⟨⟨h1.trans hb, h2, ⟨cs, row_setOther hg h9 i u, hr.below (hb.mono hB)⟩, N, h4.kept (grown_setCell V q i u) (.inr h10), h5, h6⟩, heap_setCell_row h7 i u, h8, h9, h10⟩
theorem TkX.new {W : World} {B g : Nat} {L : List Rn} {s : Rs} {v : Value} {wr : World} (h : TkR W B g L s v wr) (hB : B ≤ W.heap.size) (bx : Array Value) : TkX W B g wr.heap.size bx L s v (wr.alloc (.cells bx 102)) := by
  have hA : RowKit.Below wr.heap.size wr (wr.alloc (.cells bx 102)) := (RowKit.Below.refl _ _).alloc (Nat.le_refl _) _
  refine ⟨h.on hB hA, heap_alloc_new _ _, h.1.size, ?_, ?_⟩
  · have := h.2.2.1.lt; omega
  · obtain ⟨_, _, _, N, h4, _⟩ := h
    intro e
    have := (h4.lt _ e).2
    omega
theorem TkX.cells {W : World} {B g q : Nat} {v0 v1 v2 : Value} {L : List Rn} {s : Rs} {v : Value} {V : World} (h : TkX W B g q #[v0, v1, v2] L s v V) :
    V.cell? ⟨q, 0, none⟩ = some v0 ∧ V.cell? ⟨q, 1, none⟩ = some v1 ∧ V.cell? ⟨q, 2, none⟩ = some v2 ∧ (∀ i, V.frozen? ⟨q, i, none⟩ = false) :=
  ⟨cell_of_row V q 0 _ _ _ h.2.1, cell_of_row V q 1 _ _ _ h.2.1, cell_of_row V q 2 _ _ _ h.2.1, row_frozen h.2.1⟩
theorem TkX.box {W : World} {B g q : Nat} {bx : Array Value} {L : List Rn} {s : Rs} {v : Value} {V : World} (h : TkX W B g q bx L s v V) : ∃ cs, Hid (V.heap[g]? = some (.cells cs 59 (0, 0))) ∧ Hid (cs.size = 2) ∧ RAt V B s (.agg cs) := by
  obtain ⟨⟨_, _, ⟨cs, hg, hr⟩, _⟩, _⟩ := h
  exact ⟨cs, hg, hr.size, hr⟩

/-- A call of R.Num behind a number of runs. -/
def NumDone (B : Nat) (y : Nat) (s : Rs) (W : World) (e : Ending) (w' : World) : Prop := ∃ cs, e = .returned (.tuple #[.int .u64 (y : Int), .agg cs]) ∧ RAt w' B s (.agg cs) ∧ Hid (cs.size = 2) ∧ Hid (cs.all (·.oneCell') = true) ∧ RowKit.Below W.heap.size W w'

theorem numDone (m : Nat) {W : World} {B : Nat} {s : Rs} {cs : Array Value} (h : RAt W B s (.agg cs)) (hB : B ≤ W.heap.size) (hl : s.1.length ≤ 4000) : Calls Try.prog 23 #[.agg cs, .int .u64 (m : Int)] W (NumDone B (rN m s).1 (rN m s).2 W) := by
  refine (rNum_v m h hB hl).mono ?_
  rintro e w' ⟨v', rfl, hr, hb⟩
  obtain ⟨cs', rfl⟩ := hr.agg
  exact ⟨cs', rfl, hr, hr.size, hr.one, hb⟩

set_option maxRecDepth 100000 in
set_option maxHeartbeats 3200000 in
theorem refTakeRuns_any {w : World} {B : Nat} {s : Rs} {v : Value} (h : RAt w B s v) (hB : B ≤ w.heap.size) (hl : s.1.length ≤ 4000) :
    Calls Try.prog 49 #[v] w (RunsTook w B s) := by
  have HN : Hid (∀ W, RowKit.Below w.heap.size w W → Calls Try.prog 23 #[v, .int .u64 64] W fun e w' => ∃ v', e = .returned (.tuple #[.int .u64 ((rN 64 s).1 : Int), v']) ∧ RAt w' B (rN 64 s).2 v' ∧ RowKit.Below W.heap.size W w') := fun W hW => rNum_v 64 (h.below (hW.mono hB)) (Nat.le_trans hB hW.size) hl
  have HR1 : Hid (∀ k W cs, RAt W B (rRuns k (rN 64 s).2).2 (.agg cs) → B ≤ W.heap.size → Calls Try.prog 23 #[.agg cs, .int .u64 255] W (NumDone B (rRun (rRuns k (rN 64 s).2).2).1.f (rN 255 (rRuns k (rN 64 s).2).2).2 W)) := fun k W cs hR hB => numDone 255 hR hB (Nat.le_trans (rRuns_left _ _) (Nat.le_trans (rN_le 64 s).2 hl))
  have HR2 : Hid (∀ k W cs, RAt W B (rN 255 (rRuns k (rN 64 s).2).2).2 (.agg cs) → B ≤ W.heap.size → Calls Try.prog 23 #[.agg cs, .int .u64 18446744073709551615] W (NumDone B (rRun (rRuns k (rN 64 s).2).2).1.a (rN top (rN 255 (rRuns k (rN 64 s).2).2).2).2 W)) := fun k W cs hR hB => numDone top hR hB (Nat.le_trans (rN_le 255 _).2 (Nat.le_trans (rRuns_left _ _) (Nat.le_trans (rN_le 64 s).2 hl)))
  have HR3 : Hid (∀ k W cs, RAt W B (rN top (rN 255 (rRuns k (rN 64 s).2).2).2).2 (.agg cs) → B ≤ W.heap.size → Calls Try.prog 23 #[.agg cs, .int .u64 18446744073709551615] W (NumDone B (rRun (rRuns k (rN 64 s).2).2).1.c (rRuns (k + 1) (rN 64 s).2).2 W)) := fun k W cs hR hB => numDone top hR hB (Nat.le_trans (rN_le top _).2 (Nat.le_trans (rN_le 255 _).2 (Nat.le_trans (rRuns_left _ _) (Nat.le_trans (rN_le 64 s).2 hl))))
  have HT : Hid (∀ W g k v wr, RowKit.Below w.heap.size w W → w.heap.size + 1 < W.heap.size → TkR W B g (rRuns k (rN 64 s).2).1 (rRuns k (rN 64 s).2).2 v wr → k ≤ (rN 64 s).1 → (k = (rN 64 s).1 ∨ (rRuns k (rN 64 s).2).2.2 ≠ 0) → ∃ cs A n c, wr.heap[g]? = some (.cells cs 59 (0, 0)) ∧ RAt wr B (rRuns k (rN 64 s).2).2 (.agg cs) ∧ v = .slice A n c ∧ ∀ W2, RowKit.Below wr.heap.size wr W2 → RunsTook w B s (.returned (.tuple #[.slice A n c, .agg cs])) (W2.setRow (w.heap.size + 1) cs)) := fun W g k v wr hW hp hT hk hd => hT.took hB hk hd hW _ (by omega) hp
  have hN := (rN_le 64 s).1
  obtain ⟨A, n, c, rfl, -, -, -⟩ := id h
  clear h hl
  generalize rN 64 s = r at HN HR1 HR2 HR3 HT hN
  obtain ⟨N, s1⟩ := r
  dsimp only at HN HR1 HR2 HR3 HT hN
  generalize s.2 = er0 at HN ⊢
  go_enter Try.func49, Try.ntmps49
  go_wp2_with fail
  generalize hw0 : World.alloc (World.alloc (World.alloc w _) _) _ = W3
  obtain ⟨W, hsW, hbW, hb3, hp2, ho3⟩ := take_boxes 3 hw0
  clear hw0
  have hBW : B ≤ W.heap.size := by omega
  refine (HN.out W3 (hbW.trans (hb3.mono (by omega)))).mono ?_
  rintro e w1 ⟨v1, rfl, hr1, hb1⟩
  obtain ⟨cs1, rfl⟩ := hr1.agg
  have HS1 := Lib.hid hr1.size
  have HO1 := Lib.hid hr1.one
  have hs3 : W.heap.size < W3.heap.size := by have := (ho3.lt (w.heap.size + 2) rfl).2; omega
  have HT0 : Hid (TkR W B w1.heap.size (rRuns 0 s1).1 (rRuns 0 s1).2 (.slice (some ⟨w.heap.size + 2, 0, none⟩) 0 0) (w1.alloc (.cells cs1 59))) := by
    have hbA : RowKit.Below w1.heap.size w1 (w1.alloc (.cells cs1 59)) := (RowKit.Below.refl _ _).alloc (Nat.le_refl _) _
    have hs1 := hb1.size
    refine ⟨(hb3.trans (hb1.mono hb3.size)).trans (hbA.mono (by omega)), by omega, ⟨cs1, heap_alloc_new _ _, hr1.below (hbA.mono (by omega))⟩, 0, own_below (own_below ho3 hb1) hbA, rfl, ?_⟩
    intro e
    injection e with e
    simp at e
    omega
  have hgW : w.heap.size + 1 < W.heap.size := by omega
  have HBW := Lib.hid hbW
  have HP2 := Lib.hid hp2
  clear hr1 hb1 hb3 hp2 ho3 HN hbW hsW hs3
  go_wp2_with (first | (refine store_R_new (.tmp 6) (.tmp 15) rfl rfl rfl rfl HS1.out HO1.out ?_) | fail)
  generalize w1.alloc (.cells cs1 59) = wz at HT0 ⊢
  generalize w1.heap.size = g at HT0 ⊢
  clear HS1 HO1
  go_wp2
  go_loopw [4, 7, 8, 9] (fun s4 s7 _ _ wr => ∃ k : Nat, k ≤ N ∧ s7 = .int .u64 k ∧ TkR W B g (rRuns k s1).1 (rRuns k s1).2 s4 wr) (fun _ s7 _ _ _ => N - (intOf s7).toNat)
  case atStart => exact ⟨0, Nat.zero_le _, rfl, HT0.out⟩
  case round =>
    obtain ⟨k, hk, rfl, hT⟩ := hrel
    obtain ⟨cs, hg, hr⟩ := hT.2.2.1
    have e1 : wr.cell? ⟨g, 1, none⟩ = some (.int .i64 ((rRuns k s1).2.2 : Int)) := by rw [cell_of_row wr g 1 _ _ _ hg]; exact hr.err
    have f1 := row_frozen hg 1
    have HLn : Hid ((rRuns k s1).1.length = k) := rRuns_len k s1
    by_cases hgo : k < N ∧ (rRuns k s1).2.2 = 0
    · obtain ⟨hlt, he⟩ := hgo
      rw [he] at e1
      have hd : decide (k < N) = true := by simpa using hlt
      have HX0 := Lib.hid (TkX.new hT hBW #[.int .u8 0, .int .u64 0, .int .u64 0])
      have HC1 : Hid (∀ W cs, RAt W B (rRuns k s1).2 (.agg cs) → B ≤ W.heap.size → Calls Try.prog 23 #[.agg cs, .int .u64 255] W (NumDone B (rRun (rRuns k s1).2).1.f (rN 255 (rRuns k s1).2).2 W)) := HR1.out k
      have HC2 : Hid (∀ W cs, RAt W B (rN 255 (rRuns k s1).2).2 (.agg cs) → B ≤ W.heap.size → Calls Try.prog 23 #[.agg cs, .int .u64 18446744073709551615] W (NumDone B (rRun (rRuns k s1).2).1.a (rN top (rN 255 (rRuns k s1).2).2).2 W)) := HR2.out k
      have HC3 : Hid (∀ W cs, RAt W B (rN top (rN 255 (rRuns k s1).2).2).2 (.agg cs) → B ≤ W.heap.size → Calls Try.prog 23 #[.agg cs, .int .u64 18446744073709551615] W (NumDone B (rRun (rRuns k s1).2).1.c (rRuns (k + 1) s1).2 W)) := HR3.out k
      have HRR : Hid ((rRuns (k + 1) s1).1 = (rRuns k s1).1 ++ [(rRun (rRuns k s1).2).1]) := rfl
      have hyf : (rRun (rRuns k s1).2).1.f < 256 := (rRun (rRuns k s1).2).1.hf
      clear hT hg hr he HR1 HR2 HR3 HT HT0
      generalize hL1 : (rRuns (k + 1) s1).1 = Lk1 at HRR
      generalize hS1 : (rRuns (k + 1) s1).2 = sk1 at HC3
      have HL1 := Lib.hid hL1
      have HS1' := Lib.hid hS1
      clear hL1 hS1
      generalize rN top (rN 255 (rRuns k s1).2).2 = r2 at HC2 HC3
      generalize rN 255 (rRuns k s1).2 = r1 at HC1 HC2
      generalize rRun (rRuns k s1).2 = rr at HC1 HC2 HC3 HRR hyf
      obtain ⟨y, _⟩ := rr
      dsimp only at HC1 HC2 HC3 HRR hyf
      generalize (rRuns k s1).1 = Lk at HRR HLn HX0
      generalize (rRuns k s1).2 = sk at HC1 HX0
      obtain ⟨cs0, HG0, HS0, hr0⟩ := HX0.out.box
      have HR0 := Lib.hid hr0
      clear hr0
      go_wp2_with (first | (refine load_R (.tmp 6) rfl HG0.out HS0.out ?_) | fail)
      have HB0 : Hid (B ≤ (wr.alloc (.cells #[.int .u8 0, .int .u64 0, .int .u64 0] 102)).heap.size) := Nat.le_trans hBW HX0.out.1.1.size
      clear HG0 HS0 e1 f1
      generalize wr.alloc (.cells #[.int .u8 0, .int .u64 0, .int .u64 0] 102) = V0 at HX0 HR0 HB0 ⊢
      generalize wr.heap.size = q at HX0 ⊢
      refine (HC1.out V0 cs0 HR0.out HB0.out).mono ?_
      rintro e V1 ⟨cs1, rfl, hr1, HS1, HO1, hb1⟩
      have hX1 := HX0.out.on hBW hb1
      obtain ⟨cz1, HGz1, HSz1, -⟩ := hX1.box
      have hX1s := hX1.set hBW hr1
      obtain ⟨x0, x1, x2, fx⟩ := hX1s.cells
      have hX2 : TkX W B g q #[.int .u8 (y.f : Int), .int .u64 0, .int .u64 0] Lk r1.2 u4 ((V1.setRow g cs1).setCell ⟨q, 0, none⟩ (.int .u8 (y.f : Int))) := hX1s.put hBW 0 _
      obtain ⟨cs2, HG2, HS2, hr2⟩ := hX2.box
      have HX2 := Lib.hid hX2
      have HR2 := Lib.hid hr2
      have HB2 : Hid (B ≤ ((V1.setRow g cs1).setCell ⟨q, 0, none⟩ (.int .u8 (y.f : Int))).heap.size) := Nat.le_trans hBW hX2.1.1.size
      clear HX0 HR0 HB0 HC1 hX1 hX1s hX2 hr1 hr2 hb1
      go_wp2_with (first | (refine store_R (.tmp 6) (.tmp 31) rfl rfl HGz1.out HSz1.out HS1.out HO1.out ?_) | (refine load_R (.tmp 6) rfl HG2.out HS2.out ?_) | fail)
      clear HGz1 HSz1 HS1 HO1 HG2 HS2 x0 x1 x2 fx
      generalize (V1.setRow g cs1).setCell ⟨q, 0, none⟩ (.int .u8 (y.f : Int)) = V2 at HX2 HR2 HB2 ⊢
      refine (HC2.out V2 cs2 HR2.out HB2.out).mono ?_
      rintro e V3 ⟨cs3, rfl, hr3, HS3, HO3, hb3⟩
      have hX3 := HX2.out.on hBW hb3
      obtain ⟨x0, x1, x2, fx⟩ := hX3.cells
      have hX3p : TkX W B g q #[.int .u8 (y.f : Int), .int .u64 (y.a : Int), .int .u64 0] Lk r1.2 u4 (V3.setCell ⟨q, 1, none⟩ (.int .u64 (y.a : Int))) := hX3.put hBW 1 _
      obtain ⟨cz3, HGz3, HSz3, -⟩ := hX3p.box
      have hr3' : RAt (V3.setCell ⟨q, 1, none⟩ (.int .u64 (y.a : Int))) B r2.2 (.agg cs3) := hr3.below ((RowKit.Below.refl _ _).setCell (p := ⟨q, 1, none⟩) (Nat.le_trans hBW hX3.2.2.1) _)
      have hX4 := hX3p.set hBW hr3'
      obtain ⟨cs4, HG4, HS4, hr4⟩ := hX4.box
      have HX4 := Lib.hid hX4
      have HR4 := Lib.hid hr4
      have HB4 : Hid (B ≤ ((V3.setCell ⟨q, 1, none⟩ (.int .u64 (y.a : Int))).setRow g cs3).heap.size) := Nat.le_trans hBW hX4.1.1.size
      clear HX2 HR2 HB2 HC2 hX3 hX3p hX4 hr3 hr3' hr4 hb3
      go_wp2_with (first | (refine store_R (.tmp 6) (.tmp 39) rfl rfl HGz3.out HSz3.out HS3.out HO3.out ?_) | (refine load_R (.tmp 6) rfl HG4.out HS4.out ?_) | fail)
      clear HGz3 HSz3 HS3 HO3 HG4 HS4 x0 x1 x2 fx
      generalize (V3.setCell ⟨q, 1, none⟩ (.int .u64 (y.a : Int))).setRow g cs3 = V4 at HX4 HR4 HB4 ⊢
      refine (HC3.out V4 cs4 HR4.out HB4.out).mono ?_
      rintro e V5 ⟨cs5, rfl, hr5, HS5, HO5, hb5⟩
      have hX5 := HX4.out.on hBW hb5
      obtain ⟨x0, x1, x2, fx⟩ := hX5.cells
      have hX5p : TkX W B g q #[.int .u8 (y.f : Int), .int .u64 (y.a : Int), .int .u64 (y.c : Int)] Lk r2.2 u4 (V5.setCell ⟨q, 2, none⟩ (.int .u64 (y.c : Int))) := hX5.put hBW 2 _
      obtain ⟨cz5, HGz5, HSz5, -⟩ := hX5p.box
      have hr5' : RAt (V5.setCell ⟨q, 2, none⟩ (.int .u64 (y.c : Int))) B sk1 (.agg cs5) := hr5.below ((RowKit.Below.refl _ _).setCell (p := ⟨q, 2, none⟩) (Nat.le_trans hBW hX5.2.2.1) _)
      have hX6 := hX5p.set hBW hr5'
      obtain ⟨z0, z1, z2, fz⟩ := hX6.cells
      have HT6 := Lib.hid hX6.1
      have HSZ : Hid (V5.heap.size = ((V5.setCell ⟨q, 2, none⟩ (.int .u64 (y.c : Int))).setRow g cs5).heap.size) := by show _ = _; simp [World.setRow, World.setCell]
      have hln : Lk.length ≤ 1000 := by have := HLn.out; omega
      clear HX4 HR4 HB4 HC3 hX5 hX5p hX6 hr5 hr5' hb5
      go_wp2_with (first | (refine store_R (.tmp 6) (.tmp 45) rfl rfl HGz5.out HSz5.out HS5.out HO5.out ?_) | (at_builtin; refine wpList_pushTkR rfl (.tmp 47) (.tmp 49) rfl y _ rfl _ rfl HSZ.out _ _ _ rfl rfl rfl HT6.out hBW hln ?_) | fail)
      intro v4 w4 hT4
      rw [← HRR.out] at hT4
      have HT4 := Lib.hid hT4
      clear hT4 HT6 hln HLn HGz5 HSz5 HS5 HO5 x0 x1 x2 fx z0 z1 z2 fz
      go_wp2
      go_roundw
      case rel => exact ⟨k + 1, by omega, by go_num, by rw [HL1.out, HS1'.out]; exact HT4.out⟩
      case measure => simp [intOf]; omega
    · have hd : k = N ∨ (rRuns k s1).2.2 ≠ 0 := by
        by_cases e : k = N
        · exact .inl e
        · exact .inr fun h => hgo ⟨by omega, h⟩
      obtain ⟨cs', A', n', c', hg', hr', rfl, hfin⟩ := HT.out W g k _ wr HBW.out hgW hT hk hd
      obtain ⟨A2, n2, c2, ecs, -, -, -⟩ := id hr'
      injection ecs with ecs
      subst ecs
      have hgp : (⟨g, 0, none⟩ : Addr).block ≠ w.heap.size + 1 := by have := hT.2.1; show g ≠ _; omega
      have hgp1 : (⟨g, 1, none⟩ : Addr).block ≠ w.heap.size + 1 := hgp
      have HPD : Hid (wr.drew.heap[w.heap.size + 1]? = some (.cells #[.slice none 0 0, .int .i64 0] 59 (0, 0))) := (hT.1.block _ hgW).trans HP2.out
      have hd0 : wr.drew.cell? ⟨g, 0, none⟩ = some (.slice A2 n2 c2) := cell_of_row wr g 0 _ _ _ hg'
      have hd1 : wr.drew.cell? ⟨g, 1, none⟩ = some (.int .i64 ((rRuns k s1).2.2 : Int)) := cell_of_row wr g 1 _ _ _ hg'
      have HD0 := Lib.hid hd0
      have HD1 := Lib.hid hd1
      have HOA := Lib.hid hr'.one
      have HF := Lib.hid (hfin wr.drew ((RowKit.Below.refl _ _).drew))
      have hq : k < N → decide (k < N) = true ∧ (((rRuns k s1).2.2 : Int) == 0) = false := fun h => ⟨by simpa using h, by
        have : (rRuns k s1).2.2 ≠ 0 := fun e => hgo ⟨h, e⟩
        generalize (rRuns k s1).2.2 = e0 at this
        simp; omega⟩
      clear hT hg hr hg' hr' hfin hd hgo HT HT0 HR1 HR2 HR3 HLn hd0 hd1
      generalize (rRuns k s1).2.2 = er1 at *
      by_cases hlt : k < N
      · obtain ⟨hd1, hd2⟩ := hq hlt
        clear hq
        go_upto_region 13 with fail
        refine wp_region_held_drew (S := fun V => V.cell? ⟨g, 0, none⟩ = some (.slice A2 n2 c2) ∧ V.cell? ⟨g, 1, none⟩ = some (.int .i64 (er1 : Int))) (by kernel_rfl) ⟨HD0.out, HD1.out⟩ (fun hHeld => ?_)
        refine wpAnyH_takeAt (i := 0) (d := 51) (v := ?_) rfl rfl (by kernel_rfl) (by kernel_rfl) (by kernel_rfl) (fun _ _ _ h => h) (Or.inl ⟨by rfl, ?_⟩) hHeld ?_
        rotate_left
        · (intro _ hSw; go_simp; try with_reducible rfl)
        simp only [List.setIfInBounds_toArray, List.set_cons_zero, List.set_cons_succ]
        refine wpAnyH_takeAt (i := 1) (d := 52) (v := ?_) rfl rfl (by kernel_rfl) (by kernel_rfl) (by kernel_rfl) (fun _ _ _ h => h) (Or.inl ⟨by rfl, ?_⟩) hHeld ?_
        rotate_left
        · (intro _ hSw; go_simp; try with_reducible rfl)
        simp only [List.setIfInBounds_toArray, List.set_cons_zero, List.set_cons_succ]
        refine wpAnyH_takeAt (i := 2) (d := 2) (v := ?_) rfl rfl (by kernel_rfl) (by kernel_rfl) (by kernel_rfl) (fun _ _ _ h => h) (Or.inl ⟨by rfl, ?_⟩) hHeld ?_
        rotate_left
        · (intro _ hSw; go_simp; try with_reducible rfl)
        simp only [List.setIfInBounds_toArray, List.set_cons_zero, List.set_cons_succ]
        refine wpAnyH_ready (rs := [3]) (by kernel_rfl) (by simp) ?_
        refine AllReadyH.cons rfl (fun K hK => ?_) AllReadyH.nil
        refine wp_store_R (x := .tmp 3) (y := .tmp 52) rfl rfl rfl rfl HPD.out rfl rfl HOA.out ?_
        go_simp
        refine hK.out _ _ ⟨(cell_setRow_other _ _ _ _ hgp).trans HD0.out, (cell_setRow_other _ _ _ _ hgp1).trans HD1.out⟩ (fun hHeld => ?_)
        clear hK K
        refine wpAnyH_done (by kernel_rfl) ?_ _
        go_wp2
        refine bodyPost_ret (results_tmp_cell rfl _ _ (w.heap.size + 1) _ rfl (load_rowR (setRow_heap _ _ _ _ _ _ HPD.out) rfl)) rfl ?_
        exact HF.out
      · have hd1 : decide (k < N) = false := by simpa using hlt
        clear hq
        go_upto_region 13 with fail
        refine wp_region_held_drew (S := fun V => V.cell? ⟨g, 0, none⟩ = some (.slice A2 n2 c2) ∧ V.cell? ⟨g, 1, none⟩ = some (.int .i64 (er1 : Int))) (by kernel_rfl) ⟨HD0.out, HD1.out⟩ (fun hHeld => ?_)
        refine wpAnyH_takeAt (i := 0) (d := 51) (v := ?_) rfl rfl (by kernel_rfl) (by kernel_rfl) (by kernel_rfl) (fun _ _ _ h => h) (Or.inl ⟨by rfl, ?_⟩) hHeld ?_
        rotate_left
        · (intro _ hSw; go_simp; try with_reducible rfl)
        simp only [List.setIfInBounds_toArray, List.set_cons_zero, List.set_cons_succ]
        refine wpAnyH_takeAt (i := 1) (d := 52) (v := ?_) rfl rfl (by kernel_rfl) (by kernel_rfl) (by kernel_rfl) (fun _ _ _ h => h) (Or.inl ⟨by rfl, ?_⟩) hHeld ?_
        rotate_left
        · (intro _ hSw; go_simp; try with_reducible rfl)
        simp only [List.setIfInBounds_toArray, List.set_cons_zero, List.set_cons_succ]
        refine wpAnyH_takeAt (i := 2) (d := 2) (v := ?_) rfl rfl (by kernel_rfl) (by kernel_rfl) (by kernel_rfl) (fun _ _ _ h => h) (Or.inl ⟨by rfl, ?_⟩) hHeld ?_
        rotate_left
        · (intro _ hSw; go_simp; try with_reducible rfl)
        simp only [List.setIfInBounds_toArray, List.set_cons_zero, List.set_cons_succ]
        refine wpAnyH_ready (rs := [3]) (by kernel_rfl) (by simp) ?_
        refine AllReadyH.cons rfl (fun K hK => ?_) AllReadyH.nil
        refine wp_store_R (x := .tmp 3) (y := .tmp 52) rfl rfl rfl rfl HPD.out rfl rfl HOA.out ?_
        go_simp
        refine hK.out _ _ ⟨(cell_setRow_other _ _ _ _ hgp).trans HD0.out, (cell_setRow_other _ _ _ _ hgp1).trans HD1.out⟩ (fun hHeld => ?_)
        clear hK K
        refine wpAnyH_done (by kernel_rfl) ?_ _
        go_wp2
        refine bodyPost_ret (results_tmp_cell rfl _ _ (w.heap.size + 1) _ rfl (load_rowR (setRow_heap _ _ _ _ _ _ HPD.out) rfl)) rfl ?_
        exact HF.out

end Go.Proofs.Ytbfjfidodpgohaa
