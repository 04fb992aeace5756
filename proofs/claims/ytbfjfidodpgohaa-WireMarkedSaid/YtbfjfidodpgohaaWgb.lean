/- The document's reader in a box, and numbers that are put out beside it. -/
import Derived.Test.YtbfjfidodpgohaaWga

namespace Go.Proofs.Ytbfjfidodpgohaa
open Go.RowKit Go.Sort

theorem infoR {cs : Array Value} (h : cs.size = 2) : (Try.prog.info? 59).map (·.size) = some cs.size := by
  rw [h]
  kernel_rfl

section
variable {ops : Array Oper} {rest : List Oper} {dst : Option Tmp} {ty : TypeId} {pos : String} {aft : Array Edge} {a : Act} {w : World} {Q : Exit → Act → World → Prop} {cs : Array Value}

/-- A reader is loaded whole. -/
theorem load_R (x : Operand) {g : Nat} (hx : a.eval x = .pointer (some ⟨g, 0, none⟩)) (hg : w.heap[g]? = some (.cells cs 59 (0, 0))) (hs : cs.size = 2)
    (h : wpList Try.prog ops Q rest (a.put dst (.agg cs)) w) : wpList Try.prog ops Q (⟨dst, .load 59 x, ty, pos, aft, none⟩ :: rest) a w :=
  wpList_load_row rfl _ x rfl g hx _ cs (0, 0) _ hg Try.underlying59 rfl (infoR hs) h

/-- A reader is stored whole. -/
theorem store_R (x y : Operand) {g : Nat} {old : Array Value} (hx : a.eval x = .pointer (some ⟨g, 0, none⟩)) (hy : a.eval y = .agg cs) (hg : w.heap[g]? = some (.cells old 59 (0, 0))) (ho : old.size = 2) (hs : cs.size = 2) (h1 : cs.all (·.oneCell') = true)
    (h : wpList Try.prog ops Q rest (a.put dst undef) (w.setRow g cs)) : wpList Try.prog ops Q (⟨dst, .store 59 x y, ty, pos, aft, none⟩ :: rest) a w :=
  wpList_store_row rfl _ x y rfl g cs hx hy _ old hg (infoR hs) (by omega) h1 h

/-- So into the block that was made last. -/
theorem store_R_new (x y : Operand) {w1 : World} {g : Nat} {old : Array Value} (hgw : g = w1.heap.size) (hx : a.eval x = .pointer (some ⟨g, 0, none⟩)) (hy : a.eval y = .agg cs) (ho : old.size = 2) (hs : cs.size = 2) (h1 : cs.all (·.oneCell') = true)
    (h : wpList Try.prog ops Q rest (a.put dst undef) (w1.alloc (.cells cs 59))) : wpList Try.prog ops Q (⟨dst, .store 59 x y, ty, pos, aft, none⟩ :: rest) a (w1.alloc (.cells old 59)) := by
  subst hgw
  refine store_R x y hx hy (heap_alloc_new _ _) ho hs h1 ?_
  rw [setRow_new]
  exact h
end

theorem load_rowR {W : World} {g : Nat} {cs : Array Value} (hg : W.heap[g]? = some (.cells cs 59 (0, 0))) (hs : cs.size = 2) : (loadVar 59 ⟨g, 0, none⟩).run Try.prog W = .ok (.agg cs) W :=
  run_loadVar_row W g _ _ cs (0, 0) _ hg Try.underlying59 rfl (infoR hs)

/-- A reader is stored whole, in a region that draws its order. -/
theorem wp_store_R {o : Oper} {a : Act} {w : World} {ys : Nat → Option Bool} {K : Act → World → Prop} {Q : Exit → Act → World → Prop} {x y : Operand} {g : Nat} {cs old : Array Value} (hgd : o.guard = none) (ho : o.op = .store 59 x y)
    (hx : a.eval x = .pointer (some ⟨g, 0, none⟩)) (hy : a.eval y = .agg cs) (hg : w.heap[g]? = some (.cells old 59 (0, 0))) (hold : old.size = 2) (hs : cs.size = 2) (h1 : cs.all (·.oneCell') = true)
    (hk : K (a.put o.dst undef) (w.setRow g cs)) : if Region.wanted o ys = true then Oper.wp Try.prog o a w K Q else K (a.put o.dst undef) w := by
  rw [if_pos (by simp [Region.wanted, hgd])]
  exact wp_store_row _ x y ho g cs hx hy _ old hg (infoR hs) (by omega) h1 hk

theorem results_tmp_cell {fn : Func} {p q : Tmp} {ty : TypeId} (h : fn.results = #[.tmp q, .cell p ty]) (tmps : Array Value) (w : World) (g : Nat) (cs : Array Value)
    (hp : tmps.getD p undef = .pointer (some ⟨g, 0, none⟩)) (hl : (loadVar ty ⟨g, 0, none⟩).run Try.prog w = .ok (.agg cs) w) :
    (results fn tmps).run Try.prog w = .ok (.tuple #[tmps.getD q undef, .agg cs]) w := by
  have hp' : tmps[p]?.getD undef = .pointer (some ⟨g, 0, none⟩) := by simpa using hp
  simp [results, h, hp', asAddr, hl]

theorem grown_setRow (w : World) (g : Nat) (cs : Array Value) : w.grownBy (w.setRow g cs) (some g) :=
  ⟨rfl, rfl, rfl, by simp [World.setRow], fun k _ hk => setRow_other w g k cs (by rintro rfl; exact hk rfl)⟩

theorem RAt.size {w : World} {B : Nat} {s : Rs} {cs : Array Value} (h : RAt w B s (.agg cs)) : cs.size = 2 := by
  obtain ⟨A, n, c, e, _⟩ := h
  injection e with e
  subst e
  rfl
theorem RAt.one {w : World} {B : Nat} {s : Rs} {cs : Array Value} (h : RAt w B s (.agg cs)) : cs.all (·.oneCell') = true := by
  obtain ⟨A, n, c, e, _⟩ := h
  injection e with e
  subst e
  simp only [List.all_toArray, List.all_cons, List.all_nil, Bool.and_true]
  rfl
theorem RAt.err {w : World} {B : Nat} {s : Rs} {cs : Array Value} (h : RAt w B s (.agg cs)) : cs[1]? = some (.int .i64 (s.2 : Int)) := by
  obtain ⟨A, n, c, e, _⟩ := h
  injection e with e
  subst e
  rfl
theorem RAt.agg {w : World} {B : Nat} {s : Rs} {v : Value} (h : RAt w B s v) : ∃ cs, v = .agg cs := by
  obtain ⟨A, n, c, e, _⟩ := h
  exact ⟨_, e⟩

/-- Box g holds a reader. -/
def RBox (w : World) (B g : Nat) (s : Rs) : Prop := ∃ cs, w.heap[g]? = some (.cells cs 59 (0, 0)) ∧ RAt w B s (.agg cs)
theorem RBox.on {w w' : World} {B g : Nat} {s : Rs} (h : RBox w B g s) (hB : B ≤ w.heap.size) (hb : RowKit.Below w.heap.size w w') : RBox w' B g s := by
  obtain ⟨cs, hg, hr⟩ := h
  exact ⟨cs, (hb.block g (Array.getElem?_eq_some_iff.1 hg).1).trans hg, hr.below (hb.mono hB)⟩
theorem RBox.lt {w : World} {B g : Nat} {s : Rs} (h : RBox w B g s) : g < w.heap.size := by
  obtain ⟨cs, hg, _⟩ := h
  exact (Array.getElem?_eq_some_iff.1 hg).1
theorem RBox.set {w : World} {B g : Nat} {s s' : Rs} (h : RBox w B g s) (hg : B ≤ g) {cs : Array Value} (hr : RAt w B s' (.agg cs)) : RBox (w.setRow g cs) B g s' := by
  obtain ⟨cs0, hg0, _⟩ := h
  exact ⟨cs, setRow_heap w g _ cs _ _ hg0, hr.below (Below.setRow (RowKit.Below.refl _ _) hg cs)⟩

/-- Numbers that are put out so far, beside a reader in box g. -/
def TkN (W : World) (B g : Nat) (L : List Nat) (s : Rs) (v : Value) (wr : World) : Prop :=
  RowKit.Below W.heap.size W wr ∧ W.heap.size ≤ g ∧ RBox wr B g s ∧ ∃ N, wr.ownsRow W.heap.size 26 1 v N (uvs L) ∧ Hid (L.length = N) ∧ v.ownBlock ≠ some g

theorem TkN.on {W : World} {B g : Nat} {L : List Nat} {s : Rs} {v : Value} {wr w' : World} (h : TkN W B g L s v wr) (hB : B ≤ W.heap.size) (hb : RowKit.Below wr.heap.size wr w') : TkN W B g L s v w' := by
  obtain ⟨h1, h2, h3, N, h4, h5, h6⟩ := h
  exact ⟨h1.trans (hb.mono h1.size), h2, h3.on (Nat.le_trans hB h1.size) hb, N, own_below h4 hb, h5, h6⟩

theorem TkN.set {W : World} {B g : Nat} {L : List Nat} {s s' : Rs} {v : Value} {wr : World} (h : TkN W B g L s v wr) (hB : B ≤ W.heap.size) {cs : Array Value} (hr : RAt wr B s' (.agg cs)) : TkN W B g L s' v (wr.setRow g cs) := by
  obtain ⟨h1, h2, h3, N, h4, h5, h6⟩ := h
  exact ⟨Below.setRow h1 h2 cs, h2, h3.set (Nat.le_trans hB h2) hr, N, h4.kept (grown_setRow wr g cs) (.inr h6), h5, h6⟩

/-- append(owned, y), beside a reader in box g. -/
theorem wpList_pushTk {W : World} {B g : Nat} {L : List Nat} {sR : Rs} {wb : World} {ops : Array Oper} {rest : List Oper} {o : Oper} {a : Act} {Q : Exit → Act → World → Prop} (hgd : o.guard = none) (s x : Operand)
    (ho : o.op = .call { callee := .builtin .append, args := #[s, x], argTypes := #[31, 31] }) (y : Nat) (v : Value) (hs : a.eval s = v) (Bk : Nat) (hx : a.eval x = .slice (some ⟨Bk, 0, none⟩) 1 1) (hBk : Bk = wb.heap.size)
    (hT : TkN W B g L sR v wb) (hB : B ≤ W.heap.size) (hn : L.length ≤ 1000)
    (h : ∀ v' w', TkN W B g (L ++ [y]) sR v' w' → wpList Try.prog ops Q rest (a.put o.dst v') w') :
    wpList Try.prog ops Q (o :: rest) a (wb.alloc (.cells #[.int .u64 (y : Int)] 26)) := by
  subst hBk
  obtain ⟨i0, hi, hz0, hz1, hz2⟩ := info_parts Try.infoU
  obtain ⟨h1, h2, h3, N, h4, h5, h6⟩ := hT
  have hN : N ≤ 1000 := by rw [← h5.out]; exact hn
  have hgl := h3.lt
  have hA : RowKit.Below wb.heap.size wb (wb.alloc (.cells #[.int .u64 (y : Int)] 26)) := (RowKit.Below.refl _ _).alloc (Nat.le_refl _) _
  refine wpList_append_lst hgd s x 31 ho W.heap.size 26 i0 (.int .u64 0) 8 Try.underlying31 hi hz0 hz1 hz2 rfl v N (uvs L) hs (h4.alloc _) _ _ 1 1 [.int .u64 (y : Int)] hx rfl (lies_new wb #[.int .u64 (y : Int)] 26) (by simp [Value.oneCell']) (by unfold maxLen; omega) (by omega) (by have := h1.size; simp; omega) ?_
  intro v' w' hown' hg' hb' hv'
  refine h v' w' ⟨(h1.alloc h1.size _).trans hb', h2, ?_, N + 1, ?_, by show _ = _; rw [List.length_append, h5.out]; rfl, ?_⟩
  · obtain ⟨cs, hcs, hr⟩ := h3.on (Nat.le_trans hB h1.size) hA
    refine ⟨cs, (hg'.block g (by simp; omega) (fun e => h6 e.symm)).trans hcs, ?_⟩
    exact hr.below (hb'.mono hB)
  · rw [uvs_append]
    exact hown'
  · rcases hv' with e | e
    · rw [e]; exact h6
    · rw [e]
      intro e2
      injection e2 with e2
      simp at e2
      omega

theorem rVec_left (k : Nat) (s : Rs) : (rVec k s).2.1.length ≤ s.1.length := by
  induction k with
  | zero => exact Nat.le_refl _
  | succ k ih => exact Nat.le_trans (rN_le top (rVec k s).2).2 ih

/-- What takeNums answers. -/
def NumsTook (w : World) (B : Nat) (s : Rs) (e : Ending) (w' : World) : Prop :=
  ∃ A n c v', e = .returned (.tuple #[.slice A n c, v']) ∧ RAt w' B (gVec s).2 v' ∧ ((gVec s).2.2 = 0 → (gVec s).1.length = n ∧ w'.ownsRow w.heap.size 26 1 (.slice A n c) n (uvs (gVec s).1)) ∧ RowKit.Below w.heap.size w w'

theorem TkN.took {w W : World} {B g : Nat} {k : Nat} {s : Rs} {v : Value} {wr : World} (h : TkN W B g (rVec k (rN 64 s).2).1 (rVec k (rN 64 s).2).2 v wr) (hB : B ≤ w.heap.size) (hk : k ≤ (rN 64 s).1) (hd : k = (rN 64 s).1 ∨ (rVec k (rN 64 s).2).2.2 ≠ 0)
    (hW : RowKit.Below w.heap.size w W) (p : Nat) (hp : w.heap.size ≤ p) (hp2 : p < W.heap.size) : ∃ cs A n c, wr.heap[g]? = some (.cells cs 59 (0, 0)) ∧ RAt wr B (rVec k (rN 64 s).2).2 (.agg cs) ∧ v = .slice A n c ∧ ∀ W2, RowKit.Below wr.heap.size wr W2 → NumsTook w B s (.returned (.tuple #[.slice A n c, .agg cs])) (W2.setRow p cs) := by
  obtain ⟨h1, h2, ⟨cs, hg, hr⟩, N, h4, h5, h6⟩ := h
  obtain ⟨A, c, rfl, -, -⟩ := own_slice h4
  have hWs := hW.size
  have h1s := h1.size
  have e2 : (gVec s).2 = (rVec k (rN 64 s).2).2 := by
    rcases hd with hd | hd
    · rw [hd]; rfl
    · exact rVec_stop hd hk
  refine ⟨cs, A, N, c, hg, hr, rfl, ?_⟩
  intro W2 hW2
  refine ⟨A, N, c, _, rfl, ?_, ?_, ?_⟩
  · rw [e2]
    exact (hr.below (hW2.mono (by omega))).below (Below.setRow (RowKit.Below.refl _ _) (by omega) cs)
  · intro h0
    rw [e2] at h0
    have hk2 : k = (rN 64 s).1 := hd.resolve_right (fun h => h h0)
    have ho := (own_below h4 hW2).kept (grown_setRow W2 p cs) (.inr (fun e => by have := (h4.lt _ e).1; omega))
    have e3 : (gVec s).1 = (rVec k (rN 64 s).2).1 := by rw [hk2]; rfl
    rw [e3]
    exact ⟨h5.out, own_base ho hWs⟩
  · exact Below.setRow (hW.trans ((h1.trans (hW2.mono h1s)).mono hWs)) hp cs

theorem take_boxes (k : Nat) {w W3 : World} {b1 b2 : Array Value} {t u : TypeId} (h : World.alloc (World.alloc (World.alloc w (.cells b1 t)) (.cells b2 t)) (.cells #[] u) = W3) :
    ∃ W, W.heap.size = w.heap.size + 2 ∧ RowKit.Below w.heap.size w W ∧ RowKit.Below W.heap.size W W3 ∧ W.heap[w.heap.size + 1]? = some (.cells b2 t (0, 0)) ∧ W3.ownsRow W.heap.size u k (.slice (some ⟨w.heap.size + 2, 0, none⟩) 0 0) 0 [] := by
  subst h
  refine ⟨(w.alloc (.cells b1 t)).alloc (.cells b2 t), by simp, ((RowKit.Below.refl _ _).alloc (Nat.le_refl _) _).alloc (by simp) _, (RowKit.Below.refl _ _).alloc (Nat.le_refl _) _, ?_, ?_⟩
  · have := heap_alloc_new (w.alloc (.cells b1 t)) (.cells b2 t)
    simpa using this
  · have := World.ownsRow_lit (e := u) (size := k) ((w.alloc (.cells b1 t)).alloc (.cells b2 t)) #[] 0 (Nat.le_refl _) (Nat.zero_le _) (Nat.zero_mul k).symm
    simpa using this

set_option maxRecDepth 100000 in
set_option maxHeartbeats 1600000 in
theorem refTakeNums_any {w : World} {B : Nat} {s : Rs} {v : Value} (h : RAt w B s v) (hB : B ≤ w.heap.size) (hl : s.1.length ≤ 4000) :
    Calls Try.prog 50 #[v] w (NumsTook w B s) := by
  have HN : Hid (∀ W, RowKit.Below w.heap.size w W → Calls Try.prog 23 #[v, .int .u64 64] W fun e w' => ∃ v', e = .returned (.tuple #[.int .u64 ((rN 64 s).1 : Int), v']) ∧ RAt w' B (rN 64 s).2 v' ∧ RowKit.Below W.heap.size W w') := fun W hW => rNum_v 64 (h.below (hW.mono hB)) (Nat.le_trans hB hW.size) hl
  have HR : Hid (∀ k W cs, RAt W B (rVec k (rN 64 s).2).2 (.agg cs) → B ≤ W.heap.size → Calls Try.prog 23 #[.agg cs, .int .u64 18446744073709551615] W fun e w' => ∃ v', e = .returned (.tuple #[.int .u64 ((rN top (rVec k (rN 64 s).2).2).1 : Int), v']) ∧ RAt w' B (rVec (k + 1) (rN 64 s).2).2 v' ∧ RowKit.Below W.heap.size W w') := fun k W cs hR hB => rNum_v top hR hB (Nat.le_trans (rVec_left _ _) (Nat.le_trans (rN_le 64 s).2 hl))
  have HT : Hid (∀ W g k v wr, RowKit.Below w.heap.size w W → w.heap.size + 1 < W.heap.size → TkN W B g (rVec k (rN 64 s).2).1 (rVec k (rN 64 s).2).2 v wr → k ≤ (rN 64 s).1 → (k = (rN 64 s).1 ∨ (rVec k (rN 64 s).2).2.2 ≠ 0) → ∃ cs A n c, wr.heap[g]? = some (.cells cs 59 (0, 0)) ∧ RAt wr B (rVec k (rN 64 s).2).2 (.agg cs) ∧ v = .slice A n c ∧ ∀ W2, RowKit.Below wr.heap.size wr W2 → NumsTook w B s (.returned (.tuple #[.slice A n c, .agg cs])) (W2.setRow (w.heap.size + 1) cs)) := fun W g k v wr hW hp hT hk hd => hT.took hB hk hd hW _ (by omega) hp
  have hN := (rN_le 64 s).1
  obtain ⟨A, n, c, rfl, -, -, -⟩ := id h
  clear h hl
  generalize rN 64 s = r at HN HR HT hN
  obtain ⟨N, s1⟩ := r
  dsimp only at HN HR HT hN
  generalize s.2 = er0 at HN ⊢
  go_enter Try.func50, Try.ntmps50
  go_wp2_with fail
  generalize hw0 : World.alloc (World.alloc (World.alloc w _) _) _ = W3
  obtain ⟨W, hsW, hbW, hb3, hp2, ho3⟩ := take_boxes 1 hw0
  clear hw0
  have hBW : B ≤ W.heap.size := by omega
  refine (HN.out W3 (hbW.trans (hb3.mono (by omega)))).mono ?_
  rintro e w1 ⟨v1, rfl, hr1, hb1⟩
  obtain ⟨cs1, rfl⟩ := hr1.agg
  have HS1 := Lib.hid hr1.size
  have HO1 := Lib.hid hr1.one
  have hs3 : W.heap.size < W3.heap.size := by have := (ho3.lt (w.heap.size + 2) rfl).2; omega
  have HT0 : Hid (TkN W B w1.heap.size (rVec 0 s1).1 (rVec 0 s1).2 (.slice (some ⟨w.heap.size + 2, 0, none⟩) 0 0) (w1.alloc (.cells cs1 59))) := by
    have hbA : RowKit.Below w1.heap.size w1 (w1.alloc (.cells cs1 59)) := (RowKit.Below.refl _ _).alloc (Nat.le_refl _) _
    have hs1 := hb1.size
    refine ⟨(hb3.trans (hb1.mono hb3.size)).trans (hbA.mono (by omega)), by omega, ⟨cs1, heap_alloc_new _ _, hr1.below (hbA.mono (by omega))⟩, 0, own_below (own_below ho3 hb1) hbA, rfl, ?_⟩
    intro e
    injection e with e
    simp at e
    omega
  have hgW : w.heap.size + 1 < W.heap.size := by omega
  have HBW := Lib.hid hbW
  have HP2 := Lib.hid hp2
  have HSW := Lib.hid hsW
  clear hr1 hb1 hb3 hp2 ho3 HN hbW hsW hs3
  go_wp2_with (first | (refine store_R_new (.tmp 6) (.tmp 14) rfl rfl rfl rfl HS1.out HO1.out ?_) | fail)
  generalize w1.alloc (.cells cs1 59) = wz at HT0 ⊢
  generalize w1.heap.size = g at HT0 ⊢
  clear HS1 HO1
  go_wp2
  go_loopw [4, 7, 8] (fun s4 s7 _ wr => ∃ k : Nat, k ≤ N ∧ s7 = .int .u64 k ∧ TkN W B g (rVec k s1).1 (rVec k s1).2 s4 wr) (fun _ s7 _ _ => N - (intOf s7).toNat)
  case atStart => exact ⟨0, Nat.zero_le _, rfl, HT0.out⟩
  case round =>
    obtain ⟨k, hk, rfl, hT⟩ := hrel
    obtain ⟨cs, hg, hr⟩ := hT.2.2.1
    have e1 : wr.cell? ⟨g, 1, none⟩ = some (.int .i64 ((rVec k s1).2.2 : Int)) := by rw [cell_of_row wr g 1 _ _ _ hg]; exact hr.err
    have f1 := row_frozen hg 1
    have HLn : Hid ((rVec k s1).1.length = k) := rVec_len k s1
    by_cases hgo : k < N ∧ (rVec k s1).2.2 = 0
    · obtain ⟨hlt, he⟩ := hgo
      rw [he] at e1
      have hd : decide (k < N) = true := by simpa using hlt
      have HG := Lib.hid hg
      have HS := Lib.hid hr.size
      have HC := Lib.hid (HR.out k wr cs hr (Nat.le_trans hBW hT.1.size))
      have HT1 := Lib.hid hT
      clear hT hg hr he
      go_wp2_with (first | (refine load_R (.tmp 6) rfl HG.out HS.out ?_) | fail)
      refine HC.out.mono ?_
      rintro e w2 ⟨v2, rfl, hr2, hb2⟩
      obtain ⟨cs2, rfl⟩ := hr2.agg
      have hT2 := HT1.out.on hBW hb2
      obtain ⟨cs0, hg2, hr0⟩ := hT2.2.2.1
      have HT3 := Lib.hid (hT2.set hBW hr2)
      have HG2 := Lib.hid hg2
      have HSZ : Hid (w2.heap.size = (w2.setRow g cs2).heap.size) := by show _ = _; simp [World.setRow]
      have HS0 := Lib.hid hr0.size
      have HS2 := Lib.hid hr2.size
      have HO2 := Lib.hid hr2.one
      have hln : (rVec k s1).1.length ≤ 1000 := by have := HLn.out; omega
      clear hT2 hg2 hr0 hr2 hb2 HG HS HC HT1 e1 f1
      go_wp2_with (first | (refine store_R (.tmp 6) (.tmp 29) rfl rfl HG2.out HS0.out HS2.out HO2.out ?_) | (at_builtin; refine wpList_pushTk rfl (.tmp 30) (.tmp 32) rfl (rN top (rVec k s1).2).1 _ rfl _ rfl HSZ.out HT3.out hBW hln ?_) | fail)
      intro v4 w4 hT4
      have HT4 : Hid (TkN W B g (rVec (k + 1) s1).1 (rVec (k + 1) s1).2 v4 w4) := hT4
      clear hT4 HT3 HG2 HS0 HS2 HO2 hln HLn
      go_wp2
      go_roundw
      case rel => exact ⟨k + 1, by omega, by go_num, HT4.out⟩
      case measure => simp [intOf]; omega
    · have hd : k = N ∨ (rVec k s1).2.2 ≠ 0 := by
        by_cases e : k = N
        · exact .inl e
        · exact .inr fun h => hgo ⟨by omega, h⟩
      obtain ⟨cs', A', n', c', hg', hr', rfl, hfin⟩ := HT.out W g k _ wr HBW.out hgW hT hk hd
      obtain ⟨A2, n2, c2, ecs, -, -, -⟩ := id hr'
      injection ecs with ecs
      subst ecs
      have hgp : (⟨g, 0, none⟩ : Addr).block ≠ w.heap.size + 1 := by have := hT.2.1; show g ≠ _; omega
      have hgp1 : (⟨g, 1, none⟩ : Addr).block ≠ w.heap.size + 1 := hgp
      have HPD : Hid (wr.drew.heap[w.heap.size + 1]? = some (.cells #[.slice none 0 0, .int .i64 0] 59 (0, 0))) := (hT.1.block _ hgW).trans HP2.out
      have hd0 : wr.drew.cell? ⟨g, 0, none⟩ = some (.slice A2 n2 c2) := cell_of_row wr g 0 _ _ _ hg'
      have hd1 : wr.drew.cell? ⟨g, 1, none⟩ = some (.int .i64 ((rVec k s1).2.2 : Int)) := cell_of_row wr g 1 _ _ _ hg'
      have HD0 := Lib.hid hd0
      have HD1 := Lib.hid hd1
      have HOA := Lib.hid hr'.one
      have HF := Lib.hid (hfin wr.drew ((RowKit.Below.refl _ _).drew))
      have hq : k < N → decide (k < N) = true ∧ (((rVec k s1).2.2 : Int) == 0) = false := fun h => ⟨by simpa using h, by
        have : (rVec k s1).2.2 ≠ 0 := fun e => hgo ⟨h, e⟩
        generalize (rVec k s1).2.2 = e0 at this
        simp; omega⟩
      clear hT hg hr hg' hr' hfin hd hgo HT HR HT0 HLn hd0 hd1
      generalize (rVec k s1).2.2 = er1 at *
      by_cases hlt : k < N
      · obtain ⟨hd1, hd2⟩ := hq hlt
        clear hq
        go_upto_region 9 with fail
        refine wp_region_held_drew (S := fun V => V.cell? ⟨g, 0, none⟩ = some (.slice A2 n2 c2) ∧ V.cell? ⟨g, 1, none⟩ = some (.int .i64 (er1 : Int))) (by kernel_rfl) ⟨HD0.out, HD1.out⟩ (fun hHeld => ?_)
        refine wpAnyH_takeAt (i := 0) (d := 34) (v := ?_) rfl rfl (by kernel_rfl) (by kernel_rfl) (by kernel_rfl) (fun _ _ _ h => h) (Or.inl ⟨by rfl, ?_⟩) hHeld ?_
        rotate_left
        · (intro _ hSw; go_simp; try with_reducible rfl)
        simp only [List.setIfInBounds_toArray, List.set_cons_zero, List.set_cons_succ]
        refine wpAnyH_takeAt (i := 1) (d := 35) (v := ?_) rfl rfl (by kernel_rfl) (by kernel_rfl) (by kernel_rfl) (fun _ _ _ h => h) (Or.inl ⟨by rfl, ?_⟩) hHeld ?_
        rotate_left
        · (intro _ hSw; go_simp; try with_reducible rfl)
        simp only [List.setIfInBounds_toArray, List.set_cons_zero, List.set_cons_succ]
        refine wpAnyH_takeAt (i := 2) (d := 2) (v := ?_) rfl rfl (by kernel_rfl) (by kernel_rfl) (by kernel_rfl) (fun _ _ _ h => h) (Or.inl ⟨by rfl, ?_⟩) hHeld ?_
        rotate_left
        · (intro _ hSw; go_simp; try with_reducible rfl)
        simp only [List.setIfInBounds_toArray, List.set_cons_zero, List.set_cons_succ]
        refine wpAnyH_ready (rs := [3]) (by kernel_rfl) (by simp) ?_
        refine AllReadyH.cons rfl (fun K hK => ?_) AllReadyH.nil
        refine wp_store_R (x := .tmp 3) (y := .tmp 35) rfl rfl rfl rfl HPD.out rfl rfl HOA.out ?_
        go_simp
        refine hK.out _ _ ⟨(cell_setRow_other _ _ _ _ hgp).trans HD0.out, (cell_setRow_other _ _ _ _ hgp1).trans HD1.out⟩ (fun hHeld => ?_)
        clear hK K
        refine wpAnyH_done (by kernel_rfl) ?_ _
        go_wp2
        refine bodyPost_ret (results_tmp_cell rfl _ _ (w.heap.size + 1) _ rfl (load_rowR (setRow_heap _ _ _ _ _ _ HPD.out) rfl)) rfl ?_
        exact HF.out
      · have hd1 : decide (k < N) = false := by simpa using hlt
        clear hq
        go_upto_region 9 with fail
        refine wp_region_held_drew (S := fun V => V.cell? ⟨g, 0, none⟩ = some (.slice A2 n2 c2) ∧ V.cell? ⟨g, 1, none⟩ = some (.int .i64 (er1 : Int))) (by kernel_rfl) ⟨HD0.out, HD1.out⟩ (fun hHeld => ?_)
        refine wpAnyH_takeAt (i := 0) (d := 34) (v := ?_) rfl rfl (by kernel_rfl) (by kernel_rfl) (by kernel_rfl) (fun _ _ _ h => h) (Or.inl ⟨by rfl, ?_⟩) hHeld ?_
        rotate_left
        · (intro _ hSw; go_simp; try with_reducible rfl)
        simp only [List.setIfInBounds_toArray, List.set_cons_zero, List.set_cons_succ]
        refine wpAnyH_takeAt (i := 1) (d := 35) (v := ?_) rfl rfl (by kernel_rfl) (by kernel_rfl) (by kernel_rfl) (fun _ _ _ h => h) (Or.inl ⟨by rfl, ?_⟩) hHeld ?_
        rotate_left
        · (intro _ hSw; go_simp; try with_reducible rfl)
        simp only [List.setIfInBounds_toArray, List.set_cons_zero, List.set_cons_succ]
        refine wpAnyH_takeAt (i := 2) (d := 2) (v := ?_) rfl rfl (by kernel_rfl) (by kernel_rfl) (by kernel_rfl) (fun _ _ _ h => h) (Or.inl ⟨by rfl, ?_⟩) hHeld ?_
        rotate_left
        · (intro _ hSw; go_simp; try with_reducible rfl)
        simp only [List.setIfInBounds_toArray, List.set_cons_zero, List.set_cons_succ]
        refine wpAnyH_ready (rs := [3]) (by kernel_rfl) (by simp) ?_
        refine AllReadyH.cons rfl (fun K hK => ?_) AllReadyH.nil
        refine wp_store_R (x := .tmp 3) (y := .tmp 35) rfl rfl rfl rfl HPD.out rfl rfl HOA.out ?_
        go_simp
        refine hK.out _ _ ⟨(cell_setRow_other _ _ _ _ hgp).trans HD0.out, (cell_setRow_other _ _ _ _ hgp1).trans HD1.out⟩ (fun hHeld => ?_)
        clear hK K
        refine wpAnyH_done (by kernel_rfl) ?_ _
        go_wp2
        refine bodyPost_ret (results_tmp_cell rfl _ _ (w.heap.size + 1) _ rfl (load_rowR (setRow_heap _ _ _ _ _ _ HPD.out) rfl)) rfl ?_
        exact HF.out

end Go.Proofs.Ytbfjfidodpgohaa
