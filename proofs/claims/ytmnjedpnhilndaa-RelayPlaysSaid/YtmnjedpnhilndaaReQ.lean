/- Stage 16: the document's New and Put. -/
import Derived.Test.YtmnjedpnhilndaaReO
set_option maxRecDepth 20000
namespace Go.Proofs.Ytmnjedpnhilndaa
open Go.RowKit Go.Sort Go.Maps

theorem eqlId (x y : Id) (w : World) : (binOp .eql 34 (.agg #[.int .u8 (x.f : Int), .int .u64 (x.s : Int)]) (.agg #[.int .u8 (y.f : Int), .int .u64 (y.s : Int)])).run Try.prog w = .ok (.bool (decide (x = y))) w := by
  have u5 := Try.underlying5
  have a5 := Try.isAgg5
  have z5 := Try.sizeOf5
  have u22 := Try.underlying32
  have a22 := Try.isAgg32
  have z22 := Try.sizeOf32
  have hS : Try.prog.underlying 34 = some (.struct (Try.prog.fieldsOf 34)) := by kernel_rfl
  have hp : Try.prog.stoodInHeld 34 = false := by kernel_rfl
  have he : decide (x = y) = (decide (x.f = y.f) && decide (x.s = y.s)) := by
    rw [Bool.eq_iff_iff]
    simp only [Bool.and_eq_true, decide_eq_true_eq]
    exact ⟨fun h => by subst h; exact ⟨rfl, rfl⟩, fun h => Id.same h.1 h.2⟩
  rw [he, run_eql_struct, show (10000 : Nat) = 9999 + 1 from rfl, run_equalIn_agg w 9999 34 _ _ hS hp]
  simp only [Program.fieldsOf, Try.underlying34]
  go_simp
  by_cases h1 : x.f = y.f <;> by_cases h2 : x.s = y.s <;> simp [h1, h2] <;> omega

theorem infoW {cs : Array Value} (h : cs.size = 3) : (Try.prog.info? 28).map (·.size) = some cs.size := by
  rw [h]
  kernel_rfl
theorem load_rowW {W : World} {g : Nat} {cs : Array Value} (hg : W.heap[g]? = some (.cells cs 28 (0, 0))) (hs : cs.size = 3) : (loadVar 28 ⟨g, 0, none⟩).run Try.prog W = .ok (.agg cs) W :=
  run_loadVar_row W g _ _ cs (0, 0) _ hg Try.underlying28 rfl (infoW hs)


/-- A queue of the document's, as cells. -/
def qc (room : Nat) (v : Value) (lost : Nat) : Array Value := #[.int .i64 (room : Int), v, .int .i64 (lost : Int)]
def zeroQ : Array Value := #[.int .i64 0, .slice none 0 0, .int .i64 0]

theorem refNew_any (r : Int) (w : World) : Calls Try.prog 9 #[.int .i64 r] w fun e w' => e = .returned (.agg (qc (roomN r) (.slice none 0 0) 0)) ∧ RowKit.Below w.heap.size w w' := by
  have hb := alloc_below w
  by_cases h1 : r < 1
  · have d1 : decide (r < 1) = true := decide_eq_true h1
    have hN : roomN r = 1 := by unfold roomN; omega
    rw [hN]
    clear hN
    go_enter Try.func9, Try.ntmps9
    go_wp2
    exact bodyPost_ret (results_cell_row rfl _ _ _ _ _ _ _ rfl (heap_alloc_new _ _) Try.underlying28 rfl (by kernel_rfl)) rfl ⟨rfl, hb _⟩
  · have d1 : decide (r < 1) = false := decide_eq_false h1
    by_cases h2 : 4096 < r
    · have d2 : decide (4096 < r) = true := decide_eq_true h2
      have hN : roomN r = 4096 := by unfold roomN; omega
      rw [hN]
      clear hN
      go_enter Try.func9, Try.ntmps9
      go_wp2
      exact bodyPost_ret (results_cell_row rfl _ _ _ _ _ _ _ rfl (heap_alloc_new _ _) Try.underlying28 rfl (by kernel_rfl)) rfl ⟨rfl, hb _⟩
    · have d2 : decide (4096 < r) = false := decide_eq_false h2
      have HN : Hid (r = (roomN r : Int)) := by show _ = _; unfold roomN; omega
      go_enter Try.func9, Try.ntmps9
      go_wp2
      exact bodyPost_ret (results_cell_row rfl _ _ _ _ _ _ _ rfl (heap_alloc_new _ _) Try.underlying28 rfl (by kernel_rfl)) rfl ⟨by unfold qc; rw [← HN.out]; rfl, hb _⟩

/-- The three boxes of a Put: the window, the frame, the answer. -/
structure PBox (w : World) (gs fs rs : Array Value) (W : World) : Prop where
  below : RowKit.Below w.heap.size w W
  g : W.heap[w.heap.size]? = some (.cells gs 28 (0, 0))
  f : W.heap[w.heap.size + 1]? = some (.cells fs 40 (0, 0))
  r : W.heap[w.heap.size + 1 + 1]? = some (.cells rs 28 (0, 0))

theorem alloc3_blocks (w : World) (o1 o2 o3 : Obj) {W : World} (hW : ((w.alloc o1).alloc o2).alloc o3 = W) :
    W.heap[w.heap.size]? = some o1 ∧ W.heap[w.heap.size + 1]? = some o2 ∧ W.heap[w.heap.size + 1 + 1]? = some o3 ∧ RowKit.Below w.heap.size w W := by
  obtain ⟨h1, h2, h3⟩ := alloc2_blocks w o1 o2 rfl
  subst hW
  refine ⟨(heap_alloc_old _ _ (by simp; omega)).trans h1, (heap_alloc_old _ _ (by simp)).trans h2, ?_, h3.alloc (by simp; omega) _⟩
  have := heap_alloc_new ((w.alloc o1).alloc o2) o3
  simpa using this
theorem PBox.start {w W : World} {gs fs rs : Array Value} (h : ((w.alloc (.cells gs 28)).alloc (.cells fs 40)).alloc (.cells rs 28) = W) : PBox w gs fs rs W := by
  obtain ⟨h1, h2, h3, hb⟩ := alloc3_blocks w _ _ _ h
  exact ⟨hb, h1, h2, h3⟩
theorem PBox.lt {w W : World} {gs fs rs : Array Value} (h : PBox w gs fs rs W) : w.heap.size + 3 ≤ W.heap.size := (Array.getElem?_eq_some_iff.1 h.r).1
theorem PBox.up {w W W' : World} {gs fs rs : Array Value} (h : PBox w gs fs rs W) (hb : RowKit.Below (w.heap.size + 3) W W') : PBox w gs fs rs W' :=
  ⟨h.below.trans (hb.mono (by omega)), (hb.block _ (by omega)).trans h.g, (hb.block _ (by omega)).trans h.f, (hb.block _ (by omega)).trans h.r⟩
theorem PBox.on {w W W' : World} {gs fs rs : Array Value} (h : PBox w gs fs rs W) (hb : RowKit.Below W.heap.size W W') : PBox w gs fs rs W' := h.up (hb.mono h.lt)
theorem PBox.setG {w W : World} {gs fs rs : Array Value} (h : PBox w gs fs rs W) (i : Nat) (u : Value) : PBox w (gs.setIfInBounds i u) fs rs (W.setCell ⟨w.heap.size, i, none⟩ u) :=
  ⟨h.below.setCell (p := ⟨w.heap.size, i, none⟩) (Nat.le_refl _) u, heap_setCell_same W _ i _ _ u h.g, (heap_setCell_other W ⟨w.heap.size, i, none⟩ (w.heap.size + 1) u (by simp)).trans h.f, (heap_setCell_other W ⟨w.heap.size, i, none⟩ (w.heap.size + 1 + 1) u (by simp; omega)).trans h.r⟩
theorem PBox.setR {w W : World} {gs fs rs : Array Value} (h : PBox w gs fs rs W) (i : Nat) (u : Value) : PBox w gs fs (rs.setIfInBounds i u) (W.setCell ⟨w.heap.size + 1 + 1, i, none⟩ u) :=
  ⟨h.below.setCell (p := ⟨w.heap.size + 1 + 1, i, none⟩) (by show w.heap.size ≤ w.heap.size + 1 + 1; omega) u, (heap_setCell_other W ⟨w.heap.size + 1 + 1, i, none⟩ w.heap.size u (by simp; omega)).trans h.g, (heap_setCell_other W ⟨w.heap.size + 1 + 1, i, none⟩ (w.heap.size + 1) u (by simp)).trans h.f, heap_setCell_same W _ i _ _ u h.r⟩
theorem PBox.cellG {w W : World} {gs fs rs : Array Value} (h : PBox w gs fs rs W) (i : Nat) : W.cell? ⟨w.heap.size, i, none⟩ = gs[i]? := cell_of_row W _ i _ _ _ h.g
theorem PBox.cellR {w W : World} {gs fs rs : Array Value} (h : PBox w gs fs rs W) (i : Nat) : W.cell? ⟨w.heap.size + 1 + 1, i, none⟩ = rs[i]? := cell_of_row W _ i _ _ _ h.r
theorem PBox.frG {w W : World} {gs fs rs : Array Value} (h : PBox w gs fs rs W) (i : Nat) : W.frozen? ⟨w.heap.size, i, none⟩ = false := frozen_of_row W _ i _ _ h.g
theorem PBox.frR {w W : World} {gs fs rs : Array Value} (h : PBox w gs fs rs W) (i : Nat) : W.frozen? ⟨w.heap.size + 1 + 1, i, none⟩ = false := frozen_of_row W _ i _ _ h.r

/-- append(frames, frames...), with what is behind it. -/
theorem app_frames {W : World} {base n B m c : Nat} {v : Value} {xs : List Value} {A : Option Addr} {ys : List Pf} (hown : W.ownsRow base 40 16 v n xs) (hl : ys.length = m) (hL : Lies W B A (flat encPf ys)) (hb : base ≤ W.heap.size) (hn : n + m ≤ 10000) :
    ∃ A' c' W', (Builtin.append_ #[26, 26] 26 #[v, .slice A m c]).run Try.prog W = .ok (.slice A' (n + m) c') W' ∧ W'.ownsRow base 40 16 (.slice A' (n + m) c') (n + m) (xs ++ flat encPf ys) ∧
      W.grownBy W' v.ownBlock ∧ RowKit.Below base W W' ∧ n + m ≤ c' ∧ c' ≤ maxLen := by
  obtain ⟨A', c', W', h1, h2, h3, -, h5, h6⟩ := app_frame (c := c) hown hl hL hb hn
  exact ⟨A', c', W', h1, h2, h3, (RowKit.Below.refl _ _).grown h3 hb (fun k e => (hown.lt k e).1), h5, h6⟩
theorem LiesX.at_row {W : World} {D : Nat → Prop} {q : Nat} {cs : Array Value} {t : TypeId} {fr : Nat × Nat} {xs : List Value} (h : W.heap[q]? = some (.cells cs t fr)) (hD : ¬ D q) (hx : cs.toList = xs) : LiesX W D (some ⟨q, 0, none⟩) xs := fun _ =>
  ⟨q, 0, rfl, (Array.getElem?_eq_some_iff.1 h).1, hD, fun i u hu => by
    rw [Nat.zero_add, cell_of_row W q i _ _ _ h, ← hu, ← hx]
    simp⟩


theorem RowX.on {w w' : World} {D : Nat → Prop} {A : Option Addr} {ys : List Pf} (h : RowX w D A ys) (hb : RowKit.Below w.heap.size w w') : RowX w' D A ys := h.kept (OnlyE.of_below hb)

/-- What the document's Put answers. -/
def GotQ (w : World) (room : Nat) (A : Option Addr) (ds : List Pf) (lost : Nat) (x : Pf) (e : Ending) (w' : World) : Prop :=
  ∃ A' c' ds' lost' r, e = .returned (.tuple #[.agg (qc room (.slice A' ds'.length c') lost'), .int .i64 r]) ∧ r = (ds'.length : Int) - (ds.length : Int) ∧ ds'.length ≤ c' ∧ c' ≤ maxLen ∧ (⟨ds'.map Pf.F, lost'⟩ : Qp) = Qp.put room ⟨ds.map Pf.F, lost⟩ x.F ∧ RowKit.Below w.heap.size w w' ∧
    ∀ D, (∀ b, D b → b < w.heap.size) → RowX w D A ds → x.X w D → RowX w' D A' ds'

set_option maxHeartbeats 6400000 in
theorem refPut_any (room lost : Nat) (A : Option Addr) (c : Nat) (ds : List Pf) (x : Pf) (w : World) (hR : RowX w (fun _ => False) A ds) (hx : x.X w (fun _ => False)) (hok : x.F.Ok) (hlen : ds.length ≤ 4096) (hc : ds.length ≤ c) (hcm : c ≤ maxLen) (hlost : lost ≤ 1000000) :
    Calls Try.prog 11 #[.agg (qc room (.slice A ds.length c) lost), .agg x.cs] w (GotQ w room A ds lost x) := by
  have HR := Lib.hid hR
  have HOK := Lib.hid hok
  obtain ⟨a0, a1, a2, a3, a4, a5, a6, a7, a8, a9, a10⟩ := hx.frl.at_
  have HC : Hid (ds.length ≤ c ∧ c ≤ maxLen) := ⟨hc, hcm⟩
  have hgd := guardId
  clear a0 a1 a2 a5 a7 a8 a9 a10 hx hR hok hc hcm
  generalize hN : ds.length = n at hlen
  have HL := Lib.hid hN
  clear hN
  unfold qc
  go_enter Try.func11, Try.ntmps11
  go_wp2_with fail
  generalize hw0 : World.alloc (World.alloc (World.alloc w _) _) _ = w0
  have HB : Hid (PBox w (qc room (.slice A n c) lost) x.cs zeroQ w0) := PBox.start hw0
  clear hw0
  have HF : Hid (∀ V, RowKit.Below w0.heap.size w0 V → V.cell? ⟨w.heap.size, 1, none⟩ = some (.slice A n c) ∧ V.cell? ⟨w.heap.size + 1, 3, none⟩ = some (.int .u8 (x.F.id.f : Int)) ∧ V.cell? ⟨w.heap.size + 1, 3 + 1, none⟩ = some (.int .u64 (x.F.id.s : Int)) ∧ V.cell? ⟨w.heap.size + 1, 6, none⟩ = some (.int .u32 (x.F.at_ : Int))) := fun V hV =>
    ⟨(HB.out.on hV).cellG 1, (cell_of_row V _ 3 _ _ _ (HB.out.on hV).f).trans a3, (cell_of_row V _ 4 _ _ _ (HB.out.on hV).f).trans a4, (cell_of_row V _ 6 _ _ _ (HB.out.on hV).f).trans a6⟩
  clear a3 a4 a6
  go_loopw [6, 10] (fun _ s10 V => ∃ k : Nat, k ≤ n ∧ s10 = .int .i64 k ∧ Hid (RowKit.Below w0.heap.size w0 V) ∧ Hid (∀ j, (hj : j < ds.length) → j < k → ds[j].pl ≠ x.pl)) (fun _ s10 _ => n - (intOf s10).toNat)
  case atStart => exact ⟨0, Nat.zero_le _, rfl, RowKit.Below.refl _ _, fun j _ hj => absurd hj (Nat.not_lt_zero _)⟩
  case round =>
    obtain ⟨k, hk, rfl, hB, hK⟩ := hrel
    by_cases hlt : k < n
    · have hkd : k < ds.length := by rw [HL.out]; exact hlt
      have hXr := HR.out.on (HB.out.below.trans (hB.out.mono HB.out.below.size))
      obtain ⟨bd, off, rfl, hbd, hc⟩ := row_at hXr.row.lies hkd
      have hok2 := hXr.oks _ (List.getElem_mem hkd)
      have HNX : Hid (ds[k].pl ≠ x.pl → ∀ j, (hj : j < ds.length) → j < k + 1 → ds[j].pl ≠ x.pl) := fun h j hj hj2 => by
        by_cases e : j = k
        · subst e; exact h
        · exact hK.out j hj (by omega)
      have HEQ : Hid (ds[k].pl = x.pl → hasF (ds.map Pf.F) (plOf x.F) = true) := fun h => by
        rw [hasF_map]
        exact hasP_iff.2 ⟨_, List.getElem_mem hkd, h⟩
      generalize ds[k] = y at hc hok2 HNX HEQ
      have y3 : wr.cell? ⟨bd, off + k * 16 + 3, none⟩ = some (.int .u8 (y.F.id.f : Int)) := hc 3 _ rfl
      have y4 : wr.cell? ⟨bd, off + k * 16 + 3 + 1, none⟩ = some (.int .u64 (y.F.id.s : Int)) := hc 4 _ rfl
      have y6 : wr.cell? ⟨bd, off + k * 16 + 6, none⟩ = some (.int .u32 (y.F.at_ : Int)) := hc 6 _ rfl
      obtain ⟨z1, z3, z4, z6⟩ := HF.out wr hB.out
      have he := fun W' => eqlId y.F.id x.F.id W'
      have HPL : Hid (y.pl = x.pl ↔ y.F.id = x.F.id ∧ y.F.at_ = x.F.at_) := by
        show _ ↔ _
        constructor
        · intro h
          have h1 := congrArg Pl.a h
          have h2 : (plOf y.F).a = (plOf x.F).a := h1
          rw [plOf_a hok2, plOf_a HOK.out] at h2
          exact ⟨congrArg Pl.x h, h2⟩
        · rintro ⟨h1, h2⟩
          exact Pl.same h1 (by show (plOf y.F).a = (plOf x.F).a; rw [plOf_a hok2, plOf_a HOK.out]; exact h2)
      clear hc hXr hbd hok2
      by_cases hid : y.F.id = x.F.id
      · rw [decide_eq_true hid] at he
        by_cases hat : y.F.at_ = x.F.at_
        · have hat' : ((y.F.at_ : Int) == (x.F.at_ : Int)) = true := by simp; omega
          have HHAS := Lib.hid (HEQ.out (HPL.out.2 ⟨hid, hat⟩))
          clear HNX HEQ HPL hid hat
          go_wp2_with fail
          go_quiet (fail)
          have hB2 : RowKit.Below w0.heap.size w0 (wr.drewN nq) := hB.out.trans (RowKit.Below.mono ⟨rfl, rfl, rfl, Nat.le_refl _, fun _ _ => rfl⟩ hB.out.size)
          have hP := HB.out.on hB2
          generalize wr.drewN nq = W5 at hB2 hP ⊢
          clear hB z1 z3 z4 z6 y3 y4 y6 he
          have g0 := hP.cellG 0
          have g1 := hP.cellG 1
          have g2 := hP.cellG 2
          have q0 := hP.cellR 0
          have q1 := hP.cellR 1
          have q2 := hP.cellR 2
          have r0 := hP.frR 0
          have r1 := hP.frR 1
          have r2 := hP.frR 2
          have HP := Lib.hid hP
          simp only [qc, zeroQ, List.getElem?_toArray, List.getElem?_cons_succ, List.getElem?_cons_zero] at g0 g1 g2 q0 q1 q2
          clear hP hB2
          go_wp2
          have hR := ((HP.out.setR 0 (.int .i64 (room : Int))).setR 1 (.slice (some ⟨bd, off, none⟩) n c)).setR 2 (.int .i64 (lost : Int))
          have hbw := hR.below
          refine bodyPost_ret (results_cell_tmp rfl _ _ (w.heap.size + 1 + 1) _ rfl (load_rowW hR.r rfl)) rfl ?_
          refine ⟨some ⟨bd, off, none⟩, c, ds, lost, 0, by rw [HL.out]; rfl, by omega, HC.out.1, HC.out.2, ?_, hbw, fun D hD h1 h2 => h1.on hbw⟩
          unfold Qp.put
          rw [if_pos HHAS.out]
        · have hat' : ((y.F.at_ : Int) == (x.F.at_ : Int)) = false := by simp; omega
          have HN2 := Lib.hid (HNX.out fun h => hat (HPL.out.1 h).2)
          clear HNX HEQ HPL hid hat
          go_wp2_with fail
          go_quiet (fail)
          go_wp2
          go_roundw
          case rel => exact ⟨k + 1, by omega, by go_num, hB.out.trans (RowKit.Below.mono ⟨rfl, rfl, rfl, Nat.le_refl _, fun _ _ => rfl⟩ hB.out.size), HN2⟩
          case measure => simp [intOf]; omega
      · rw [decide_eq_false hid] at he
        have HN2 := Lib.hid (HNX.out fun h => hid (HPL.out.1 h).1)
        clear HNX HEQ HPL hid
        go_wp2_with fail
        go_quiet (fail)
        go_wp2
        go_roundw
        case rel => exact ⟨k + 1, by omega, by go_num, hB.out.trans (RowKit.Below.mono ⟨rfl, rfl, rfl, Nat.le_refl _, fun _ _ => rfl⟩ hB.out.size), HN2⟩
        case measure => simp [intOf]; omega
    · obtain rfl : k = n := by omega
      have HHAS : Hid (hasF (ds.map Pf.F) (plOf x.F) = false) := by
        show _ = _
        rw [hasF_map]
        refine hasP_no.2 fun y hy => ?_
        obtain ⟨j, hj, rfl⟩ := List.getElem_of_mem hy
        exact hK.out j hj (by rw [← HL.out]; exact hj)
      have hP := HB.out.on hB.out
      clear hK HB HF
      have HB9 := Lib.hid (hP.below)
      by_cases hroom : room ≤ k
      · have d1 : decide (room ≤ k) = true := decide_eq_true hroom
        have g0 := hP.cellG 0
        have g1 := hP.cellG 1
        have g2 := hP.cellG 2
        have gf := hP.frG 2
        have q0 := hP.cellR 0
        have q1 := hP.cellR 1
        have q2 := hP.cellR 2
        have r0 := hP.frR 0
        have r1 := hP.frR 1
        have r2 := hP.frR 2
        have HP := Lib.hid hP
        simp only [qc, zeroQ, List.getElem?_toArray, List.getElem?_cons_succ, List.getElem?_cons_zero] at g0 g1 g2 q0 q1 q2
        clear hP
        go_wp2
        have hR := (((HP.out.setG 2 (.int .i64 ((lost : Int) + 1))).setR 0 (.int .i64 (room : Int))).setR 1 (.slice A k c)).setR 2 (.int .i64 ((lost : Int) + 1))
        have hbw := hR.below
        refine bodyPost_ret (results_cell_tmp rfl _ _ (w.heap.size + 1 + 1) _ rfl (load_rowW hR.r rfl)) rfl ?_
        refine ⟨A, c, ds, lost + 1, 0, by rw [HL.out]; rfl, by omega, HC.out.1, HC.out.2, ?_, hbw, fun D hD h1 h2 => h1.on hbw⟩
        unfold Qp.put
        rw [if_neg (by rw [HHAS.out]; simp), if_pos (by rw [List.length_map, HL.out]; exact hroom)]
      · have d1 : decide (room ≤ k) = false := decide_eq_false hroom
        have g0 := hP.cellG 0
        have g1 := hP.cellG 1
        simp only [qc, List.getElem?_toArray, List.getElem?_cons_succ, List.getElem?_cons_zero] at g0 g1
        have H0 := Lib.hid hP
        clear hP
        go_wp2_with fail
        clear g0 g1
        refine wp_region_Z 8 (PBox w (qc room (.slice A k c) lost) x.cs zeroQ) (by kernel_rfl) ?_
        have hHeld : PBox w (qc room (.slice A k c) lost) x.cs zeroQ wr.drew := H0.out.on (drewB _)
        generalize World.drew wr = W0 at hHeld ⊢
        have H1 := Lib.hid hHeld
        have HAL : Hid (∀ W, RowKit.Below w.heap.size w W → Lies W w.heap.size A (flat encPf ds)) := fun W hW => HR.out.row.lies.below hW
        clear H0
        refine wpZ_take (i := 1) (d := 47) (v := ?_) rfl rfl (by kernel_rfl) (by kernel_rfl) (by kernel_rfl) (by kernel_rfl) (fun _ _ _ h => h) (Or.inl ⟨by rfl, ?_⟩) hHeld ?_
        rotate_left
        · (intro _ hSw; go_simp; try with_reducible rfl)
        simp only [List.setIfInBounds_toArray, List.set_cons_zero, List.set_cons_succ]
        refine wpZ_take (i := 2) (d := 48) (v := ?_) rfl rfl (by kernel_rfl) (by kernel_rfl) (by kernel_rfl) (by kernel_rfl) (fun _ _ _ h => h) (Or.inl ⟨by rfl, ?_⟩) hHeld ?_
        rotate_left
        · (intro _ hSw; have x1 := hSw.cellG 1; simp only [qc, List.getElem?_toArray, List.getElem?_cons_succ, List.getElem?_cons_zero] at x1; go_simp; try with_reducible rfl)
        simp only [List.setIfInBounds_toArray, List.set_cons_zero, List.set_cons_succ]
        refine wpZ_take (i := 4) (d := 50) (v := .agg x.cs) rfl rfl (by kernel_rfl) (by kernel_rfl) (by kernel_rfl) (by kernel_rfl) (fun _ _ _ h => h) (yields_frame (S := PBox w (qc room (.slice A k c) lost) x.cs zeroQ) (x := .tmp 3) (g := w.heap.size + 1) rfl rfl rfl (Pf.size x) (fun V hV => hV.f)) hHeld ?_
        simp only [List.setIfInBounds_toArray, List.set_cons_zero, List.set_cons_succ]
        refine wpZ_ready (rs := [0, 5]) (by kernel_rfl) (by simp) ?_
        refine AllReadyZ.cons rfl (fun K hK => ?_) (AllReadyZ.cons rfl (fun K hK => ?_) AllReadyZ.nil)
        · skip
          go_simp
          have hGa := H1.out.on ((RowKit.Below.refl _ _).alloc (Nat.le_refl _) (.cells #[] 40))
          have hoa : (W0.alloc (.cells #[] 40)).ownsRow (w.heap.size + 3) 40 16 (.slice (some ⟨W0.heap.size, 0, none⟩) 0 0) 0 [] := World.ownsRow_lit W0 #[] 0 H1.out.lt (Nat.zero_le _) rfl
          have hHeld2 := hGa
          refine hK.out _ _ (fun _ => hHeld2) ?_
          clear hK K hHeld
          have hHeld := hHeld2
          clear hHeld2
          refine wpZ_ready (rs := [3, 5]) (by kernel_rfl) (by simp) ?_
          refine AllReadyZ.cons rfl (fun K hK => ?_) (AllReadyZ.cons rfl (fun K hK => ?_) AllReadyZ.nil)
          · skip
            obtain ⟨A3, c3, W3, hrun3, ho3, hg3, hb3, hc3, hm3⟩ := app_frames (c := c) hoa HL.out (HAL.out _ hGa.below) hGa.lt (by omega)
            rw [Nat.zero_add, List.nil_append] at ho3
            rw [Nat.zero_add] at hrun3
            have hG3 := hGa.up hb3
            refine wp_append_step (s := .tmp 46) (x := .tmp 48) (t := 26) rfl rfl rfl rfl hrun3 ?_
            go_simp
            have hHeld2 := hG3
            refine hK.out _ _ (fun _ => hHeld2) ?_
            clear hK K hHeld
            have hHeld := hHeld2
            clear hHeld2
            refine wpZ_ready (rs := [5]) (by kernel_rfl) (by simp) ?_
            refine AllReadyZ.cons rfl (fun K hK => ?_) AllReadyZ.nil
            refine wp_build1_step (x := .tmp 50) (y := x) rfl rfl rfl ?_
            go_simp
            have hbl := (RowKit.Below.refl W3.heap.size W3).alloc (Nat.le_refl _) (.cells x.cs 40)
            have hGl := hG3.on hbl
            have hx1 := own_below ho3 hbl
            have hx2 := lies_new W3 x.cs 40
            rw [← flat_single] at hx2
            have hx3 : (w.heap.size + 3) ≤ (W3.alloc (.cells x.cs 40)).heap.size := hGl.lt
            clear ho3 hg3 hb3 hc3 hm3 hbl hoa hGa hG3 hrun3
            have hHeld2 := hGl
            refine hK.out _ _ (fun _ => hHeld2) ?_
            clear hK K hHeld
            have hHeld := hHeld2
            clear hHeld2
            clear hGl
            obtain ⟨A4, c4, W4, hrun4, ho4, hg4, hb4, hc4, hm4⟩ := app_frames (ys := [x]) (m := 1) (c := 1) hx1 rfl hx2 hx3 (by omega)
            rw [← flat_append] at ho4
            have HO4 := Lib.hid ho4
            have hG4 := hHeld.up hb4
            have HC4 := Lib.hid hc4
            have HM4 := Lib.hid hm4
            clear hx1 hx2 ho4 hg4 hb4 hc4 hm4
            refine wpZ_ready (rs := [6]) (by kernel_rfl) (by simp) ?_
            refine AllReadyZ.cons rfl (fun K hK => ?_) AllReadyZ.nil
            refine wp_append_step (s := .tmp 49) (x := .tmp 51) (t := 26) rfl rfl rfl rfl hrun4 ?_
            go_simp
            have hHeld2 := hG4
            refine hK.out _ _ (fun _ => hHeld2) ?_
            clear hK K hHeld
            have hHeld := hHeld2
            clear hHeld2
            refine wpZ_take (i := 7) (d := 53) (v := ?_) rfl rfl (by kernel_rfl) (by kernel_rfl) (by kernel_rfl) (by kernel_rfl) (fun _ _ _ h => h) (Or.inl ⟨by rfl, ?_⟩) hHeld ?_
            rotate_left
            · (intro _ hSw; go_simp; try with_reducible rfl)
            simp only [List.setIfInBounds_toArray, List.set_cons_zero, List.set_cons_succ]
            have HG4 := Lib.hid hG4
            have y1 := hG4.cellG 1
            have y2 := hG4.frG 1
            simp only [qc, List.getElem?_toArray, List.getElem?_cons_succ, List.getElem?_cons_zero] at y1
            clear hG4 hHeld hrun4
            refine wpZ_ready (rs := [8]) (by kernel_rfl) (by simp) ?_
            refine AllReadyZ.cons rfl (fun K hK => ?_) AllReadyZ.nil
            go_simp
            refine hK.out _ _ (fun h => absurd rfl h) ?_
            clear hK K
            refine wpZ_done (by kernel_rfl) ?_ _
            have hS := HG4.out.setG 1 (.slice A4 (k + 1) c4)
            generalize hW : World.setCell W4 ⟨w.heap.size, 1, none⟩ (.slice A4 (k + 1) c4) = W at hS ⊢
            have HO5 : Hid (W.ownsRow (w.heap.size + 3) 40 16 (.slice A4 (k + 1) c4) (k + 1) (flat encPf (ds ++ [x]))) := by
              show World.ownsRow _ _ _ _ _ _ _
              rw [← hW]
              exact own_only HO4.out (onlyE_set (D := fun k => k = w.heap.size) rfl 1 _) fun b hb e => by have := (HO4.out.lt b hb).1; omega
            have z0 := hS.cellG 0
            have z1 := hS.cellG 1
            have z2 := hS.cellG 2
            have q0 := hS.cellR 0
            have q1 := hS.cellR 1
            have q2 := hS.cellR 2
            have r0 := hS.frR 0
            have r1 := hS.frR 1
            have r2 := hS.frR 2
            have HS := Lib.hid hS
            simp only [qc, zeroQ, List.setIfInBounds_toArray, List.set_cons_zero, List.set_cons_succ, List.getElem?_toArray, List.getElem?_cons_succ, List.getElem?_cons_zero] at z0 z1 z2 q0 q1 q2
            clear hS hW HO4 HG4 H1 y1 y2
            go_wp2
            have hR := ((HS.out.setR 0 (.int .i64 (room : Int))).setR 1 (.slice A4 (k + 1) c4)).setR 2 (.int .i64 (lost : Int))
            have hbw := hR.below
            refine bodyPost_ret (results_cell_tmp rfl _ _ (w.heap.size + 1 + 1) _ rfl (load_rowW hR.r rfl)) rfl ?_
            have hlen : (ds ++ [x]).length = k + 1 := by rw [List.length_append, HL.out]; rfl
            refine ⟨A4, c4, ds ++ [x], lost, 1, ?_, ?_, ?_, HM4.out, ?_, hbw, fun D hD h1 h2 => ?_⟩
            · rw [hlen]; rfl
            · rw [hlen, HL.out]; omega
            · rw [hlen]; exact HC4.out
            · unfold Qp.put
              rw [if_neg (by rw [HHAS.out]; simp), if_neg (by rw [List.length_map, HL.out]; exact hroom), List.map_append]
              rfl
            · have hD2 : ∀ b, (Value.slice A4 (k + 1) c4).ownBlock = some b → ¬ (b = w.heap.size + 1 + 1) := fun b hb e => by have := (HO5.out.lt b hb).1; omega
              have h3 := own_only HO5.out ((onlyE_set (D := fun k => k = w.heap.size + 1 + 1) rfl 0 (.int .i64 (room : Int))).trans ((onlyE_set (D := fun k => k = w.heap.size + 1 + 1) rfl 1 (.slice A4 (k + 1) c4)).trans (onlyE_set (D := fun k => k = w.heap.size + 1 + 1) rfl 2 (.int .i64 (lost : Int))))) hD2
              refine ⟨LiesX.of_own h3 fun b hb => by have := hD b hb; omega, fun y hy => ?_, fun y hy => ?_⟩
              · rcases List.mem_append.1 hy with hy | hy
                · exact (h1.frs y hy).on hbw
                · obtain rfl := List.mem_singleton.1 hy
                  exact h2.on hbw
              · rcases List.mem_append.1 hy with hy | hy
                · exact h1.oks y hy
                · obtain rfl := List.mem_singleton.1 hy
                  exact HOK.out
          · skip
            refine wp_build1_step (x := .tmp 50) (y := x) rfl rfl rfl ?_
            go_simp
            have hbl := (RowKit.Below.refl (W0.alloc (.cells #[] 40)).heap.size (W0.alloc (.cells #[] 40))).alloc (Nat.le_refl _) (.cells x.cs 40)
            have hGl := hGa.on hbl
            have hol := own_below hoa hbl
            have hlx : LiesX ((W0.alloc (.cells #[] 40)).alloc (.cells x.cs 40)) (fun k => k = W0.heap.size) (some ⟨W0.heap.size + 1, 0, none⟩) (flat encPf [x]) := LiesX.at_row (alloc2_new W0 (.cells #[] 40) (.cells x.cs 40)) (by omega) (flat_single x).symm
            clear hbl hoa hGa
            have hHeld2 := hGl
            refine hK.out _ _ (fun _ => hHeld2) ?_
            clear hK K hHeld
            have hHeld := hHeld2
            clear hHeld2
            refine wpZ_ready (rs := [3]) (by kernel_rfl) (by simp) ?_
            refine AllReadyZ.cons rfl (fun K hK => ?_) AllReadyZ.nil
            obtain ⟨A3, c3, W3, hrun3, ho3, hg3, hb3, hc3, hm3⟩ := app_frames (c := c) hol HL.out (HAL.out _ hGl.below) hGl.lt (by omega)
            rw [Nat.zero_add, List.nil_append] at ho3
            rw [Nat.zero_add] at hrun3
            have hG3 := hGl.up hb3
            refine wp_append_step (s := .tmp 46) (x := .tmp 48) (t := 26) rfl rfl rfl rfl hrun3 ?_
            go_simp
            have hx1 := ho3
            have hx2 := (hlx.kept (OnlyE.of_grown hg3 rfl)).lies
            have hx3 := hG3.lt
            clear ho3 hg3 hb3 hc3 hm3 hol hGl hlx hrun3
            have hHeld2 := hG3
            refine hK.out _ _ (fun _ => hHeld2) ?_
            clear hK K hHeld
            have hHeld := hHeld2
            clear hHeld2
            clear hG3
            obtain ⟨A4, c4, W4, hrun4, ho4, hg4, hb4, hc4, hm4⟩ := app_frames (ys := [x]) (m := 1) (c := 1) hx1 rfl hx2 hx3 (by omega)
            rw [← flat_append] at ho4
            have HO4 := Lib.hid ho4
            have hG4 := hHeld.up hb4
            have HC4 := Lib.hid hc4
            have HM4 := Lib.hid hm4
            clear hx1 hx2 ho4 hg4 hb4 hc4 hm4
            refine wpZ_ready (rs := [6]) (by kernel_rfl) (by simp) ?_
            refine AllReadyZ.cons rfl (fun K hK => ?_) AllReadyZ.nil
            refine wp_append_step (s := .tmp 49) (x := .tmp 51) (t := 26) rfl rfl rfl rfl hrun4 ?_
            go_simp
            have hHeld2 := hG4
            refine hK.out _ _ (fun _ => hHeld2) ?_
            clear hK K hHeld
            have hHeld := hHeld2
            clear hHeld2
            refine wpZ_take (i := 7) (d := 53) (v := ?_) rfl rfl (by kernel_rfl) (by kernel_rfl) (by kernel_rfl) (by kernel_rfl) (fun _ _ _ h => h) (Or.inl ⟨by rfl, ?_⟩) hHeld ?_
            rotate_left
            · (intro _ hSw; go_simp; try with_reducible rfl)
            simp only [List.setIfInBounds_toArray, List.set_cons_zero, List.set_cons_succ]
            have HG4 := Lib.hid hG4
            have y1 := hG4.cellG 1
            have y2 := hG4.frG 1
            simp only [qc, List.getElem?_toArray, List.getElem?_cons_succ, List.getElem?_cons_zero] at y1
            clear hG4 hHeld hrun4
            refine wpZ_ready (rs := [8]) (by kernel_rfl) (by simp) ?_
            refine AllReadyZ.cons rfl (fun K hK => ?_) AllReadyZ.nil
            go_simp
            refine hK.out _ _ (fun h => absurd rfl h) ?_
            clear hK K
            refine wpZ_done (by kernel_rfl) ?_ _
            have hS := HG4.out.setG 1 (.slice A4 (k + 1) c4)
            generalize hW : World.setCell W4 ⟨w.heap.size, 1, none⟩ (.slice A4 (k + 1) c4) = W at hS ⊢
            have HO5 : Hid (W.ownsRow (w.heap.size + 3) 40 16 (.slice A4 (k + 1) c4) (k + 1) (flat encPf (ds ++ [x]))) := by
              show World.ownsRow _ _ _ _ _ _ _
              rw [← hW]
              exact own_only HO4.out (onlyE_set (D := fun k => k = w.heap.size) rfl 1 _) fun b hb e => by have := (HO4.out.lt b hb).1; omega
            have z0 := hS.cellG 0
            have z1 := hS.cellG 1
            have z2 := hS.cellG 2
            have q0 := hS.cellR 0
            have q1 := hS.cellR 1
            have q2 := hS.cellR 2
            have r0 := hS.frR 0
            have r1 := hS.frR 1
            have r2 := hS.frR 2
            have HS := Lib.hid hS
            simp only [qc, zeroQ, List.setIfInBounds_toArray, List.set_cons_zero, List.set_cons_succ, List.getElem?_toArray, List.getElem?_cons_succ, List.getElem?_cons_zero] at z0 z1 z2 q0 q1 q2
            clear hS hW HO4 HG4 H1 y1 y2
            go_wp2
            have hR := ((HS.out.setR 0 (.int .i64 (room : Int))).setR 1 (.slice A4 (k + 1) c4)).setR 2 (.int .i64 (lost : Int))
            have hbw := hR.below
            refine bodyPost_ret (results_cell_tmp rfl _ _ (w.heap.size + 1 + 1) _ rfl (load_rowW hR.r rfl)) rfl ?_
            have hlen : (ds ++ [x]).length = k + 1 := by rw [List.length_append, HL.out]; rfl
            refine ⟨A4, c4, ds ++ [x], lost, 1, ?_, ?_, ?_, HM4.out, ?_, hbw, fun D hD h1 h2 => ?_⟩
            · rw [hlen]; rfl
            · rw [hlen, HL.out]; omega
            · rw [hlen]; exact HC4.out
            · unfold Qp.put
              rw [if_neg (by rw [HHAS.out]; simp), if_neg (by rw [List.length_map, HL.out]; exact hroom), List.map_append]
              rfl
            · have hD2 : ∀ b, (Value.slice A4 (k + 1) c4).ownBlock = some b → ¬ (b = w.heap.size + 1 + 1) := fun b hb e => by have := (HO5.out.lt b hb).1; omega
              have h3 := own_only HO5.out ((onlyE_set (D := fun k => k = w.heap.size + 1 + 1) rfl 0 (.int .i64 (room : Int))).trans ((onlyE_set (D := fun k => k = w.heap.size + 1 + 1) rfl 1 (.slice A4 (k + 1) c4)).trans (onlyE_set (D := fun k => k = w.heap.size + 1 + 1) rfl 2 (.int .i64 (lost : Int))))) hD2
              refine ⟨LiesX.of_own h3 fun b hb => by have := hD b hb; omega, fun y hy => ?_, fun y hy => ?_⟩
              · rcases List.mem_append.1 hy with hy | hy
                · exact (h1.frs y hy).on hbw
                · obtain rfl := List.mem_singleton.1 hy
                  exact h2.on hbw
              · rcases List.mem_append.1 hy with hy | hy
                · exact h1.oks y hy
                · obtain rfl := List.mem_singleton.1 hy
                  exact HOK.out
        · skip
          refine wp_build1_step (x := .tmp 50) (y := x) rfl rfl rfl ?_
          go_simp
          have hGl := H1.out.on ((RowKit.Below.refl _ _).alloc (Nat.le_refl _) (.cells x.cs 40))
          clear hHeld
          have hHeld := hGl
          have hHeld2 := hGl
          refine hK.out _ _ (fun _ => hHeld2) ?_
          clear hK K hHeld
          have hHeld := hHeld2
          clear hHeld2
          refine wpZ_ready (rs := [0]) (by kernel_rfl) (by simp) ?_
          refine AllReadyZ.cons rfl (fun K hK => ?_) AllReadyZ.nil
          go_simp
          have hGa := hGl.on ((RowKit.Below.refl _ _).alloc (Nat.le_refl _) (.cells #[] 40))
          have hoa : ((W0.alloc (.cells x.cs 40)).alloc (.cells #[] 40)).ownsRow (w.heap.size + 3) 40 16 (.slice (some ⟨(W0.alloc (.cells x.cs 40)).heap.size, 0, none⟩) 0 0) 0 [] := World.ownsRow_lit (W0.alloc (.cells x.cs 40)) #[] 0 hGl.lt (Nat.zero_le _) rfl
          have hlx : LiesX ((W0.alloc (.cells x.cs 40)).alloc (.cells #[] 40)) (fun k => k = W0.heap.size + 1) (some ⟨W0.heap.size, 0, none⟩) (flat encPf [x]) := LiesX.at_row ((heap_alloc_old _ _ (by simp)).trans (heap_alloc_new W0 (.cells x.cs 40))) (by omega) (flat_single x).symm
          rw [show (W0.alloc (.cells x.cs 40)).heap.size = W0.heap.size + 1 by simp] at hoa
          clear hGl
          have hHeld2 := hGa
          refine hK.out _ _ (fun _ => hHeld2) ?_
          clear hK K hHeld
          have hHeld := hHeld2
          clear hHeld2
          refine wpZ_ready (rs := [3]) (by kernel_rfl) (by simp) ?_
          refine AllReadyZ.cons rfl (fun K hK => ?_) AllReadyZ.nil
          obtain ⟨A3, c3, W3, hrun3, ho3, hg3, hb3, hc3, hm3⟩ := app_frames (c := c) hoa HL.out (HAL.out _ hGa.below) hGa.lt (by omega)
          rw [Nat.zero_add, List.nil_append] at ho3
          rw [Nat.zero_add] at hrun3
          have hG3 := hGa.up hb3
          refine wp_append_step (s := .tmp 46) (x := .tmp 48) (t := 26) rfl rfl rfl rfl hrun3 ?_
          go_simp
          have hx1 := ho3
          have hx2 := (hlx.kept (OnlyE.of_grown hg3 rfl)).lies
          have hx3 := hG3.lt
          clear ho3 hg3 hb3 hc3 hm3 hoa hGa hlx hrun3
          have hHeld2 := hG3
          refine hK.out _ _ (fun _ => hHeld2) ?_
          clear hK K hHeld
          have hHeld := hHeld2
          clear hHeld2
          clear hG3
          obtain ⟨A4, c4, W4, hrun4, ho4, hg4, hb4, hc4, hm4⟩ := app_frames (ys := [x]) (m := 1) (c := 1) hx1 rfl hx2 hx3 (by omega)
          rw [← flat_append] at ho4
          have HO4 := Lib.hid ho4
          have hG4 := hHeld.up hb4
          have HC4 := Lib.hid hc4
          have HM4 := Lib.hid hm4
          clear hx1 hx2 ho4 hg4 hb4 hc4 hm4
          refine wpZ_ready (rs := [6]) (by kernel_rfl) (by simp) ?_
          refine AllReadyZ.cons rfl (fun K hK => ?_) AllReadyZ.nil
          refine wp_append_step (s := .tmp 49) (x := .tmp 51) (t := 26) rfl rfl rfl rfl hrun4 ?_
          go_simp
          have hHeld2 := hG4
          refine hK.out _ _ (fun _ => hHeld2) ?_
          clear hK K hHeld
          have hHeld := hHeld2
          clear hHeld2
          refine wpZ_take (i := 7) (d := 53) (v := ?_) rfl rfl (by kernel_rfl) (by kernel_rfl) (by kernel_rfl) (by kernel_rfl) (fun _ _ _ h => h) (Or.inl ⟨by rfl, ?_⟩) hHeld ?_
          rotate_left
          · (intro _ hSw; go_simp; try with_reducible rfl)
          simp only [List.setIfInBounds_toArray, List.set_cons_zero, List.set_cons_succ]
          have HG4 := Lib.hid hG4
          have y1 := hG4.cellG 1
          have y2 := hG4.frG 1
          simp only [qc, List.getElem?_toArray, List.getElem?_cons_succ, List.getElem?_cons_zero] at y1
          clear hG4 hHeld hrun4
          refine wpZ_ready (rs := [8]) (by kernel_rfl) (by simp) ?_
          refine AllReadyZ.cons rfl (fun K hK => ?_) AllReadyZ.nil
          go_simp
          refine hK.out _ _ (fun h => absurd rfl h) ?_
          clear hK K
          refine wpZ_done (by kernel_rfl) ?_ _
          have hS := HG4.out.setG 1 (.slice A4 (k + 1) c4)
          generalize hW : World.setCell W4 ⟨w.heap.size, 1, none⟩ (.slice A4 (k + 1) c4) = W at hS ⊢
          have HO5 : Hid (W.ownsRow (w.heap.size + 3) 40 16 (.slice A4 (k + 1) c4) (k + 1) (flat encPf (ds ++ [x]))) := by
            show World.ownsRow _ _ _ _ _ _ _
            rw [← hW]
            exact own_only HO4.out (onlyE_set (D := fun k => k = w.heap.size) rfl 1 _) fun b hb e => by have := (HO4.out.lt b hb).1; omega
          have z0 := hS.cellG 0
          have z1 := hS.cellG 1
          have z2 := hS.cellG 2
          have q0 := hS.cellR 0
          have q1 := hS.cellR 1
          have q2 := hS.cellR 2
          have r0 := hS.frR 0
          have r1 := hS.frR 1
          have r2 := hS.frR 2
          have HS := Lib.hid hS
          simp only [qc, zeroQ, List.setIfInBounds_toArray, List.set_cons_zero, List.set_cons_succ, List.getElem?_toArray, List.getElem?_cons_succ, List.getElem?_cons_zero] at z0 z1 z2 q0 q1 q2
          clear hS hW HO4 HG4 H1 y1 y2
          go_wp2
          have hR := ((HS.out.setR 0 (.int .i64 (room : Int))).setR 1 (.slice A4 (k + 1) c4)).setR 2 (.int .i64 (lost : Int))
          have hbw := hR.below
          refine bodyPost_ret (results_cell_tmp rfl _ _ (w.heap.size + 1 + 1) _ rfl (load_rowW hR.r rfl)) rfl ?_
          have hlen : (ds ++ [x]).length = k + 1 := by rw [List.length_append, HL.out]; rfl
          refine ⟨A4, c4, ds ++ [x], lost, 1, ?_, ?_, ?_, HM4.out, ?_, hbw, fun D hD h1 h2 => ?_⟩
          · rw [hlen]; rfl
          · rw [hlen, HL.out]; omega
          · rw [hlen]; exact HC4.out
          · unfold Qp.put
            rw [if_neg (by rw [HHAS.out]; simp), if_neg (by rw [List.length_map, HL.out]; exact hroom), List.map_append]
            rfl
          · have hD2 : ∀ b, (Value.slice A4 (k + 1) c4).ownBlock = some b → ¬ (b = w.heap.size + 1 + 1) := fun b hb e => by have := (HO5.out.lt b hb).1; omega
            have h3 := own_only HO5.out ((onlyE_set (D := fun k => k = w.heap.size + 1 + 1) rfl 0 (.int .i64 (room : Int))).trans ((onlyE_set (D := fun k => k = w.heap.size + 1 + 1) rfl 1 (.slice A4 (k + 1) c4)).trans (onlyE_set (D := fun k => k = w.heap.size + 1 + 1) rfl 2 (.int .i64 (lost : Int))))) hD2
            refine ⟨LiesX.of_own h3 fun b hb => by have := hD b hb; omega, fun y hy => ?_, fun y hy => ?_⟩
            · rcases List.mem_append.1 hy with hy | hy
              · exact (h1.frs y hy).on hbw
              · obtain rfl := List.mem_singleton.1 hy
                exact h2.on hbw
            · rcases List.mem_append.1 hy with hy | hy
              · exact h1.oks y hy
              · obtain rfl := List.mem_singleton.1 hy
                exact HOK.out

end Go.Proofs.Ytmnjedpnhilndaa
