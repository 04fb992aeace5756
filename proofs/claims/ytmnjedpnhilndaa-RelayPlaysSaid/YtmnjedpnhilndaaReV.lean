/- Stage 16: both queues side by side, the document's in its box; what RelayPlays calls. -/
import Derived.Test.YtmnjedpnhilndaaReU
set_option maxRecDepth 20000
namespace Go.Proofs.Ytmnjedpnhilndaa
open Go.RowKit Go.Sort Go.Maps

/-- The queue, and the document's in its box at mp; w: the world of the entry. -/
structure RpS (w : World) (g mb mp room : Nat) (T : Value) (l : List Pf) (lost : Nat) (D : Nat → Prop) (A : Option Addr) (c : Nat) (ds : List Pf) (lostd : Nat) (V : World) : Prop where
  below : RowKit.Below w.heap.size w V
  q : QueS V w.heap.size g mb T room lost (l.map Pf.pl) l D
  row : V.heap[mp]? = some (.cells (qc room (.slice A ds.length c) lostd) 28 (0, 0))
  dm : D mp
  r : RowX V D A ds
  nc : ds.length ≤ c ∧ c ≤ maxLen

section
variable {w V V' : World} {g mb mp room : Nat} {T : Value} {l : List Pf} {lost : Nat} {D : Nat → Prop} {A : Option Addr} {c : Nat} {ds : List Pf} {lostd : Nat}
theorem RpS.lt (h : RpS w g mb mp room T l lost D A c ds lostd V) : mp < V.heap.size := (Array.getElem?_eq_some_iff.1 h.row).1
theorem RpS.own (h : RpS w g mb mp room T l lost D A c ds lostd V) : ¬ Own g mb T mp := fun e => by
  rcases e with e | e | e
  · have := h.row
    rw [e, h.q.box] at this
    injection this with this
    injection this with _ this
    exact absurd this (by decide)
  · obtain ⟨es, clock, h1⟩ := h.q.mapAt
    rw [← e, h.row] at h1
    injection h1 with h1
    cases h1
  · exact own_ty h.q.row h.row (by decide) e
theorem RpS.on (h : RpS w g mb mp room T l lost D A c ds lostd V) (hb : RowKit.Below V.heap.size V V') : RpS w g mb mp room T l lost D A c ds lostd V' :=
  ⟨h.below.trans (hb.mono h.below.size), h.q.on hb, (hb.block _ h.lt).trans h.row, h.dm, h.r.on hb, h.nc⟩
theorem RpS.c0 (h : RpS w g mb mp room T l lost D A c ds lostd V) : V.cell? ⟨mp, 0, none⟩ = some (.int .i64 (room : Int)) := cell_of_row V mp 0 _ _ _ h.row
theorem RpS.c1 (h : RpS w g mb mp room T l lost D A c ds lostd V) : V.cell? ⟨mp, 1, none⟩ = some (.slice A ds.length c) := cell_of_row V mp 1 _ _ _ h.row
theorem RpS.c2 (h : RpS w g mb mp room T l lost D A c ds lostd V) : V.cell? ⟨mp, 2, none⟩ = some (.int .i64 (lostd : Int)) := cell_of_row V mp 2 _ _ _ h.row
theorem RpS.fr (h : RpS w g mb mp room T l lost D A c ds lostd V) (i : Nat) : V.frozen? ⟨mp, i, none⟩ = false := frozen_of_row V mp i _ _ h.row
/-- The document's queue is written. -/
theorem RpS.setM (h : RpS w g mb mp room T l lost D A c ds lostd V) {A' : Option Addr} {c' n' : Nat} {ds' : List Pf} {lostd' : Nat} (hR : RowX V D A' ds') (hn : ds'.length = n') (hnc : n' ≤ c' ∧ c' ≤ maxLen) :
    RpS w g mb mp room T l lost D A' c' ds' lostd' (((V.setCell ⟨mp, 0, none⟩ (.int .i64 (room : Int))).setCell ⟨mp, 1, none⟩ (.slice A' n' c')).setCell ⟨mp, 2, none⟩ (.int .i64 (lostd' : Int))) ∧
      OnlyE V (((V.setCell ⟨mp, 0, none⟩ (.int .i64 (room : Int))).setCell ⟨mp, 1, none⟩ (.slice A' n' c')).setCell ⟨mp, 2, none⟩ (.int .i64 (lostd' : Int))) (fun b => b = mp) := by
  subst hn
  have hO : OnlyE V (((V.setCell ⟨mp, 0, none⟩ (.int .i64 (room : Int))).setCell ⟨mp, 1, none⟩ (.slice A' ds'.length c')).setCell ⟨mp, 2, none⟩ (.int .i64 (lostd' : Int))) (fun b => b = mp) := OnlyE.set3 (D := fun b => b = mp) rfl _ _ _ _ _ _
  refine ⟨⟨h.below.trans (hO.below (fun b hb => by subst hb; exact (h.q.din _ h.dm).1) h.below.size), h.q.kept hO fun b hb => .inr (by subst hb; exact ⟨h.dm, h.own⟩), ?_, h.dm, hR.kept (hO.mono fun b hb => hb ▸ h.dm), hnc⟩, hO⟩
  exact heap_setCell_same _ mp 2 _ _ _ (heap_setCell_same _ mp 1 _ _ _ (heap_setCell_same V mp 0 _ _ _ h.row))
/-- A call of the queue's own. -/
theorem RpS.turned (h : RpS w g mb mp room T l lost D A c ds lostd V) {m : Qp} (hW : Went V w.heap.size g mb T room D m V') :
    ∃ T' l' D', RpS w g mb mp room T' l' m.lost D' A c ds lostd V' ∧ l'.map Pf.F = m.l ∧ (∀ b, D' b → D b ∨ V.heap.size ≤ b) := by
  have hO := hW.only
  obtain ⟨T', l', D', h1, h2, h3, h4, h5, h6⟩ := hW
  refine ⟨T', l', D', ⟨h.below.trans (hO.below (fun b hb => (h.q.din b (h.q.own b hb)).1) h.below.size), h1, (hO.same _ h.lt h.own).trans h.row, h3 _ h.dm, ?_, h.nc⟩, h2, h4⟩
  have hr : RowX V D' A ds := ⟨h.r.row.widen fun b hb => (h4 b hb).symm, fun y hy => (h.r.frs y hy).widen fun b hb => (h4 b hb).symm, h.r.oks⟩
  exact hr.kept (hO.mono fun b hb => h3 b (h.q.own b hb))
end

/-- What both are behind i acts. -/
def RpE (w : World) (g mb mp room : Nat) (i : Nat) (V : World) : Prop :=
  ∃ T l lost D A c ds, RpS w g mb mp room T l lost D A c ds lost V ∧ l.map Pf.F = ds.map Pf.F ∧ ds.length ≤ i ∧ ds.length ≤ room ∧ lost ≤ i

section
variable {w V V' : World} {g mb mp room i : Nat}
theorem RpE.on (h : RpE w g mb mp room i V) (hb : RowKit.Below V.heap.size V V') : RpE w g mb mp room i V' := by
  obtain ⟨T, l, lost, D, A, c, ds, h1, h2⟩ := h
  exact ⟨T, l, lost, D, A, c, ds, h1.on hb, h2⟩
theorem RpE.below (h : RpE w g mb mp room i V) : RowKit.Below w.heap.size w V := by
  obtain ⟨T, l, lost, D, A, c, ds, h1, h2⟩ := h
  exact h1.below
end

/-! ### The calls -/
section
variable {w V V' : World} {g mb mp room i : Nat} {T : Value} {l : List Pf} {lost : Nat} {D : Nat → Prop} {A : Option Addr} {c : Nat} {ds : List Pf} {y : Ra}
/-- What the document's Put answers, the state. -/
def MP (V : World) (D : Nat → Prop) (ds : List Pf) (lost room : Nat) (F : Fr) (A' : Option Addr) (c' n' lost' : Nat) (r : Int) (w' : World) : Prop :=
  RowKit.Below V.heap.size V w' ∧ r = (n' : Int) - (ds.length : Int) ∧ n' ≤ c' ∧ c' ≤ maxLen ∧ ∃ ds', ds'.length = n' ∧ (⟨ds'.map Pf.F, lost'⟩ : Qp) = Qp.put room ⟨ds.map Pf.F, lost⟩ F ∧ RowX w' D A' ds'
theorem RpS.x (h : RpS w g mb mp room T l lost D A c ds lost V) (hy : RaOk w w.heap.size y) : y.x.X V D := ((hy.on h.below).x.x).widen fun b hb => .inr (h.q.din b hb).1
theorem RpS.mput (h : RpS w g mb mp room T l lost D A c ds lost V) (hy : RaOk w w.heap.size y) (hok : y.x.F.Ok) (hlen : ds.length ≤ 4096) (hlost : lost ≤ 1000000) :
    Calls Try.prog 11 #[.agg #[.int .i64 (room : Int), .slice A ds.length c, .int .i64 (lost : Int)], .agg y.x.cs] V fun e w' => ∃ (A' : Option Addr) (c' n' lost' : Nat) (r : Int), e = .returned (.tuple #[.agg #[.int .i64 (room : Int), .slice A' n' c', .int .i64 (lost' : Int)], .int .i64 r]) ∧ Hid (MP V D ds lost room y.x.F A' c' n' lost' r w') := by
  refine (refPut_any room lost A c ds y.x V (h.r.mono fun _ h => h.elim) ((h.x hy).mono fun _ h => h.elim) hok hlen h.nc.1 h.nc.2 hlost).mono ?_
  rintro e w' ⟨A', c', ds', lost', r, rfl, h1, h2, h3, h4, h5, h6⟩
  exact ⟨A', c', ds'.length, lost', r, rfl, h5, h1, h2, h3, ds', rfl, h4, h6 D (fun b hb => (h.q.din b hb).2) h.r (h.x hy)⟩
/-- Both have put. -/
theorem RpS.qput {V1 V3 : World} {A' : Option Addr} {c' n' lost' : Nat} {r : Int} (h : RpS w g mb mp room T l lost D A c ds lost V) (hm : MP V D ds lost room y.x.F A' c' n' lost' r V1) (hs : l.map Pf.F = ds.map Pf.F) (hi : ds.length ≤ i) (hi2 : ds.length ≤ room) (hi3 : lost ≤ i) (hroom : room ≤ 4096) (hi100 : i ≤ 100) (hy : RaOk w w.heap.size y) (hok : y.x.F.Ok)
    (hV3 : V3 = (((V1.alloc (.cells #[.int .i64 (room : Int), .slice A' n' c', .int .i64 (lost' : Int)] 28)).setCell ⟨mp, 0, none⟩ (.int .i64 (room : Int))).setCell ⟨mp, 1, none⟩ (.slice A' n' c')).setCell ⟨mp, 2, none⟩ (.int .i64 (lost' : Int))) :
    Calls Try.prog 12 #[.pointer (some ⟨g, 0, none⟩), .slice (some ⟨V3.heap.size, 0, none⟩) 1 1] (V3.alloc (.cells y.x.cs 40)) fun e w' => e = .returned (.int .i64 r) ∧ Hid (RpE w g mb mp room (i + 1) w') := by
  obtain ⟨hb1, hr, hnc, hcm, ds', hn', he, hR⟩ := hm
  have hbA := alloc_below V1 (.cells #[.int .i64 (room : Int), .slice A' n' c', .int .i64 (lost' : Int)] 28)
  have h1 := (h.on hb1).on hbA
  obtain ⟨h3, -⟩ := h1.setM (lostd' := lost') (hR.on hbA) hn' ⟨hnc, hcm⟩
  rw [← hV3] at h3
  have hb3 := alloc_below V3 (.cells y.x.cs 40)
  have h4 := h3.on hb3
  have hll : l.length = ds.length := by have := congrArg List.length hs; simpa using this
  have hx : y.x.X V3 D := ((hy.on h3.below).x.x).widen fun b hb => .inr (h3.q.din b hb).1
  have hput := Qp.put_len (room := room) (m := ⟨ds.map Pf.F, lost⟩) (by simpa using hi2) y.x.F
  rw [← he] at hput
  simp only [List.length_map, hn'] at hput
  have hone : (⟨ds'.map Pf.F, lost'⟩ : Qp).l.length ≤ ds.length + 1 := by
    rw [he]
    unfold Qp.put
    split
    · simp
    · split <;> simp
  simp only [List.length_map, hn'] at hone
  refine (puts_any h4.q (some ⟨V3.heap.size, 0, none⟩) 1 1 [y.x] rfl (by decide) (one_row y.x (hx.mono h3.q.own) hok fun e => h3.q.new_out (h3.q.own _ e)) hroom (by omega) (by omega)).mono ?_
  rintro e w' ⟨rfl, hW⟩
  have e1 : Qp.puts room ⟨l.map Pf.F, lost⟩ (List.map Pf.F [y.x]) = ⟨ds'.map Pf.F, lost'⟩ := by rw [he, ← hs]; rfl
  rw [e1] at hW ⊢
  refine ⟨by rw [hr, hll]; simp only [List.length_map, hn'], ?_⟩
  obtain ⟨T', l', D', q1, q2, -⟩ := h4.turned hW
  exact ⟨T', l', lost', D', A', c', ds', q1, q2, by omega, by omega, by omega⟩

/-- What the document's Take answers, the state. -/
def MT (V : World) (D : Nat → Prop) (ds : List Pf) (but : List UInt8) (most : Int) (A' : Option Addr) (c' n' : Nat) (A2 : Option Addr) (n2 c2 : Nat) (w' : World) : Prop :=
  RowKit.Below V.heap.size V w' ∧ n' ≤ c' ∧ c' ≤ maxLen ∧ ∃ k, Gone but most (ds.map Pf.F) k ∧ (ds.drop k).length = n' ∧ (outP but ds k).length = n2 ∧ w'.ownsRow V.heap.size 40 16 (.slice A2 n2 c2) n2 (flat encPf (outP but ds k)) ∧ RowX w' D A' (ds.drop k)
theorem RpS.mtake (h : RpS w g mb mp room T l lost D A c ds lost V) (hy : RaOk w w.heap.size y) (hlen : ds.length ≤ 4096) (hnb : y.but.length ≤ 1000) :
    Calls Try.prog 13 #[.agg #[.int .i64 (room : Int), .slice A ds.length c, .int .i64 (lost : Int)], .int .i64 y.m, .slice y.B y.but.length y.cb] V fun e w' => ∃ (A' : Option Addr) (c' n' : Nat) (A2 : Option Addr) (n2 c2 : Nat), e = .returned (.tuple #[.agg #[.int .i64 (room : Int), .slice A' n' c', .int .i64 (lost : Int)], .slice A2 n2 c2]) ∧ Hid (MT V D ds y.but y.m A' c' n' A2 n2 c2 w') := by
  refine (refTake_any room lost A c ds y.m y.B y.but.length y.cb y.but V (h.r.mono fun _ h => h.elim) hlen h.nc.1 h.nc.2 rfl hnb (fun hn => by
    obtain ⟨b, off, e, h1, h2⟩ := (hy.on h.below).lb hn
    exact ⟨b, off, e, Nat.lt_of_lt_of_le h1 h.below.size, h2⟩)).mono ?_
  rintro e w' ⟨k, A', c', A2, n2, c2, hG, rfl, h1, h2, h3, h4, h5, h6⟩
  have hn2 : (outP y.but ds k).length = n2 := by have := h3.out; rwa [← outP_F, List.length_map] at this
  rw [hn2] at h4
  exact ⟨A', c', (ds.drop k).length, A2, n2, c2, rfl, h5, h1, h2, k, hG, rfl, hn2, h4, h6 D (fun b hb => (h.q.din b hb).2) h.r⟩
/-- Both have taken. -/
theorem RpS.qtake {V1 V3 : World} {A' : Option Addr} {c' n' : Nat} {A2 : Option Addr} {n2 c2 : Nat} (h : RpS w g mb mp room T l lost D A c ds lost V) (hm : MT V D ds y.but y.m A' c' n' A2 n2 c2 V1) (hs : l.map Pf.F = ds.map Pf.F) (hi : ds.length ≤ i) (hi2 : ds.length ≤ room) (hi3 : lost ≤ i) (hi100 : i ≤ 100) (hy : RaOk w w.heap.size y) (hnb : y.but.length ≤ 1000)
    (hV3 : V3 = (((V1.alloc (.cells #[.int .i64 (room : Int), .slice A' n' c', .int .i64 (lost : Int)] 28)).setCell ⟨mp, 0, none⟩ (.int .i64 (room : Int))).setCell ⟨mp, 1, none⟩ (.slice A' n' c')).setCell ⟨mp, 2, none⟩ (.int .i64 (lost : Int))) :
    Calls Try.prog 15 #[.pointer (some ⟨g, 0, none⟩), .int .i64 y.m, .slice y.B y.but.length y.cb] V3 fun e w' => ∃ (A5 : Option Addr) (c5 : Nat), e = .returned (.slice A5 n2 c5) ∧ Hid (RpE w g mb mp room (i + 1) w') ∧
      Hid (Calls Try.prog 14 #[.slice A5 n2 c5, .slice A2 n2 c2] w' fun e w'' => e = .returned (.bool true) ∧ RowKit.Below w'.heap.size w' w'') := by
  obtain ⟨hb1, hnc, hcm, k, hG, hn', hn2, hrow, hR⟩ := hm
  have hbA := alloc_below V1 (.cells #[.int .i64 (room : Int), .slice A' n' c', .int .i64 (lost : Int)] 28)
  have h1 := (h.on hb1).on hbA
  obtain ⟨h3, hO3⟩ := h1.setM (lostd' := lost) (hR.on hbA) hn' ⟨hnc, hcm⟩
  rw [← hV3] at h3 hO3
  have hll : l.length = ds.length := by have := congrArg List.length hs; simpa using this
  have hsz := hb1.size
  have hrow3 := own_only (own_below hrow hbA) hO3 fun b hb e => by have := (hrow.lt b hb).1; have := h.lt; omega
  have hfr3 : ∀ z ∈ ds, z.X V3 D := fun z hz => (((h.r.frs z hz).on hb1).on hbA).kept (hO3.mono fun b hb => hb ▸ h.dm)
  refine (take_any h3.q (by omega) y.m y.B y.but.length y.cb y.but rfl hnb ((hy.on h3.below).buts h3.below.size fun b hb => (h3.q.din b hb).1)).mono ?_
  rintro e w' ⟨k5, A5, n5, c5, hG5, rfl, hn5, hF5, hW⟩
  rw [hs] at hG5 hn5 hF5 hW
  obtain rfl := hG5.one hG
  have hn52 : n5 = n2 := by have := hn5.out; rw [← outP_F, List.length_map, hn2] at this; exact this.symm
  subst hn52
  obtain ⟨ys, e1, e2, e3⟩ := hF5
  have hO5 := hW.only
  have hrow5 := own_only hrow3 hO5 fun b hb e => by
    have h6 := (hrow.lt b hb).1
    have h7 := (h.q.din b (h3.q.own b e)).2
    omega
  have hyl : ys.length = n5 := by rw [← List.length_map (f := Pf.F), e1]; exact hn5.out
  rw [hn5.out] at e2
  obtain ⟨T', l', D', q1, q2, -⟩ := h3.turned hW
  refine ⟨A5, c5, rfl, ⟨T', l', lost, D', A', c', ds.drop k5, q1, by rw [q2, List.map_drop], by rw [List.length_drop]; omega, by rw [List.length_drop]; omega, by omega⟩, ?_⟩
  refine refSameL_any A5 A2 n5 c5 c2 ys (outP y.but ds k5) w' hyl hn2 (by rw [e1, outP_F]) (fun z hz => (e3 z hz).2) (Lies.of_ownK e2) (Lies.of_ownK hrow5) (fun z hz => (e3 z hz).1.frl) (fun z hz => ?_) (by have := outP_len y.but ds k5; have := hG.1; rw [List.length_map] at this; omega)
  exact ((hfr3 z (outP_sub hz)).kept (hO5.mono fun b hb => h3.q.own b hb)).frl

/-- What the document's Drop answers, the state. -/
def MD (V : World) (D : Nat → Prop) (ds : List Pf) (ls : List (List Nat)) (A' : Option Addr) (c' n' : Nat) (r : Int) (w' : World) : Prop :=
  RowKit.Below V.heap.size V w' ∧ r = (ds.length : Int) - (n' : Int) ∧ n' ≤ c' ∧ c' ≤ maxLen ∧ (staysP (goesV ls) ds).length = n' ∧ RowX w' D A' (staysP (goesV ls) ds)
theorem RpS.mdrop (h : RpS w g mb mp room T l lost D A c ds lost V) (hy : RaOk w w.heap.size y) (hlen : ds.length ≤ 4096) (hnu : y.ls.length ≤ 1000) :
    Calls Try.prog 16 #[.agg #[.int .i64 (room : Int), .slice A ds.length c, .int .i64 (lost : Int)], .slice y.U y.ls.length y.cu] V fun e w' => ∃ (A' : Option Addr) (c' n' : Nat) (r : Int), e = .returned (.tuple #[.agg #[.int .i64 (room : Int), .slice A' n' c', .int .i64 (lost : Int)], .int .i64 r]) ∧ Hid (MD V D ds y.ls A' c' n' r w') := by
  have hU := (hy.on h.below).up (D := D) h.below.size fun b hb => (h.q.din b hb).1
  refine (refDrop_any room lost A c ds y.U y.ls.length y.cu y.vs y.ls V (h.r.mono fun _ h => h.elim) hlen h.nc.1 h.nc.2 rfl hnu hU.row.lies hU.rows).mono ?_
  rintro e w' ⟨A', c', r, rfl, h1, h2, h3, h4, h5⟩
  exact ⟨A', c', _, r, rfl, h4, h1, h2, h3, rfl, h5 D (fun b hb => (h.q.din b hb).2) h.r⟩
/-- Both have dropped. -/
theorem RpS.qdrop {V1 V3 : World} {A' : Option Addr} {c' n' : Nat} {r : Int} (h : RpS w g mb mp room T l lost D A c ds lost V) (hm : MD V D ds y.ls A' c' n' r V1) (hs : l.map Pf.F = ds.map Pf.F) (hi : ds.length ≤ i) (hi2 : ds.length ≤ room) (hi3 : lost ≤ i) (hi100 : i ≤ 100) (hy : RaOk w w.heap.size y) (hnu : y.ls.length ≤ 1000)
    (hV3 : V3 = (((V1.alloc (.cells #[.int .i64 (room : Int), .slice A' n' c', .int .i64 (lost : Int)] 28)).setCell ⟨mp, 0, none⟩ (.int .i64 (room : Int))).setCell ⟨mp, 1, none⟩ (.slice A' n' c')).setCell ⟨mp, 2, none⟩ (.int .i64 (lost : Int))) :
    Calls Try.prog 17 #[.pointer (some ⟨g, 0, none⟩), .slice y.U y.ls.length y.cu] V3 fun e w' => e = .returned (.int .i64 r) ∧ Hid (RpE w g mb mp room (i + 1) w') := by
  obtain ⟨hb1, hr, hnc, hcm, hn', hR⟩ := hm
  have hbA := alloc_below V1 (.cells #[.int .i64 (room : Int), .slice A' n' c', .int .i64 (lost : Int)] 28)
  have h1 := (h.on hb1).on hbA
  obtain ⟨h3, hO3⟩ := h1.setM (lostd' := lost) (hR.on hbA) hn' ⟨hnc, hcm⟩
  rw [← hV3] at h3 hO3
  have hll : l.length = ds.length := by have := congrArg List.length hs; simpa using this
  have hFF : (staysP (goesV y.ls) l).map Pf.F = (staysP (goesV y.ls) ds).map Pf.F := by rw [stays_F, stays_F, hs]
  have hLL : (staysP (goesV y.ls) l).length = n' := by have := congrArg List.length hFF; rw [List.length_map, List.length_map, hn'] at this; exact this
  have hle := stays_len (goesV y.ls) ds
  refine (drop_any h3.q (by omega) y.U y.ls.length y.cu y.vs y.ls rfl hnu ((hy.on h3.below).up h3.below.size fun b hb => (h3.q.din b hb).1)).mono ?_
  rintro e w' ⟨rfl, hW⟩
  obtain ⟨T', l', D', q1, q2, -⟩ := h3.turned hW
  exact ⟨by rw [hr, hLL, hll], T', l', lost, D', A', c', _, q1, by rw [q2, hFF], by omega, by omega, by omega⟩
/-- The end: all that is left is taken, and held against the document's. -/
theorem RpE.last (h : RpE w g mb mp room i V) (hi : i ≤ 100) (hroom : room ≤ 4096) : ∃ (A : Option Addr) (n c : Nat), V.cell? ⟨mp, 1, none⟩ = some (.slice A n c) ∧ mp < V.heap.size ∧ Hid (∀ V', RowKit.Below V.heap.size V V' → V'.cell? ⟨mp, 1, none⟩ = some (.slice A n c) ∧ Calls Try.prog 15 #[.pointer (some ⟨g, 0, none⟩), .int .i64 5000, .slice none 0 0] V' fun e w' => ∃ (A5 : Option Addr) (c5 : Nat), e = .returned (.slice A5 n c5) ∧ RowKit.Below w.heap.size w w' ∧ w'.cell? ⟨mp, 1, none⟩ = some (.slice A n c) ∧
      Hid (Calls Try.prog 14 #[.slice A5 n c5, .slice A n c] w' fun e w'' => e = .returned (.bool true) ∧ RowKit.Below w'.heap.size w' w'')) := by
  obtain ⟨T, l, lost, D, A, c, ds, h1, hs, hi1, hi2, hi3⟩ := h
  refine ⟨A, ds.length, c, h1.c1, h1.lt, fun V' hb => ⟨(h1.on hb).c1, ?_⟩⟩
  have h3 := h1.on hb
  have hll : l.length = ds.length := by have := congrArg List.length hs; simpa using this
  refine (take_any h3.q (by omega) 5000 none 0 0 [] rfl (by decide) LiesX.nil).mono ?_
  rintro e w' ⟨k5, A5, n5, c5, hG5, rfl, hn5, hF5, hW⟩
  have hk := gone_none hG5
  rw [List.length_map, hll] at hk
  have hk2 : k5 = ds.length := by rw [hk]; omega
  rw [outF_none, hs, hk2, List.take_of_length_le (by rw [List.length_map]; exact Nat.le_refl _)] at hn5 hF5
  have hn52 := hn5.out
  rw [List.length_map] at hn52
  subst hn52
  obtain ⟨T', l', D', q1, q2, -⟩ := h3.turned hW
  obtain ⟨ys, e1, e2, e3⟩ := hF5
  rw [List.length_map] at e2
  refine ⟨A5, c5, rfl, q1.below, q1.c1, ?_⟩
  exact refSameL_any A5 A ds.length c5 c ys ds w' (by rw [← List.length_map (f := Pf.F), e1, List.length_map]) rfl e1 (fun z hz => (e3 z hz).2) (Lies.of_ownK e2) q1.r.row.lies (fun z hz => (e3 z hz).1.frl) (fun z hz => (q1.r.frs z hz).frl) (by omega)
/-- What is looked at behind each act. -/
theorem RpE.look (h : RpE w g mb mp room i V) (hi : i ≤ 100) : ∃ (A : Option Addr) (n c lost : Nat), V.cell? ⟨mp, 1, none⟩ = some (.slice A n c) ∧ V.cell? ⟨mp, 2, none⟩ = some (.int .i64 (lost : Int)) ∧ mp < V.heap.size ∧ n ≤ 100 ∧ lost ≤ 100 ∧
    Hid (∀ V', RowKit.Below V.heap.size V V' → (Calls Try.prog 18 #[.pointer (some ⟨g, 0, none⟩)] V' fun e w' => e = .returned (.int .i64 (n : Int)) ∧ RowKit.Below V'.heap.size V' w') ∧ (Calls Try.prog 19 #[.pointer (some ⟨g, 0, none⟩)] V' fun e w' => e = .returned (.int .i64 (lost : Int)) ∧ RowKit.Below V'.heap.size V' w')) := by
  obtain ⟨T, l, lost, D, A, c, ds, h1, hs, hi1, hi2, hi3⟩ := h
  have hll : l.length = ds.length := by have := congrArg List.length hs; simpa using this
  refine ⟨A, ds.length, c, lost, h1.c1, h1.c2, h1.lt, by omega, by omega, fun V' hb => ⟨?_, ?_⟩⟩
  · refine (len_any (h1.on hb).q).mono ?_
    rintro e w' ⟨rfl, rfl⟩
    exact ⟨by rw [List.length_map, hll], RowKit.Below.refl _ _⟩
  · refine (lost_any (h1.on hb).q).mono ?_
    rintro e w' ⟨rfl, rfl⟩
    exact ⟨rfl, RowKit.Below.refl _ _⟩
end

section
variable {ops : Array Oper} {rest : List Oper} {dst : Option Tmp} {ty : TypeId} {pos : String} {aft : Array Edge} {a : Act} {w : World} {Q : Exit → Act → World → Prop} {cs : Array Value}
/-- An act's box is loaded whole. -/
theorem load_RaBox (x : Operand) {g : Nat} (hx : a.eval x = .pointer (some ⟨g, 0, none⟩)) (hg : w.heap[g]? = some (.cells cs 43 (0, 0))) (hs : cs.size = 20)
    (h : wpList Try.prog ops Q rest (a.put dst (.agg cs)) w) : wpList Try.prog ops Q (⟨dst, .load 43 x, ty, pos, aft, none⟩ :: rest) a w :=
  wpList_load_row rfl _ x rfl g hx _ cs (0, 0) _ hg Try.underlying43 rfl (by rw [hs]; exact Try.infoAct) h
end

theorem RaOk.more {w : World} {B B' : Nat} {a : Ra} (h : RaOk w B a) (hB : B ≤ B') : RaOk w B' a where
  x := ⟨h.x.wf, h.x.x.mono fun k hk => Nat.le_trans hB hk⟩
  m := h.m
  nb := h.nb
  lb := h.lb.more hB
  nu := h.nu
  lu := h.lu.more hB
  ru := ⟨h.ru.1, fun i h1 h2 => by
    obtain ⟨A, n, c, e1, e2, e3, e4, e5⟩ := h.ru.2 i h1 h2
    exact ⟨A, n, c, e1, e2, e3, e4, e5.more hB⟩⟩

/-- Both are laid. -/
theorem RpE.start {w w1 V : World} {g mb N : Nat} (hQ : QueS w1 w.heap.size g mb (.slice none 0 0) N 0 [] [] (fun k => k = g ∨ k = mb)) (hb1 : RowKit.Below w.heap.size w w1) (hb2 : RowKit.Below w1.heap.size w1 V) :
    RpE w g mb V.heap.size N 0 (V.alloc (.cells #[.int .i64 (N : Int), .slice none 0 0, .int .i64 0] 28)) := by
  have hbA := alloc_below V (.cells #[.int .i64 (N : Int), .slice none 0 0, .int .i64 0] 28)
  have hbV := hb2.trans (hbA.mono hb2.size)
  have hs : (V.alloc (.cells #[.int .i64 (N : Int), .slice none 0 0, .int .i64 0] 28)).heap.size = V.heap.size + 1 := by simp
  refine ⟨.slice none 0 0, [], 0, fun k => (k = g ∨ k = mb) ∨ k = V.heap.size, none, 0, [], ⟨hb1.trans (hbV.mono hb1.size), hQ.grow hbV (fun b => .inl) (fun b hb => ?_), heap_alloc_new V _, .inr rfl, ⟨LiesX.nil, by simp, by simp⟩, Nat.le_refl _, Nat.zero_le _⟩, rfl, Nat.le_refl _, Nat.zero_le _, Nat.le_refl _⟩
  have h1 := hb1.size
  have h2 := hb2.size
  rcases hb with hb | rfl
  · have := hQ.din b hb
    exact ⟨this.1, by omega, .inl hb⟩
  · exact ⟨by omega, by omega, .inr h2⟩

end Go.Proofs.Ytmnjedpnhilndaa
