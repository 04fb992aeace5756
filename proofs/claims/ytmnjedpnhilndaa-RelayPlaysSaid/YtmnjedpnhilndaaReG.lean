/- Stage 16: the walk of put. -/
import Derived.Test.YtmnjedpnhilndaaReF
set_option maxRecDepth 20000
namespace Go.Proofs.Ytmnjedpnhilndaa
open Go.RowKit Go.Sort Go.Maps

theorem Try.infoPl : (Try.prog.info? 69).map (fun i => (i.zero, i.size, i.bytes)) = some (some (.agg #[.int .u8 0, .int .u64 0, .int .u32 0]), 3, 24) := by kernel_rfl

theorem flat_onePl (p : Pl) : flat encPl [p] = (plc p).toList := by simp [flat, encPl, plc]

/-- append(places, one). -/
theorem app_pl {W : World} {base n : Nat} {v : Value} {xs : List Value} (p : Pl) (hown : W.ownsRow base 69 3 v n xs) (hb : base ≤ W.heap.size) (hn : n ≤ 10000) :
    ∃ A' c' W', (Builtin.append_ #[61, 61] 61 #[v, .slice (some ⟨W.heap.size, 0, none⟩) 1 1]).run Try.prog (W.alloc (.cells (plc p) 69)) = .ok (.slice A' (n + 1) c') W' ∧ W'.ownsRow base 69 3 (.slice A' (n + 1) c') (n + 1) (xs ++ encPl p) ∧
      (W.alloc (.cells (plc p) 69)).grownBy W' v.ownBlock ∧ ((Value.slice A' (n + 1) c').ownBlock = v.ownBlock ∨ (Value.slice A' (n + 1) c').ownBlock = some (W.heap.size + 1)) := by
  obtain ⟨i0, hi, hz0, hz1, hz2⟩ := info_parts Try.infoPl
  have hL := lies_new W (plc p) 69
  obtain ⟨v', W', hrun, ho, hg, hk⟩ := run_append_lstK (P := Try.prog) base 3 (by decide) 61 61 69 i0 (.agg #[.int .u8 0, .int .u64 0, .int .u32 0]) 24 Try.underlying61 hi hz0 hz1 hz2 rfl v n xs (hown.alloc _) _ (some ⟨W.heap.size, 0, none⟩) 1 1 (plc p).toList
    rfl hL (encPl_one p) (by unfold maxLen; omega) (by omega) (by simp; omega)
  obtain ⟨A', c', rfl, h1, h2⟩ := own_sliceK ho
  refine ⟨A', c', W', hrun, ho, hg, ?_⟩
  simpa using hk

/-- The two boxes of put: the frame's and its place's. -/
structure PbS (w : World) (cs : Array Value) (p : Pl) (W : World) : Prop where
  fr : W.heap[w.heap.size]? = some (.cells cs 40 (0, 0))
  pl : W.heap[w.heap.size + 1]? = some (.cells (plc p) 69 (0, 0))
theorem PbS.only {w W W' : World} {cs : Array Value} {p : Pl} {D : Nat → Prop} (h : PbS w cs p W) (ho : OnlyE W W' D) (hD : ∀ k, D k → k < w.heap.size ∨ W.heap.size ≤ k) : PbS w cs p W' where
  fr := (ho.same _ (Array.getElem?_eq_some_iff.1 h.fr).1 fun hk => by have := hD _ hk; have := (Array.getElem?_eq_some_iff.1 h.fr).1; omega).trans h.fr
  pl := (ho.same _ (Array.getElem?_eq_some_iff.1 h.pl).1 fun hk => by have := hD _ hk; have := (Array.getElem?_eq_some_iff.1 h.pl).1; omega).trans h.pl
theorem PbS.on {w W W' : World} {cs : Array Value} {p : Pl} (h : PbS w cs p W) (hb : RowKit.Below W.heap.size W W') : PbS w cs p W' := h.only (D := fun _ => False) (OnlyE.of_below hb) fun _ h => h.elim
theorem PbS.c0 {w W : World} {cs : Array Value} {p : Pl} (h : PbS w cs p W) : W.cell? ⟨w.heap.size + 1, 0, none⟩ = some (.int .u8 (p.x.f : Int)) := cell_of_row W _ 0 _ _ _ h.pl
theorem PbS.c1 {w W : World} {cs : Array Value} {p : Pl} (h : PbS w cs p W) : W.cell? ⟨w.heap.size + 1, 0 + 1, none⟩ = some (.int .u64 (p.x.s : Int)) := cell_of_row W _ 1 _ _ _ h.pl
theorem PbS.c2 {w W : World} {cs : Array Value} {p : Pl} (h : PbS w cs p W) : W.cell? ⟨w.heap.size + 1, 0 + 1 + 1, none⟩ = some (.int .u32 (p.a : Int)) := cell_of_row W _ 2 _ _ _ h.pl

/-- What the append of put's place must not hit. -/
def TwoQ (g b : Nat) (T : Value) (p : Pl) (V : World) : Prop := V.cell? ⟨g, 1, none⟩ = some T ∧ V.frozen? ⟨g, 1, none⟩ = false ∧ V.cell? ⟨b, 0, none⟩ = some (.int .u8 (p.x.f : Int)) ∧ V.cell? ⟨b, 0 + 1, none⟩ = some (.int .u64 (p.x.s : Int)) ∧ V.cell? ⟨b, 0 + 1 + 1, none⟩ = some (.int .u32 (p.a : Int))

section
variable {w : World} {base g mb : Nat} {T : Value} {room lost : Nat} {lr : List Pl} {lm : List Pf} {D : Nat → Prop}

theorem put_there (h : QueS w base g mb T room lost lr lm D) (F : Fr) (cs : Array Value) (hF : FrL w F cs) (hok : F.Ok) (hq : hasP lm (plOf F) = true) :
    Calls Try.prog 21 #[qptr g, .agg cs] w fun e w' => e = .returned (.tuple #[]) ∧ RowKit.Below w.heap.size w w' := by
  have HT : Hid (∀ W, RowKit.Below w.heap.size w W → Calls Try.prog 32 #[.pointer (some ⟨g, 0, none⟩), .agg #[.int .u8 ((plOf F).x.f : Int), .int .u64 ((plOf F).x.s : Int), .int .u32 ((plOf F).a : Int)]] W fun e w' => e = .returned (.bool true) ∧ RowKit.Below W.heap.size W w') := fun W hW => by
    have := there_any (h.on hW).toM (plOf F)
    unfold valPl plc qptr at this
    rw [hq] at this
    exact this
  obtain ⟨a0, a1, a2, a3, a4, a5, a6, a7, a8, a9, a10⟩ := hF.at_
  have hsz := hF.size
  have b3 : cs[3]'(by omega) = .int .u8 ((plOf F).x.f : Int) := (Array.getElem?_eq_some_iff.1 a3).2
  have b4 : cs[4]'(by omega) = .int .u64 ((plOf F).x.s : Int) := (Array.getElem?_eq_some_iff.1 a4).2
  have b6 : cs[6]'(by omega) = .int .u32 ((plOf F).a : Int) := by rw [plOf_a hok]; exact (Array.getElem?_eq_some_iff.1 a6).2
  clear a0 a1 a2 a3 a4 a5 a6 a7 a8 a9 a10
  clear h hF hq hok
  unfold qptr
  go_enter Try.func21, Try.ntmps21
  go_wp2_with fail
  generalize hw0 : World.alloc (World.alloc w _) _ = w0
  obtain ⟨z1, z2, hb0⟩ := alloc2_blocks w _ _ hw0
  have HS : Hid (PbS w cs (plOf F) w0) := ⟨z1, z2⟩
  clear hw0 z1 z2 b3 b4 b6
  refine (HT.out _ hb0).mono ?_
  rintro e w1 ⟨rfl, hb1⟩
  have HS1 := Lib.hid (HS.out.on hb1)
  have HB1 := Lib.hid (hb0.trans (hb1.mono hb0.size))
  clear HS hb0 hb1 HT
  go_wp2
  go_end0
  exact ⟨rfl, HB1.out⟩

theorem QueS.lose' (h : QueS w base g mb T room lost lr lm D) : QueS (w.setCell ⟨g, 3, none⟩ (.int .i64 ((lost : Int) + 1))) base g mb T room (lost + 1) lr lm D ∧ OnlyE w (w.setCell ⟨g, 3, none⟩ (.int .i64 ((lost : Int) + 1))) (fun k => k = g) := by
  have := h.lose
  rwa [show ((lost + 1 : Nat) : Int) = (lost : Int) + 1 by omega] at this

theorem put_full (h : QueS w base g mb T room lost lr lm D) (F : Fr) (cs : Array Value) (hF : FrL w F cs) (hok : F.Ok) (hq : hasP lm (plOf F) = false) (hr : room ≤ lr.length) (hlost : lost ≤ 1000000) :
    Calls Try.prog 21 #[qptr g, .agg cs] w fun e w' => e = .returned (.tuple #[]) ∧ QueS w' base g mb T room (lost + 1) lr lm D ∧ OnlyE w w' (Own g mb T) := by
  have mixed := mixedOrders
  have HT : Hid (∀ W, RowKit.Below w.heap.size w W → Calls Try.prog 32 #[.pointer (some ⟨g, 0, none⟩), .agg #[.int .u8 ((plOf F).x.f : Int), .int .u64 ((plOf F).x.s : Int), .int .u32 ((plOf F).a : Int)]] W fun e w' => e = .returned (.bool false) ∧ RowKit.Below W.heap.size W w') := fun W hW => by
    have := there_any (h.on hW).toM (plOf F)
    unfold valPl plc qptr at this
    rw [hq] at this
    exact this
  obtain ⟨a0, a1, a2, a3, a4, a5, a6, a7, a8, a9, a10⟩ := hF.at_
  have hsz := hF.size
  have b3 : cs[3]'(by omega) = .int .u8 ((plOf F).x.f : Int) := (Array.getElem?_eq_some_iff.1 a3).2
  have b4 : cs[4]'(by omega) = .int .u64 ((plOf F).x.s : Int) := (Array.getElem?_eq_some_iff.1 a4).2
  have b6 : cs[6]'(by omega) = .int .u32 ((plOf F).a : Int) := by rw [plOf_a hok]; exact (Array.getElem?_eq_some_iff.1 a6).2
  clear a0 a1 a2 a3 a4 a5 a6 a7 a8 a9 a10
  have H : Hid (∀ W, RowKit.Below w.heap.size w W → QueS W base g mb T room lost lr lm D) := fun W hW => h.on hW
  obtain ⟨A, c, hT, -, -⟩ := h.slice
  have hlt := h.lt
  have d1 : decide (room ≤ lr.length) = true := by simp; omega
  clear h hF hq hok hr
  unfold qptr
  go_enter Try.func21, Try.ntmps21
  go_wp2_with fail
  generalize hw0 : World.alloc (World.alloc w _) _ = w0
  obtain ⟨z1, z2, hb0⟩ := alloc2_blocks w _ _ hw0
  have HS : Hid (PbS w cs (plOf F) w0) := ⟨z1, z2⟩
  clear hw0 z1 z2 b3 b4 b6
  refine (HT.out _ hb0).mono ?_
  rintro e w1 ⟨rfl, hb1⟩
  have HS1 := Lib.hid (HS.out.on hb1)
  have HB1 := Lib.hid (hb0.trans (hb1.mono hb0.size))
  clear HS hb0 hb1 HT
  have k1 := (H.out _ HB1.out).c1
  have k2 := (H.out _ HB1.out).c2
  rw [hT] at k1
  clear hT
  generalize lr.length = n at k1 d1
  have hlt1 : g < w1.heap.size := Nat.lt_of_lt_of_le hlt HB1.out.size
  have y1 := later_cell (w0 := w1) (b := g) hlt1 k1
  have y2 := later_cell (w0 := w1) (b := g) hlt1 k2
  clear k1 k2 hlt1
  go_wp2_with fail
  refine wp_region_later mixed (by kernel_rfl) ?_
  repeat (go_big_quiet_step (fail))
  refine wpQuiet_nil ?_
  intro _ hw'
  obtain ⟨p, rfl⟩ := hw'
  have HB2 := Lib.hid (HB1.out.trans (p.hb.mono HB1.out.size))
  have HQ := H.out _ HB2.out
  have c3 := HQ.c3
  have f3 := HQ.fr 3
  have HL := Lib.hid HQ.lose'
  clear HQ y1 y2
  go_wp2
  go_end0
  exact ⟨rfl, HL.out.1, (OnlyE.of_below HB2.out).trans (HL.out.2.mono fun k hk => .inl hk)⟩

set_option maxHeartbeats 1600000 in
theorem put_in (h : QueS w base g mb T room lost lr lm D) (F : Fr) (cs : Array Value) (hF : FrL w F cs) (hok : F.Ok) (hq : hasP lm (plOf F) = false) (hr : lr.length < room) (hroom : room ≤ 4096) (hlm : lm.length ≤ 4096) :
    Calls Try.prog 21 #[qptr g, .agg cs] w fun e w' => e = .returned (.tuple #[]) ∧ ∃ y T', QueS w' base g mb T' room lost (lr ++ [plOf F]) (lm ++ [y]) (fun k => D k ∨ T'.ownBlock = some k) ∧ y.F = F ∧ (∀ k, T'.ownBlock = some k → T.ownBlock = some k ∨ w.heap.size ≤ k) ∧ OnlyE w w' (Own g mb T) := by
  have mixed := mixedOrders
  have HT : Hid (∀ W, RowKit.Below w.heap.size w W → Calls Try.prog 32 #[.pointer (some ⟨g, 0, none⟩), .agg #[.int .u8 ((plOf F).x.f : Int), .int .u64 ((plOf F).x.s : Int), .int .u32 ((plOf F).a : Int)]] W fun e w' => e = .returned (.bool false) ∧ RowKit.Below W.heap.size W w') := fun W hW => by
    have := there_any (h.on hW).toM (plOf F)
    unfold valPl plc qptr at this
    rw [hq] at this
    exact this
  obtain ⟨a0, a1, a2, a3, a4, a5, a6, a7, a8, a9, a10⟩ := hF.at_
  have hsz := hF.size
  have b3 : cs[3]'(by omega) = .int .u8 ((plOf F).x.f : Int) := (Array.getElem?_eq_some_iff.1 a3).2
  have b4 : cs[4]'(by omega) = .int .u64 ((plOf F).x.s : Int) := (Array.getElem?_eq_some_iff.1 a4).2
  have b6 : cs[6]'(by omega) = .int .u32 ((plOf F).a : Int) := by rw [plOf_a hok]; exact (Array.getElem?_eq_some_iff.1 a6).2
  clear a0 a1 a2 a3 a4 a5 a6 a7 a8 a9 a10
  have H : Hid (∀ W, RowKit.Below w.heap.size w W → QueS W base g mb T room lost lr lm D) := fun W hW => h.on hW
  have HF : Hid (∀ W, RowKit.Below w.heap.size w W → Calls Try.prog 33 #[.agg cs] W (Copied W F)) := fun W hW => fresh_any F cs W (hF.on hW) hok
  obtain ⟨A, c, hT, -, -⟩ := h.slice
  have HT2 := Lib.hid hT
  have hlt := h.lt
  have d1 : decide (room ≤ lr.length) = false := by simp; omega
  have HN : Hid (lr.length ≤ 4096) := by show _ ≤ _; omega
  have HLM := Lib.hid hlm
  have HQF := Lib.hid hq
  have HOK := Lib.hid hok
  clear h hF hq hok hr hroom hlm
  unfold qptr
  go_enter Try.func21, Try.ntmps21
  go_wp2_with fail
  generalize hw0 : World.alloc (World.alloc w _) _ = w0
  obtain ⟨z1, z2, hb0⟩ := alloc2_blocks w _ _ hw0
  have HS : Hid (PbS w cs (plOf F) w0) := ⟨z1, z2⟩
  clear hw0 z1 z2 b3 b4 b6
  refine (HT.out _ hb0).mono ?_
  rintro e w1 ⟨rfl, hb1⟩
  have HS1 := Lib.hid (HS.out.on hb1)
  have HB1 := Lib.hid (hb0.trans (hb1.mono hb0.size))
  clear HS hb0 hb1 HT
  have k1 := (H.out _ HB1.out).c1
  have k2 := (H.out _ HB1.out).c2
  rw [hT] at k1
  clear hT
  generalize lr.length = n at k1 d1
  have hlt1 : g < w1.heap.size := Nat.lt_of_lt_of_le hlt HB1.out.size
  have y1 := later_cell (w0 := w1) (b := g) hlt1 k1
  have y2 := later_cell (w0 := w1) (b := g) hlt1 k2
  clear k1 k2 hlt1
  go_wp2_with fail
  refine wp_region_later mixed (by kernel_rfl) ?_
  repeat (go_big_quiet_step (fail))
  refine wpQuiet_nil ?_
  intro _ hw'
  obtain ⟨p, rfl⟩ := hw'
  have HB2 := Lib.hid (HB1.out.trans (p.hb.mono HB1.out.size))
  have HS2 := Lib.hid (HS1.out.on p.hb)
  clear y1 y2 HS1 HB1
  generalize p.w = W at HB2 HS2 ⊢
  clear p
  go_wp2_with fail
  have HX : Hid (∀ V, RowKit.Below W.heap.size W V → V.cell? ⟨g, 0, none⟩ = some (.map (some mb)) ∧ V.cell? ⟨w.heap.size + 1, 0, none⟩ = some (.int .u8 ((plOf F).x.f : Int)) ∧ V.cell? ⟨w.heap.size + 1, 0 + 1, none⟩ = some (.int .u64 ((plOf F).x.s : Int)) ∧ V.cell? ⟨w.heap.size + 1, 0 + 1 + 1, none⟩ = some (.int .u32 ((plOf F).a : Int))) := fun V hV =>
    ⟨(H.out _ (HB2.out.trans (hV.mono HB2.out.size))).c0, (HS2.out.on hV).c0, (HS2.out.on hV).c1, (HS2.out.on hV).c2⟩
  refine wp_region_Z 7 (fun V => RowKit.Below W.heap.size W V) (by kernel_rfl) ?_
  have hHeld : RowKit.Below W.heap.size W W.drew := drewB W
  refine wpZ_take (i := 0) (d := 10) (v := ?_) rfl rfl (by kernel_rfl) (by kernel_rfl) (by kernel_rfl) (by kernel_rfl) (fun _ _ _ h => h) (Or.inl ⟨by rfl, ?_⟩) hHeld ?_
  rotate_left
  · (intro _ hSw; go_simp; try with_reducible rfl)
  simp only [List.setIfInBounds_toArray, List.set_cons_zero, List.set_cons_succ]
  refine wpZ_take (i := 1) (d := 11) (v := ?_) rfl rfl (by kernel_rfl) (by kernel_rfl) (by kernel_rfl) (by kernel_rfl) (fun _ _ _ h => h) (Or.inl ⟨by rfl, ?_⟩) hHeld ?_
  rotate_left
  · (intro _ hSw; go_simp; try with_reducible rfl)
  simp only [List.setIfInBounds_toArray, List.set_cons_zero, List.set_cons_succ]
  refine wpZ_take (i := 2) (d := 12) (v := ?_) rfl rfl (by kernel_rfl) (by kernel_rfl) (by kernel_rfl) (by kernel_rfl) (fun _ _ _ h => h) (Or.inl ⟨by rfl, ?_⟩) hHeld ?_
  rotate_left
  · (intro _ hSw; go_simp; try with_reducible rfl)
  simp only [List.setIfInBounds_toArray, List.set_cons_zero, List.set_cons_succ]
  refine wpZ_take (i := 3) (d := 13) (v := ?_) rfl rfl (by kernel_rfl) (by kernel_rfl) (by kernel_rfl) (by kernel_rfl) (fun _ _ _ h => h) (Or.inl ⟨by rfl, ?_⟩) hHeld ?_
  rotate_left
  · (intro _ hSw; obtain ⟨z0, z1, z2, z3⟩ := HX.out _ hSw; go_simp; try with_reducible rfl)
  simp only [List.setIfInBounds_toArray, List.set_cons_zero, List.set_cons_succ]
  refine wpZ_take (i := 4) (d := 14) (v := ?_) rfl rfl (by kernel_rfl) (by kernel_rfl) (by kernel_rfl) (by kernel_rfl) (fun _ _ _ h => h) (Or.inl ⟨by rfl, ?_⟩) hHeld ?_
  rotate_left
  · (intro _ hSw; obtain ⟨z0, z1, z2, z3⟩ := HX.out _ hSw; go_simp; try with_reducible rfl)
  simp only [List.setIfInBounds_toArray, List.set_cons_zero, List.set_cons_succ]
  refine wpZ_take (i := 5) (d := 15) (v := .agg cs) rfl rfl (by kernel_rfl) (by kernel_rfl) (by kernel_rfl) (by kernel_rfl) (fun _ _ _ h => h) (yields_frame (S := fun V => RowKit.Below W.heap.size W V) (x := .tmp 3) (g := w.heap.size) (by rfl) rfl rfl hsz (fun V hV => (HS2.out.on hV).fr)) hHeld ?_
  simp only [List.setIfInBounds_toArray, List.set_cons_zero, List.set_cons_succ]
  refine wpZ_ready (rs := [6]) (by kernel_rfl) (by simp) ?_
  refine AllReadyZ.cons rfl (fun K hK => ?_) AllReadyZ.nil
  go_simp
  refine (HF.out _ (HB2.out.trans (hHeld.mono HB2.out.size))).mono ?_
  rintro e w3 ⟨y, hyF, rfl, hyo, hb3⟩
  have hb3' : RowKit.Below W.heap.size W w3 := hHeld.trans (hb3.mono hHeld.size)
  have HB3 := Lib.hid (HB2.out.trans (hb3'.mono HB2.out.size))
  have HY := Lib.hid hyF
  have hpl : y.pl = plOf F := by unfold Pf.pl; rw [hyF]
  obtain ⟨w4, hrun, hQ4, hO4⟩ := (H.out _ HB3.out).putMap (x := y) (by rw [hpl]; exact HQF.out) (by have := HLM.out; omega) (hyo.X fun k hk => .inl (Nat.lt_of_lt_of_le ((H.out w (RowKit.Below.refl _ _)).din k hk).2 (Nat.le_trans HB2.out.size (by exact hHeld.size)))) (by rw [hyF]; exact HOK.out)
  rw [hpl] at hrun
  unfold valPl plc at hrun
  have hHeld2 := hb3'
  refine hK.out _ _ (fun _ => hHeld2) ?_
  clear hK K hHeld
  have hHeld := hHeld2
  clear hHeld2
  refine wpZ_ready (rs := [7]) (by kernel_rfl) (by simp) ?_
  refine AllReadyZ.cons rfl (fun K hK => ?_) AllReadyZ.nil
  refine wp_mapUpdate_step (x := .tmp 13) (y := .tmp 14) (z := .tmp 16) rfl rfl rfl rfl rfl hrun ?_
  refine hK.out _ _ (fun h => absurd rfl h) ?_
  clear hK K
  refine wpZ_done (by kernel_rfl) ?_ _
  have HQ4 := Lib.hid (hQ4.on (drewB w4))
  have HO4 : Hid (OnlyE w w4.drew (Own g mb T)) := ((OnlyE.of_below HB3.out).trans (hO4.mono fun k hk => .inr (.inl hk))).trans (OnlyE.of_below (drewB w4))
  have hmb : mb < w.heap.size := (H.out w (RowKit.Below.refl _ _)).mlt
  have HS4 : Hid (PbS w cs (plOf F) w4.drew) := ((HS2.out.on hb3').only hO4 fun k hk => .inl (by omega)).on (drewB w4)
  have HD : Hid (∀ k, D k → k < w.heap.size) := fun k hk => ((H.out w (RowKit.Below.refl _ _)).din k hk).2
  clear hrun hQ4 hO4 hyo hb3 hb3' hHeld HX HF H HS2 hmb HB3 HB2 HLM HQF HOK hsz hyF hpl
  simp only [Act.put]
  go_wp2_with fail
  refine wp_region_Z 10 (TwoQ g (w.heap.size + 1) T (plOf F)) (by kernel_rfl) ?_
  generalize w4.drew = W4 at HQ4 HO4 HS4 ⊢
  clear w4
  obtain ⟨A', c', w5, hrun5, hrow5, hg5, hk5⟩ := app_pl (plOf F) HQ4.out.row HQ4.out.lo (by have := HN.out; omega)
  have hA4 : RowKit.Below W4.heap.size W4 (W4.alloc (.cells (plc (plOf F)) 69)) := alloc_below _ _
  have hO5 : OnlyE W4 w5 (fun k => T.ownBlock = some k) := (OnlyE.of_below hA4).trans (OnlyE.of_grownO hg5)
  have hT5 : ∀ k, (Value.slice A' (lr.length + 1) c').ownBlock = some k → T.ownBlock = some k ∨ W4.heap.size ≤ k := fun k hk => by
    rcases hk5 with e | e
    · exact .inl (e ▸ hk)
    · right
      rw [e] at hk
      injection hk with hk
      omega
  have hr6 : w5.ownsRow base 69 3 (.slice A' (lr.length + 1) c') (lr ++ [plOf F]).length (flat encPl (lr ++ [plOf F])) := by
    rw [List.length_append, flat_append, flat_onePl, plc_list]
    exact hrow5
  obtain ⟨hQ6, hO6, q1, q2⟩ := HQ4.out.setRow hO5 hr6 hT5
  have hTw : ∀ k, T.ownBlock = some k → k < w.heap.size := fun k hk => HD.out k (HQ4.out.dt hk |> fun h => h)
  have s4 : TwoQ g (w.heap.size + 1) T (plOf F) W4 := ⟨HQ4.out.c1, HQ4.out.fr 1, HS4.out.c0, HS4.out.c1, HS4.out.c2⟩
  have hSA := HS4.out.on hA4
  have s4A : TwoQ g (w.heap.size + 1) T (plOf F) (W4.alloc (.cells (plc (plOf F)) 69)) := ⟨(HQ4.out.on hA4).c1, (HQ4.out.on hA4).fr 1, hSA.c0, hSA.c1, hSA.c2⟩
  have hS5 := HS4.out.only hO5 fun k hk => .inl (hTw k hk)
  have s5 : TwoQ g (w.heap.size + 1) T (plOf F) w5 := ⟨q1, q2, hS5.c0, hS5.c1, hS5.c2⟩
  have H4A := Lib.hid s4A
  have H5 := Lib.hid s5
  have HR5 := Lib.hid hrun5
  have HQ6 := Lib.hid hQ6
  have HO6 : Hid (OnlyE w (w5.setCell ⟨g, 1, none⟩ (.slice A' (lr.length + 1) c')) (Own g mb T)) := HO4.out.trans hO6
  have HT6 : Hid (∀ k, (Value.slice A' (lr.length + 1) c').ownBlock = some k → T.ownBlock = some k ∨ w.heap.size ≤ k) := fun k hk => (hT5 k hk).imp id fun h => Nat.le_trans HO4.out.size h
  clear hQ6 hO6 hrun5 hg5 hk5 hrow5 hr6 hO5 hT5 hA4 hSA hS5 s4A s5 q1 q2 hTw HS4 HO4 HD HT2
  have hHeld : TwoQ g (w.heap.size + 1) T (plOf F) W4 := s4
  clear s4
  refine wpZ_take (i := 0) (d := 17) (v := ?_) rfl rfl (by kernel_rfl) (by kernel_rfl) (by kernel_rfl) (by kernel_rfl) (fun _ _ _ h => h) (Or.inl ⟨by rfl, ?_⟩) hHeld ?_
  rotate_left
  · (intro _ hSw; go_simp; try with_reducible rfl)
  simp only [List.setIfInBounds_toArray, List.set_cons_zero, List.set_cons_succ]
  refine wpZ_take (i := 1) (d := 18) (v := ?_) rfl rfl (by kernel_rfl) (by kernel_rfl) (by kernel_rfl) (by kernel_rfl) (fun _ _ _ h => h) (Or.inl ⟨by rfl, ?_⟩) hHeld ?_
  rotate_left
  · (intro _ hSw; go_simp; try with_reducible rfl)
  simp only [List.setIfInBounds_toArray, List.set_cons_zero, List.set_cons_succ]
  refine wpZ_take (i := 2) (d := 19) (v := ?_) rfl rfl (by kernel_rfl) (by kernel_rfl) (by kernel_rfl) (by kernel_rfl) (fun _ _ _ h => h) (Or.inl ⟨by rfl, ?_⟩) hHeld ?_
  rotate_left
  · (intro _ hSw; go_simp; try with_reducible rfl)
  simp only [List.setIfInBounds_toArray, List.set_cons_zero, List.set_cons_succ]
  refine wpZ_take (i := 3) (d := 20) (v := ?_) rfl rfl (by kernel_rfl) (by kernel_rfl) (by kernel_rfl) (by kernel_rfl) (fun _ _ _ h => h) (Or.inl ⟨by rfl, ?_⟩) hHeld ?_
  rotate_left
  · (intro _ hSw; go_simp; try with_reducible rfl)
  simp only [List.setIfInBounds_toArray, List.set_cons_zero, List.set_cons_succ]
  refine wpZ_take (i := 4) (d := 21) (v := ?_) rfl rfl (by kernel_rfl) (by kernel_rfl) (by kernel_rfl) (by kernel_rfl) (fun _ _ _ h => h) (Or.inl ⟨by rfl, ?_⟩) hHeld ?_
  rotate_left
  · (intro _ hSw; obtain ⟨z0, zf, z1, z2, z3⟩ := hSw; go_simp; try with_reducible rfl)
  simp only [List.setIfInBounds_toArray, List.set_cons_zero, List.set_cons_succ]
  refine wpZ_take (i := 5) (d := 22) (v := ?_) rfl rfl (by kernel_rfl) (by kernel_rfl) (by kernel_rfl) (by kernel_rfl) (fun _ _ _ h => h) (Or.inl ⟨by rfl, ?_⟩) hHeld ?_
  rotate_left
  · (intro _ hSw; obtain ⟨z0, zf, z1, z2, z3⟩ := hSw; go_simp; try with_reducible rfl)
  simp only [List.setIfInBounds_toArray, List.set_cons_zero, List.set_cons_succ]
  refine wpZ_ready (rs := [6]) (by kernel_rfl) (by simp) ?_
  refine AllReadyZ.cons rfl (fun K hK => ?_) AllReadyZ.nil
  go_simp
  have hHeld2 := H4A.out
  refine hK.out _ _ (fun _ => hHeld2) ?_
  clear hK K hHeld
  have hHeld := hHeld2
  clear hHeld2
  refine wpZ_ready (rs := [7]) (by kernel_rfl) (by simp) ?_
  refine AllReadyZ.cons rfl (fun K hK => ?_) AllReadyZ.nil
  refine wp_append_step (s := .tmp 21) (x := .tmp 23) (t := 61) rfl rfl rfl rfl HR5.out ?_
  go_simp
  have hHeld2 := H5.out
  refine hK.out _ _ (fun _ => hHeld2) ?_
  clear hK K hHeld
  have hHeld := hHeld2
  clear hHeld2
  refine wpZ_ready (rs := [8]) (by kernel_rfl) (by simp) ?_
  refine AllReadyZ.cons rfl (fun K hK => ?_) AllReadyZ.nil
  go_simp
  have hHeld2 := H5.out
  refine hK.out _ _ (fun _ => hHeld2) ?_
  clear hK K hHeld
  have hHeld := hHeld2
  clear hHeld2
  refine wpZ_take (i := 9) (d := 26) (v := ?_) rfl rfl (by kernel_rfl) (by kernel_rfl) (by kernel_rfl) (by kernel_rfl) (fun _ _ _ h => h) (Or.inl ⟨by rfl, ?_⟩) hHeld ?_
  rotate_left
  · (intro _ hSw; go_simp; try with_reducible rfl)
  simp only [List.setIfInBounds_toArray, List.set_cons_zero, List.set_cons_succ]
  obtain ⟨z0, zf, z1, z2, z3⟩ := hHeld
  refine wpZ_ready (rs := [10]) (by kernel_rfl) (by simp) ?_
  refine AllReadyZ.cons rfl (fun K hK => ?_) AllReadyZ.nil
  go_simp
  refine hK.out _ _ (fun h => absurd rfl h) ?_
  clear hK K
  refine wpZ_done (by kernel_rfl) ?_ _
  clear z0 zf z1 z2 z3 HR5 H4A H5 HQ4
  go_wp2
  go_end0
  exact ⟨rfl, y, _, HQ6.out, HY.out, HT6.out, HO6.out⟩
end

end Go.Proofs.Ytmnjedpnhilndaa
