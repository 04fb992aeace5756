/- Stage 16: the document's Take. -/
import Derived.Test.YtmnjedpnhilndaaReQ
set_option maxRecDepth 20000
namespace Go.Proofs.Ytmnjedpnhilndaa
open Go.RowKit Go.Sort Go.Maps

/-- The two boxes of the document's Take and Drop. -/
structure TBox (w : World) (gs rs : Array Value) (W : World) : Prop where
  below : RowKit.Below w.heap.size w W
  g : W.heap[w.heap.size]? = some (.cells gs 28 (0, 0))
  r : W.heap[w.heap.size + 1]? = some (.cells rs 28 (0, 0))
section
variable {w W W' : World} {gs rs : Array Value}
theorem TBox.start (h : (w.alloc (.cells gs 28)).alloc (.cells rs 28) = W) : TBox w gs rs W := by
  obtain ⟨h1, h2, h3⟩ := alloc2_blocks w _ _ h
  exact ⟨h3, h1, h2⟩
theorem TBox.lt (h : TBox w gs rs W) : w.heap.size + 2 ≤ W.heap.size := (Array.getElem?_eq_some_iff.1 h.r).1
theorem TBox.up (h : TBox w gs rs W) (hb : RowKit.Below (w.heap.size + 2) W W') : TBox w gs rs W' :=
  ⟨h.below.trans (hb.mono (by omega)), (hb.block _ (by omega)).trans h.g, (hb.block _ (by omega)).trans h.r⟩
theorem TBox.on (h : TBox w gs rs W) (hb : RowKit.Below W.heap.size W W') : TBox w gs rs W' := h.up (hb.mono h.lt)
theorem TBox.setG (h : TBox w gs rs W) (i : Nat) (u : Value) : TBox w (gs.setIfInBounds i u) rs (W.setCell ⟨w.heap.size, i, none⟩ u) :=
  ⟨h.below.setCell (p := ⟨w.heap.size, i, none⟩) (Nat.le_refl _) u, heap_setCell_same W _ i _ _ u h.g, (heap_setCell_other W ⟨w.heap.size, i, none⟩ (w.heap.size + 1) u (by simp)).trans h.r⟩
theorem TBox.setR (h : TBox w gs rs W) (i : Nat) (u : Value) : TBox w gs (rs.setIfInBounds i u) (W.setCell ⟨w.heap.size + 1, i, none⟩ u) :=
  ⟨h.below.setCell (p := ⟨w.heap.size + 1, i, none⟩) (by show w.heap.size ≤ w.heap.size + 1; omega) u, (heap_setCell_other W ⟨w.heap.size + 1, i, none⟩ w.heap.size u (by simp)).trans h.g, heap_setCell_same W _ i _ _ u h.r⟩
theorem TBox.cellG (h : TBox w gs rs W) (i : Nat) : W.cell? ⟨w.heap.size, i, none⟩ = gs[i]? := cell_of_row W _ i _ _ _ h.g
theorem TBox.cellR (h : TBox w gs rs W) (i : Nat) : W.cell? ⟨w.heap.size + 1, i, none⟩ = rs[i]? := cell_of_row W _ i _ _ _ h.r
theorem TBox.frG (h : TBox w gs rs W) (i : Nat) : W.frozen? ⟨w.heap.size, i, none⟩ = false := frozen_of_row W _ i _ _ h.g
theorem TBox.frR (h : TBox w gs rs W) (i : Nat) : W.frozen? ⟨w.heap.size + 1, i, none⟩ = false := frozen_of_row W _ i _ _ h.r
end

/-- The slice of what is left behind the first k of n. -/
def SubA (A : Option Addr) (k n : Nat) (Ak : Option Addr) (ck : Nat) : Prop := (k < n → ∃ b off, A = some ⟨b, off, none⟩ ∧ Ak = some ⟨b, off + k * 16, none⟩) ∧ n - k ≤ ck ∧ ck ≤ maxLen
theorem SubA.lies {w : World} {D : Nat → Prop} {A Ak : Option Addr} {k ck : Nat} {ds : List Pf} (h : SubA A k ds.length Ak ck) (hX : LiesX w D A (flat encPf ds)) : LiesX w D Ak (flat encPf (ds.drop k)) := fun hn => by
  have hk : k < ds.length := by
    rcases Nat.lt_or_ge k ds.length with h | h
    · exact h
    · rw [List.drop_eq_nil_of_le h] at hn
      exact absurd rfl hn
  obtain ⟨b, off, rfl, rfl⟩ := h.1 hk
  obtain ⟨b', off', e, h1, h2, h3⟩ := hX (by
    intro h0
    have := congrArg List.length h0
    rw [flat_length encPf_len] at this
    simp at this
    omega)
  injection e with e
  injection e with e1 e2
  subst e1 e2
  refine ⟨b, off + k * 16, rfl, h1, h2, fun i u hu => ?_⟩
  rw [← flat_drop encPf_len ds k (by omega), List.getElem?_drop] at hu
  have := h3 (k * 16 + i) u hu
  rwa [← Nat.add_assoc] at this
theorem SubA.start {w : World} {D : Nat → Prop} {A : Option Addr} {c : Nat} {ds : List Pf} (hX : LiesX w D A (flat encPf ds)) (hc : ds.length ≤ c) (hcm : c ≤ maxLen) : SubA A 0 ds.length A c := by
  refine ⟨fun hk => ?_, by omega, hcm⟩
  obtain ⟨b, off, e, -, -, -⟩ := hX (by
    intro h0
    have := congrArg List.length h0
    rw [flat_length encPf_len] at this
    simp at this
    omega)
  exact ⟨b, off, e, by rw [e]; simp⟩
theorem RowX.sub {w : World} {D : Nat → Prop} {A Ak : Option Addr} {k ck : Nat} {ds : List Pf} (h : RowX w D A ds) (hs : SubA A k ds.length Ak ck) : RowX w D Ak (ds.drop k) :=
  ⟨hs.lies h.row, fun y hy => h.frs y (List.mem_of_mem_drop hy), fun y hy => h.oks y (List.mem_of_mem_drop hy)⟩

/-- What the document's Take answers. -/
def TookQ (w : World) (room : Nat) (A : Option Addr) (ds : List Pf) (lost : Nat) (but : List UInt8) (most : Int) (e : Ending) (w' : World) : Prop :=
  ∃ k A' c' A2 n2 c2, Gone but most (ds.map Pf.F) k ∧ e = .returned (.tuple #[.agg (qc room (.slice A' (ds.drop k).length c') lost), .slice A2 n2 c2]) ∧ (ds.drop k).length ≤ c' ∧ c' ≤ maxLen ∧ Hid ((outF but (ds.map Pf.F) k).length = n2) ∧ w'.ownsRow w.heap.size 40 16 (.slice A2 n2 c2) (outP but ds k).length (flat encPf (outP but ds k)) ∧ RowKit.Below w.heap.size w w' ∧
    ∀ D, (∀ b, D b → b < w.heap.size) → RowX w D A ds → RowX w' D A' (ds.drop k)

/-- What stands in the document's Take. -/
structure TqS (w : World) (room : Nat) (A : Option Addr) (ds : List Pf) (lost : Nat) (but : List UInt8) (k r : Nat) (Ak : Option Addr) (ck : Nat) (v : Value) (wr : World) : Prop where
  box : TBox w (qc room (.slice Ak r ck) lost) zeroQ wr
  sub : SubA A k ds.length Ak ck
  row : wr.ownsRow (w.heap.size + 2) 40 16 v (outP but ds k).length (flat encPf (outP but ds k))

/-- How many are left. -/
def remL (w V : World) : Nat := match V.cell? ⟨w.heap.size, 1, none⟩ with
  | some (.slice _ r _) => r
  | _ => 0
theorem TqS.rem {w wr : World} {room : Nat} {A : Option Addr} {ds : List Pf} {lost : Nat} {but : List UInt8} {k r : Nat} {Ak : Option Addr} {ck : Nat} {v : Value} (h : TqS w room A ds lost but k r Ak ck v wr) : remL w wr = r := by
  unfold remL
  rw [h.box.cellG 1]
  rfl

theorem TqS.done {w wr : World} {room : Nat} {A : Option Addr} {ds : List Pf} {lost : Nat} {but : List UInt8} {most : Int} {k r : Nat} {Ak : Option Addr} {ck : Nat} {A2 : Option Addr} {n2 c2 : Nat} (h : TqS w room A ds lost but k r Ak ck (.slice A2 n2 c2) wr) (hr : k + r = ds.length) (hn : (outP but ds k).length = n2) (hG : Gone but most (ds.map Pf.F) k)
    {W : World} (ho : OnlyE wr W (fun b => b = w.heap.size + 1)) :
    TookQ w room A ds lost but most (.returned (.tuple #[.agg (qc room (.slice Ak r ck) lost), .slice A2 n2 c2])) W := by
  have hw := h.box.below.trans (ho.below (fun b hb => by omega) h.box.below.size)
  have hlr : (ds.drop k).length = r := by rw [List.length_drop]; omega
  refine ⟨k, Ak, ck, A2, n2, c2, hG, by rw [hlr], by rw [List.length_drop]; exact h.sub.2.1, h.sub.2.2, by show _ = _; rw [← outP_F, List.length_map]; exact hn, own_base (own_only h.row ho fun b hb1 e => by have := (h.row.lt b hb1).1; omega) (by omega), hw, fun D hD hX => (hX.sub h.sub).on hw⟩

set_option maxHeartbeats 6400000 in
theorem refTake_any (room lost : Nat) (A : Option Addr) (c : Nat) (ds : List Pf) (most : Int) (B : Option Addr) (nb cb : Nat) (but : List UInt8) (w : World) (hR : RowX w (fun _ => False) A ds) (hlen : ds.length ≤ 4096) (hc : ds.length ≤ c) (hcm : c ≤ maxLen) (hb : but.length = nb) (hb2 : nb ≤ 1000) (hB : Lies w w.heap.size B (bvs but)) :
    Calls Try.prog 13 #[.agg (qc room (.slice A ds.length c) lost), .int .i64 most, .slice B nb cb] w (TookQ w room A ds lost but most) := by
  have HIN : Hid (∀ V, RowKit.Below w.heap.size w V → ∀ f : Nat, Calls Try.prog 22 #[.slice B nb cb, .int .u8 (f : Int)] V fun e w' => e = .returned (.bool (inB but f)) ∧ V = w') := fun V hV f => refIn_any B nb cb but f V hb hb2 (hB.later hV)
  have HSB := Lib.hid (SubA.start hR.row hc hcm)
  have HR := Lib.hid hR
  clear hb hB hR hc hcm
  obtain ⟨n, hN⟩ : ∃ n, ds.length = n := ⟨_, rfl⟩
  have HN := Lib.hid hN
  rw [hN] at hlen ⊢
  clear hN
  unfold qc
  go_enter Try.func13, Try.ntmps13
  go_wp2_with fail
  generalize hw0 : World.alloc (World.alloc w _) _ = w0
  have HB : Hid (TBox w (qc room (.slice A n c) lost) zeroQ w0) := TBox.start hw0
  have hs0 : w0.heap.size = w.heap.size + 1 + 1 := by rw [← hw0]; simp
  clear hw0
  have HS0 : Hid (TqS w room A ds lost but 0 n A c (.slice (some ⟨w.heap.size + 1 + 1, 0, none⟩) 0 0) (w0.alloc (.cells #[] 40))) :=
    ⟨HB.out.on (alloc_below _ _), HSB.out, by rw [← hs0]; exact World.ownsRow_made w0 #[] 0 (Nat.le_refl _) (Nat.zero_le _) rfl⟩
  clear HB HSB hs0
  go_loopw [8, 9] (fun s8 _ V => ∃ (k r : Nat) (Ak : Option Addr) (ck : Nat) (Ao : Option Addr) (no co : Nat), r ≤ n ∧ s8 = .slice Ao no co ∧ Hid (k + r = ds.length) ∧ Hid ((outP but ds k).length = no) ∧ Hid (TqS w room A ds lost but k r Ak ck (.slice Ao no co) V) ∧ Hid (k ≤ (ds.map Pf.F).length ∧ ∀ j < k, ¬ Stop but most (ds.map Pf.F) j)) (fun _ _ V => remL w V)
  case atStart => exact ⟨0, n, A, c, _, 0, 0, Nat.le_refl _, rfl, by show _ = _; rw [HN.out]; omega, rfl, HS0, Nat.zero_le _, fun j hj => absurd hj (Nat.not_lt_zero _)⟩
  case round =>
    clear HS0
    obtain ⟨k, r, Ak, ck, Ao, no, co, hrn, rfl, HRK, HNO, HS, HGK⟩ := hrel
    rcases r with _ | r
    · have HSTOP : Hid (Stop but most (ds.map Pf.F) k) := .inl (by rw [List.length_map]; have := HRK.out; omega)
      clear HIN HN
      have hP := HS.out.box
      have g0 := hP.cellG 0
      have g1 := hP.cellG 1
      have g2 := hP.cellG 2
      have q0 := hP.cellR 0
      have q1 := hP.cellR 1
      have q2 := hP.cellR 2
      have r0 := hP.frR 0
      have r1 := hP.frR 1
      have r2 := hP.frR 2
      have HP := Lib.hid hP
      simp only [qc, zeroQ, List.getElem?_toArray, List.getElem?_cons_succ, List.getElem?_cons_zero] at g0 g1 g2 q0 q1 q2
      clear hP
      go_wp2
      have hR := ((HP.out.setR 0 (.int .i64 (room : Int))).setR 1 (.slice Ak 0 ck)).setR 2 (.int .i64 (lost : Int))
      refine bodyPost_ret (results_cell_tmp rfl _ _ (w.heap.size + 1) _ rfl (load_rowW hR.r rfl)) rfl ?_
      refine HS.out.done HRK.out HNO.out ⟨HGK.out.1, HSTOP.out, HGK.out.2⟩ (OnlyE.set3 (D := fun b => b = w.heap.size + 1) rfl _ _ _ _ _ _)
    · have hkd : k < ds.length := by have := HRK.out; omega
      have hXr := (HR.out.on HS.out.box.below).sub HS.out.sub
      have hkd0 : 0 < (ds.drop k).length := by rw [List.length_drop]; omega
      obtain ⟨bd, off, hAk, hbd, hcy⟩ := row_at hXr.row.lies hkd0
      rw [List.getElem_drop] at hcy
      simp only [Nat.add_zero, Nat.zero_mul] at hcy
      have HREM : Hid (remL w wr = r + 1) := HS.out.rem
      have HSUB := Lib.hid HS.out.sub
      have hck1 : r + 1 ≤ ck := by have := HS.out.sub.2.1; have := HRK.out; omega
      have hckm : (ck : Int) ≤ 9223372036854775807 := by have := HS.out.sub.2.2; unfold maxLen at this; omega
      have HKP := Lib.hid (outP_keep (but := but) hkd)
      have HSK := Lib.hid (outP_skip (but := but) hkd)
      have HNSK := Lib.hid (not_stop_skip (but := but) (most := most) hkd)
      have HNSM := Lib.hid (not_stop_more (but := but) (most := most) hkd)
      have HSTA := Lib.hid (stop_at (but := but) (most := most) hkd)
      have HKB : Hid (keepB but ds[k].F = !inB but ds[k].F.id.f) := rfl
      generalize ds[k] = x at hcy HKP HSK HNSK HSTA HKB
      have hP := HS.out.box
      have g1 := hP.cellG 1
      simp only [qc, List.getElem?_toArray, List.getElem?_cons_succ, List.getElem?_cons_zero] at g1
      rw [hAk] at g1
      have hA5 := alloc_below wr (.cells x.cs 40)
      have HR5 : Hid ((wr.alloc (.cells x.cs 40)).heap[wr.heap.size]? = some (.cells x.cs 40 (0, 0))) := heap_alloc_new _ _
      have HCI := Lib.hid (HIN.out (wr.alloc (.cells x.cs 40)) (hP.below.trans (hA5.mono hP.below.size)) x.F.id.f)
      have b3 : (wr.alloc (.cells x.cs 40)).cell? ⟨wr.heap.size, 3, none⟩ = some (.int .u8 (x.F.id.f : Int)) := cell_of_row _ _ 3 _ _ _ HR5.out
      have HBX0 := Lib.hid (hP.on hA5)
      have HRW0 := Lib.hid (own_below HS.out.row hA5)
      have HGNX : Hid (¬ Stop but most (ds.map Pf.F) k → k + 1 ≤ (ds.map Pf.F).length ∧ ∀ j < k + 1, ¬ Stop but most (ds.map Pf.F) j) := fun hs => ⟨by rw [List.length_map]; omega, fun j hj => by
        by_cases e : j = k
        · exact e ▸ hs
        · exact HGK.out.2 j (by omega)⟩
      have hno4 : no ≤ 4096 := by have := outP_len but ds k; have := HNO.out; have := HN.out; omega
      clear hP hA5 hXr hkd0 hbd
      go_wp2_with (first | (refine load_elem (.tmp 17) rfl hcy ?_) | (refine store_frame_new (.tmp 9) (.tmp 18) rfl rfl rfl rfl (Pf.size x) (Pf.one x) ?_) | fail)
      refine HCI.out.mono ?_
      rintro e w' ⟨rfl, rfl⟩
      clear g1 HCI
      cases hq : inB but x.F.id.f with
      | true =>
        have hk0 : keepB but x.F = false := by rw [HKB.out, hq]; rfl
        have HNO2 : Hid ((outP but ds (k + 1)).length = no) := by show _ = _; rw [HSK.out hk0]; exact HNO.out
        have HGK2 := Lib.hid (HGNX.out (HNSK.out hk0))
        have HRW := HRW0
        rw [← HSK.out hk0] at HRW
        have HBX := HBX0
        clear HS HRW0 HBX0 HKP HSK HNSK HNSM HSTA HKB hk0 hq HGNX HR5 HIN hcy b3
        generalize wr.alloc (.cells x.cs 40) = V0 at HBX HRW ⊢
        go_upto_region 8 with fail
        have hP := HBX.out
        have g1 := hP.cellG 1
        have gf := hP.frG 1
        simp only [qc, List.getElem?_toArray, List.getElem?_cons_succ, List.getElem?_cons_zero] at g1
        have HP := Lib.hid hP
        clear hP HBX
        by_cases hck : ck = 1
        · obtain rfl : r = 0 := by omega
          subst hck
          have HS2 : Hid (∀ a, TqS w room A ds lost but (k + 1) 0 a 0 (.slice Ao no co) (V0.setCell ⟨w.heap.size, 1, none⟩ (.slice a 0 0))) := fun a =>
            ⟨HP.out.setG 1 _, ⟨fun h => absurd h (by have := HRK.out; omega), by have := HRK.out; omega, Nat.zero_le _⟩, own_only HRW.out (onlyE_set (D := fun b => b = w.heap.size) rfl 1 _) fun b hb e => by have := (HRW.out.lt b hb).1; omega⟩
          clear HP HRW
          go_wp2
          refine ⟨⟨k + 1, 0, _, 0, _, _, _, Nat.zero_le _, rfl, by have := HRK.out; show _ = _; omega, HNO2, HS2.out _, HGK2⟩, ?_⟩
          show remL w _ < remL w _
          rw [(HS2.out _).rem, HREM.out]
          omega
        · obtain ⟨ba, oa, e1, e2⟩ := HSUB.out.1 (by have := HRK.out; omega)
          have HS2 : Hid (TqS w room A ds lost but (k + 1) r (some ⟨ba, oa + k * 16 + 16, none⟩) (ck - 1) (.slice Ao no co) (V0.setCell ⟨w.heap.size, 1, none⟩ (.slice (some ⟨ba, oa + k * 16 + 16, none⟩) r (ck - 1)))) :=
            ⟨HP.out.setG 1 _, ⟨fun _ => ⟨ba, oa, e1, by rw [Nat.add_mul, Nat.one_mul, ← Nat.add_assoc]⟩, by have := HSUB.out.2.1; have := HRK.out; omega, by have := HSUB.out.2.2; omega⟩, own_only HRW.out (onlyE_set (D := fun b => b = w.heap.size) rfl 1 _) fun b hb e => by have := (HRW.out.lt b hb).1; omega⟩
          rw [e2] at g1
          clear HP HRW e1
          go_wp2
          refine ⟨⟨k + 1, r, _, _, _, _, _, by omega, rfl, by have := HRK.out; show _ = _; omega, HNO2, HS2, HGK2⟩, ?_⟩
          show remL w _ < remL w _
          rw [HS2.out.rem, HREM.out]
          omega
      | false =>
        have hk1 : keepB but x.F = true := by rw [HKB.out, hq]; rfl
        by_cases hm : most ≤ (no : Int)
        · have d1 : decide (most ≤ (no : Int)) = true := decide_eq_true hm
          have HSTOP := Lib.hid (HSTA.out hk1 (by rw [HNO.out]; exact hm))
          have HS : Hid (TqS w room A ds lost but k (r + 1) Ak ck (.slice Ao no co) (wr.alloc (.cells x.cs 40))) := ⟨HBX0.out, HSUB.out, HRW0.out⟩
          clear HRW0 HBX0 HKP HSK HNSK HNSM HSTA HKB hk1 hq HGNX HR5 HIN hcy b3
          generalize wr.alloc (.cells x.cs 40) = V0 at HS ⊢
          subst hAk
          have hP := HS.out.box
          have g0 := hP.cellG 0
          have g1 := hP.cellG 1
          have g2 := hP.cellG 2
          have q0 := hP.cellR 0
          have q1 := hP.cellR 1
          have q2 := hP.cellR 2
          have r0 := hP.frR 0
          have r1 := hP.frR 1
          have r2 := hP.frR 2
          have HP := Lib.hid hP
          simp only [qc, zeroQ, List.getElem?_toArray, List.getElem?_cons_succ, List.getElem?_cons_zero] at g0 g1 g2 q0 q1 q2
          clear hP
          go_wp2
          have hR := ((HP.out.setR 0 (.int .i64 (room : Int))).setR 1 (.slice (some ⟨bd, off, none⟩) (r + 1) ck)).setR 2 (.int .i64 (lost : Int))
          refine bodyPost_ret (results_cell_tmp rfl _ _ (w.heap.size + 1) _ rfl (load_rowW hR.r rfl)) rfl ?_
          refine HS.out.done HRK.out HNO.out ⟨HGK.out.1, HSTOP.out, HGK.out.2⟩ (OnlyE.set3 (D := fun b => b = w.heap.size + 1) rfl _ _ _ _ _ _)
        · have d1 : decide (most ≤ (no : Int)) = false := decide_eq_false hm
          have HNO2 : Hid ((outP but ds (k + 1)).length = no + 1) := by show _ = _; rw [HKP.out hk1, List.length_append, HNO.out]; rfl
          have HGK2 := Lib.hid (HGNX.out (HNSM.out (by rw [HNO.out]; omega)))
          have HAP : Hid (∃ A6 c6 W6, (Builtin.append_ #[26, 26] 26 #[.slice Ao no co, .slice (some ⟨(wr.alloc (.cells x.cs 40)).heap.size, 0, none⟩) 1 1]).run Try.prog ((wr.alloc (.cells x.cs 40)).alloc (.cells x.cs 40)) = .ok (.slice A6 (no + 1) c6) W6 ∧
              W6.ownsRow (w.heap.size + 2) 40 16 (.slice A6 (no + 1) c6) (outP but ds (k + 1)).length (flat encPf (outP but ds (k + 1))) ∧ TBox w (qc room (.slice Ak (r + 1) ck) lost) zeroQ W6) := by
            have hbA := alloc_below (wr.alloc (.cells x.cs 40)) (.cells x.cs 40)
            have hrA := own_below HRW0.out hbA
            have hL := lies_new (wr.alloc (.cells x.cs 40)) x.cs 40
            rw [← flat_single] at hL
            obtain ⟨A6, c6, W6, hrun, hown, hg, hb6, -, -⟩ := app_frames (m := 1) (c := 1) hrA (List.length_singleton : [x].length = 1) hL (HBX0.out.on hbA).lt (by rw [HNO.out]; omega)
            rw [HNO.out, ← flat_append, ← HKP.out hk1] at hown
            rw [HNO.out] at hrun
            exact ⟨A6, c6, W6, hrun, by rw [HNO2.out]; exact hown, (HBX0.out.on hbA).up hb6⟩
          obtain ⟨A6, c6, V0, hrun, hrow6, hbox6⟩ := HAP.out
          have HRUN := Lib.hid hrun
          have HRW := Lib.hid hrow6
          have HBX := Lib.hid hbox6
          clear HAP hrun hrow6 hbox6 HS HRW0 HBX0 HKP HSK HNSK HNSM HSTA HKB hk1 hq HGNX HIN hcy b3
          have hP := HBX.out
          have g1 := hP.cellG 1
          have gf := hP.frG 1
          simp only [qc, List.getElem?_toArray, List.getElem?_cons_succ, List.getElem?_cons_zero] at g1
          have HP := Lib.hid hP
          clear hP HBX
          by_cases hck : ck = 1
          · obtain rfl : r = 0 := by omega
            subst hck
            have HS2 : Hid (∀ a, TqS w room A ds lost but (k + 1) 0 a 0 (.slice A6 (no + 1) c6) (V0.setCell ⟨w.heap.size, 1, none⟩ (.slice a 0 0))) := fun a =>
              ⟨HP.out.setG 1 _, ⟨fun h => absurd h (by have := HRK.out; omega), by have := HRK.out; omega, Nat.zero_le _⟩, own_only HRW.out (onlyE_set (D := fun b => b = w.heap.size) rfl 1 _) fun b hb e => by have := (HRW.out.lt b hb).1; omega⟩
            clear HP HRW
            go_wp2_with (first | (refine load_frame (.tmp 9) rfl HR5.out (Pf.size x) ?_) | (refine wpList_build1 rfl (x := .tmp 32) (y := x) rfl rfl ?_) | (at_builtin; refine wpList_append_run rfl (.tmp 31) (.tmp 33) 26 rfl rfl rfl HRUN.out ?_) | fail)
            refine ⟨⟨k + 1, 0, _, 0, _, _, _, Nat.zero_le _, rfl, by have := HRK.out; show _ = _; omega, HNO2, HS2.out _, HGK2⟩, ?_⟩
            show remL w _ < remL w _
            rw [(HS2.out _).rem, HREM.out]
            omega
          · obtain ⟨ba, oa, e1, e2⟩ := HSUB.out.1 (by have := HRK.out; omega)
            have HS2 : Hid (TqS w room A ds lost but (k + 1) r (some ⟨ba, oa + k * 16 + 16, none⟩) (ck - 1) (.slice A6 (no + 1) c6) (V0.setCell ⟨w.heap.size, 1, none⟩ (.slice (some ⟨ba, oa + k * 16 + 16, none⟩) r (ck - 1)))) :=
              ⟨HP.out.setG 1 _, ⟨fun _ => ⟨ba, oa, e1, by rw [Nat.add_mul, Nat.one_mul, ← Nat.add_assoc]⟩, by have := HSUB.out.2.1; have := HRK.out; omega, by have := HSUB.out.2.2; omega⟩, own_only HRW.out (onlyE_set (D := fun b => b = w.heap.size) rfl 1 _) fun b hb e => by have := (HRW.out.lt b hb).1; omega⟩
            rw [e2] at g1
            clear HP HRW e1
            go_wp2_with (first | (refine load_frame (.tmp 9) rfl HR5.out (Pf.size x) ?_) | (refine wpList_build1 rfl (x := .tmp 32) (y := x) rfl rfl ?_) | (at_builtin; refine wpList_append_run rfl (.tmp 31) (.tmp 33) 26 rfl rfl rfl HRUN.out ?_) | fail)
            refine ⟨⟨k + 1, r, _, _, _, _, _, by omega, rfl, by have := HRK.out; show _ = _; omega, HNO2, HS2, HGK2⟩, ?_⟩
            show remL w _ < remL w _
            rw [HS2.out.rem, HREM.out]
            omega

end Go.Proofs.Ytmnjedpnhilndaa
