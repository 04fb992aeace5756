/- Stage 16: the walk of Take. -/
import Derived.Test.YtmnjedpnhilndaaReI
set_option maxRecDepth 20000
namespace Go.Proofs.Ytmnjedpnhilndaa
open Go.RowKit Go.Sort Go.Maps

theorem wp_delete_step {P : Program} {o : Oper} {a : Act} {w w' : World} {vm vx : Value} {ys : Nat → Option Bool} {K : Act → World → Prop} {Q : Exit → Act → World → Prop} {x y : Operand} {t k : TypeId} (hgd : o.guard = none)
    (ho : o.op = .call { callee := .builtin .delete, args := #[x, y], argTypes := #[t, k] })
    (hm : a.eval x = vm) (hx : a.eval y = vx) (hrun : (Builtin.delete_ #[t, k] o.type #[vm, vx]).run P w = .ok (.tuple #[]) w') (hk : K (a.put o.dst (.tuple #[])) w') :
    if Region.wanted o ys = true then Oper.wp P o a w K Q else K (a.put o.dst undef) w := by
  rw [if_pos (by simp [Region.wanted, hgd])]
  unfold Oper.wp execOp
  simp only [ho, resolve, invoke, builtin, Sem.run_bind, Sem.run_pure, Result.andThen_ok, List.map_toArray, List.map_cons, List.map_nil, hm, hx, hrun]
  exact hk

/-- Is a frame answered, if it comes to it? -/
def keepB (but : List UInt8) (F : Fr) : Bool := !inB but F.id.f
/-- What is answered of the first k. -/
def outF (but : List UInt8) (Fs : List Fr) (k : Nat) : List Fr := (Fs.take k).filter (keepB but)
def outP (but : List UInt8) (l : List Pf) (k : Nat) : List Pf := (l.take k).filter fun y => keepB but y.F
theorem outP_F (but : List UInt8) (l : List Pf) (k : Nat) : (outP but l k).map Pf.F = outF but (l.map Pf.F) k := by
  unfold outP outF
  rw [← List.map_take, List.filter_map]
  rfl
/-- Does it stop ahead of frame k? -/
def Stop (but : List UInt8) (most : Int) (Fs : List Fr) (k : Nat) : Prop := k = Fs.length ∨ ∃ h : k < Fs.length, keepB but Fs[k] = true ∧ most ≤ ((outF but Fs k).length : Int)
/-- So many go. -/
def Gone (but : List UInt8) (most : Int) (Fs : List Fr) (k : Nat) : Prop := k ≤ Fs.length ∧ Stop but most Fs k ∧ ∀ j < k, ¬ Stop but most Fs j
theorem Gone.one {but : List UInt8} {most : Int} {Fs : List Fr} {k k' : Nat} (h : Gone but most Fs k) (h' : Gone but most Fs k') : k = k' := by
  rcases Nat.lt_trichotomy k k' with hl | hl | hl
  · exact absurd h.2.1 (h'.2.2 k hl)
  · exact hl
  · exact absurd h'.2.1 (h.2.2 k' hl)
theorem outP_keep {but : List UInt8} {l : List Pf} {k : Nat} (h : k < l.length) (hk : keepB but l[k].F = true) : outP but l (k + 1) = outP but l k ++ [l[k]] := by
  unfold outP
  rw [List.take_succ_eq_append_getElem h, List.filter_append]
  simp [hk]
theorem outP_skip {but : List UInt8} {l : List Pf} {k : Nat} (h : k < l.length) (hk : keepB but l[k].F = false) : outP but l (k + 1) = outP but l k := by
  unfold outP
  rw [List.take_succ_eq_append_getElem h, List.filter_append]
  simp [hk]
theorem outP_len (but : List UInt8) (l : List Pf) (k : Nat) : (outP but l k).length ≤ k := by
  unfold outP
  exact Nat.le_trans (List.length_filter_le _ _) (by rw [List.length_take]; omega)
theorem outP_sub {but : List UInt8} {l : List Pf} {k : Nat} {y : Pf} (h : y ∈ outP but l k) : y ∈ l := List.mem_of_mem_take (List.mem_filter.1 h).1
theorem not_stop_skip {but : List UInt8} {most : Int} {l : List Pf} {k : Nat} (h : k < l.length) (hk : keepB but l[k].F = false) : ¬ Stop but most (l.map Pf.F) k := by
  rintro (h1 | ⟨h1, h2, -⟩)
  · rw [List.length_map] at h1; omega
  · rw [List.getElem_map, hk] at h2
    cases h2
theorem not_stop_more {but : List UInt8} {most : Int} {l : List Pf} {k : Nat} (h : k < l.length) (hm : ((outP but l k).length : Int) < most) : ¬ Stop but most (l.map Pf.F) k := by
  rintro (h1 | ⟨h1, -, h3⟩)
  · rw [List.length_map] at h1; omega
  · rw [← outP_F, List.length_map] at h3
    omega
theorem stop_at {but : List UInt8} {most : Int} {l : List Pf} {k : Nat} (h : k < l.length) (hk : keepB but l[k].F = true) (hm : most ≤ ((outP but l k).length : Int)) : Stop but most (l.map Pf.F) k :=
  .inr ⟨by rw [List.length_map]; exact h, by rw [List.getElem_map]; exact hk, by rw [← outP_F, List.length_map]; exact hm⟩

/-- A list of frames in a row of the call's own. -/
def FrsAt (w : World) (base : Nat) (Fs : List Fr) (v : Value) : Prop :=
  ∃ ys : List Pf, ys.map Pf.F = Fs ∧ w.ownsRow base 40 16 v Fs.length (flat encPf ys) ∧ ∀ y ∈ ys, y.X w (fun _ => False) ∧ y.F.Ok
theorem FrsAt.on {w w' : World} {base : Nat} {Fs : List Fr} {v : Value} (h : FrsAt w base Fs v) (hb : RowKit.Below w.heap.size w w') : FrsAt w' base Fs v := by
  obtain ⟨ys, h1, h2, h3⟩ := h
  exact ⟨ys, h1, own_below h2 hb, fun y hy => ⟨(h3 y hy).1.on hb, (h3 y hy).2⟩⟩

/-- What stands while frames are taken: k went out of the map, os are to be answered. -/
structure TkS (w : World) (base g mb : Nat) (T : Value) (room lost : Nat) (l : List Pf) (D : Nat → Prop) (k : Nat) (os : List Pf) (v : Value) (wr : World) : Prop where
  q : QueS wr base g mb T room lost (l.map Pf.pl) (l.drop k) D
  only : OnlyE w wr (fun b => b = mb)
  row : wr.ownsRow w.heap.size 40 16 v os.length (flat encPf os)

section
variable {w wr W : World} {base g mb : Nat} {T : Value} {room lost : Nat} {l : List Pf} {D : Nat → Prop} {k : Nat} {os : List Pf} {v : Value}
theorem TkS.on (h : TkS w base g mb T room lost l D k os v wr) (hb : RowKit.Below wr.heap.size wr W) : TkS w base g mb T room lost l D k os v W :=
  ⟨h.q.on hb, h.only.trans (OnlyE.of_below hb), own_below h.row hb⟩
theorem TkS.start (h : QueS w base g mb T room lost (l.map Pf.pl) l D) : TkS w base g mb T room lost l D 0 [] (.slice none 0 0) w :=
  ⟨by rw [List.drop_zero]; exact h, OnlyE.of_below (RowKit.Below.refl _ _), World.ownsRow_nil _ _ _ _⟩
theorem TkS.del (h : TkS w base g mb T room lost l D k os v wr) (hw : mb < w.heap.size) (hk : k < l.length) (ty : TypeId) :
    ∃ w4, (Builtin.delete_ #[60, 69] ty #[.map (some mb), valPl l[k].pl]).run Try.prog wr = .ok (.tuple #[]) w4 ∧ TkS w base g mb T room lost l D (k + 1) os v w4 ∧ OnlyE wr w4 (fun b => b = mb) := by
  have h1 := h.q
  rw [List.drop_eq_getElem_cons hk] at h1
  obtain ⟨w4, a1, a2, a3⟩ := h1.delMap (a := []) ty
  exact ⟨w4, a1, ⟨a2, h.only.trans a3, own_only h.row a3 fun b hb e => by have := (h.row.lt b hb).1; omega⟩, a3⟩
theorem QueS.kept2 {lr : List Pl} {lm : List Pf} {X : Nat → Prop} (h : QueS wr base g mb T room lost lr lm D) (ho : OnlyE wr W X) (hX : ∀ b, X b → ¬ Own g mb T b) (hf : ∀ x ∈ lm, x.X W D) : QueS W base g mb T room lost lr lm D := by
  obtain ⟨E, e1, e2⟩ := h.map
  exact {
    box := (ho.same g h.lt fun hx => hX g hx (.inl rfl)).trans h.box
    row := own_only h.row ho fun b hb hx => hX b hx (.inr (.inr hb))
    map := ⟨E, ownsMap_only e1 ho fun hx => hX mb hx (.inr (.inl rfl)), e2⟩
    frs := hf
    oks := h.oks, own := h.own
    din := fun b hb => ⟨(h.din b hb).1, Nat.lt_of_lt_of_le (h.din b hb).2 ho.size⟩ }
theorem TkS.app (h : TkS w base g mb T room lost l D k os v wr) (h0 : QueS w base g mb T room lost (l.map Pf.pl) l D) (hos : os.length ≤ 5000) (x : Pf) :
    ∃ A' c' w2, (Builtin.append_ #[26, 26] 26 #[v, .slice (some ⟨wr.heap.size, 0, none⟩) 1 1]).run Try.prog (wr.alloc (.cells x.cs 40)) = .ok (.slice A' (os.length + 1) c') w2 ∧
      TkS w base g mb T room lost l D k (os ++ [x]) (.slice A' (os.length + 1) c') w2 ∧ OnlyE (wr.alloc (.cells x.cs 40)) w2 (fun b => v.ownBlock = some b) := by
  have hb : RowKit.Below wr.heap.size wr (wr.alloc (.cells x.cs 40)) := alloc_below _ _
  have hA := h.on hb
  have hL := lies_new wr x.cs 40
  rw [← flat_single] at hL
  have hsz := h.only.size
  obtain ⟨A', c', w2, hrun, hown, hg, -, -, -⟩ := app_frame (m := 1) (c := 1) hA.row (List.length_singleton : [x].length = 1) hL (by have := hb.size; omega) (by omega)
  have hO := OnlyE.of_grownO hg
  have hv : ∀ b, v.ownBlock = some b → w.heap.size ≤ b := fun b hb => (hA.row.lt b hb).1
  have hO2 : OnlyE w w2 (fun b => b = mb) := hA.only.pre hO fun j hj => .inr (hv j hj)
  refine ⟨A', c', w2, hrun, ⟨hA.q.kept2 hO (fun b hb ho => ?_) fun y hy => (h0.frs y (List.mem_of_mem_drop hy)).kept (hO2.mono fun k hk => hk ▸ h0.dm), hO2, ?_⟩, hO⟩
  · have h1 := hv b hb
    have h2 := (h0.din b (h0.own b ho)).2
    omega
  · rw [List.length_append, flat_append]
    exact hown
/-- The round's box. -/
def BxP (b : Nat) (p : Pl) (V : World) : Prop := V.heap[b]? = some (.cells (plc p) 69 (0, 0))
theorem BxP.c0 {b : Nat} {p : Pl} {V : World} (h : BxP b p V) : V.cell? ⟨b, 0, none⟩ = some (.int .u8 (p.x.f : Int)) := cell_of_row V b 0 _ _ _ h
theorem BxP.c1 {b : Nat} {p : Pl} {V : World} (h : BxP b p V) : V.cell? ⟨b, 0 + 1, none⟩ = some (.int .u64 (p.x.s : Int)) := cell_of_row V b 1 _ _ _ h
theorem BxP.c2 {b : Nat} {p : Pl} {V : World} (h : BxP b p V) : V.cell? ⟨b, 0 + 1 + 1, none⟩ = some (.int .u32 (p.a : Int)) := cell_of_row V b 2 _ _ _ h
theorem BxP.lt {b : Nat} {p : Pl} {V : World} (h : BxP b p V) : b < V.heap.size := (Array.getElem?_eq_some_iff.1 h).1
theorem BxP.only {b : Nat} {p : Pl} {V V' : World} {X : Nat → Prop} (h : BxP b p V) (ho : OnlyE V V' X) (hX : ¬ X b) : BxP b p V' := (ho.same b h.lt hX).trans h
theorem BxP.on {b : Nat} {p : Pl} {V V' : World} (h : BxP b p V) (hb : RowKit.Below V.heap.size V V') : BxP b p V' := (hb.block b h.lt).trans h
/-- What the two regions of a round load. -/
def S12 (g mb b : Nat) (p : Pl) (V : World) : Prop := V.cell? ⟨g, 0, none⟩ = some (.map (some mb)) ∧ V.cell? ⟨b, 0, none⟩ = some (.int .u8 (p.x.f : Int)) ∧ V.cell? ⟨b, 0 + 1, none⟩ = some (.int .u64 (p.x.s : Int)) ∧ V.cell? ⟨b, 0 + 1 + 1, none⟩ = some (.int .u32 (p.a : Int))
def S11 (g mb b : Nat) (p : Pl) (x : Pf) (V : World) : Prop := S12 g mb b p V ∧ (Instr.lookup 60 (.map (some mb)) (.agg #[.int .u8 (p.x.f : Int), .int .u64 (p.x.s : Int), .int .u32 (p.a : Int)]) false).run Try.prog V = .ok (.agg x.cs) V
theorem TkS.s12 (h : TkS w base g mb T room lost l D k os v wr) {b : Nat} {p : Pl} (hB : BxP b p wr) : S12 g mb b p wr := ⟨h.q.c0, hB.c0, hB.c1, hB.c2⟩
theorem TkS.s11 (h : TkS w base g mb T room lost l D k os v wr) {b : Nat} (hk : k < l.length) (hB : BxP b l[k].pl wr) : S11 g mb b l[k].pl l[k] wr :=
  ⟨h.s12 hB, h.q.at_ (by rw [List.drop_eq_getElem_cons hk]; exact List.mem_cons_self) (RowKit.Below.refl _ _)⟩
end

/-- What Take answers, and leaves. -/
def Took (w : World) (base g mb : Nat) (T : Value) (room lost : Nat) (D : Nat → Prop) (but : List UInt8) (most : Int) (Fs : List Fr) (e : Ending) (w' : World) : Prop :=
  ∃ k A n c, Gone but most Fs k ∧ e = .returned (.slice A n c) ∧ Hid ((outF but Fs k).length = n) ∧ FrsAt w' w.heap.size (outF but Fs k) (.slice A n c) ∧ Went w base g mb T room D ⟨Fs.drop k, lost⟩ w'

section
variable {w wr W : World} {base g mb : Nat} {T : Value} {room lost : Nat} {l : List Pf} {D : Nat → Prop} {k : Nat} {v : Value}
/-- The end: the row is cut, and stored. -/
theorem TkS.done {but : List UInt8} {most : Int} {A : Option Addr} {n c : Nat} {T' : Value} (h : TkS w base g mb T room lost l D k (outP but l k) (.slice A n c) wr) (h0 : QueS w base g mb T room lost (l.map Pf.pl) l D) (hG : Gone but most (l.map Pf.F) k) (hn : (outP but l k).length = n)
    (hrow : W.ownsRow base 69 3 T' ((l.map Pf.pl).drop k).length (flat encPl ((l.map Pf.pl).drop k))) (ho : OnlyE wr W (fun b => T.ownBlock = some b)) (hT : T'.ownBlock = T.ownBlock) :
    W.cell? ⟨g, 1, none⟩ = some T ∧ W.frozen? ⟨g, 1, none⟩ = false ∧ Took w base g mb T room lost D but most (l.map Pf.F) (.returned (.slice A n c)) (W.setCell ⟨g, 1, none⟩ T') := by
  obtain ⟨q1, q2, q3, q4⟩ := h.q.setRow ho hrow fun b hb => .inl (hT ▸ hb)
  have hO : OnlyE w (W.setCell ⟨g, 1, none⟩ T') (Own g mb T) := (h.only.mono fun b hb => .inr (.inl hb)).trans q2
  refine ⟨q3, q4, k, A, n, c, hG, rfl, by show _ = _; rw [← outP_F, List.length_map]; exact hn, ⟨outP but l k, outP_F but l k, ?_, fun y hy => ?_⟩, T', l.drop k, fun b => D b ∨ T'.ownBlock = some b, ?_, List.map_drop, fun b hb => .inl hb, fun b hb => .inl (hb.elim id fun hb => h0.dt (hT ▸ hb)), fun b hb => .inl (hT ▸ hb), hO⟩
  · rw [← outP_F, List.length_map]
    exact own_only h.row q2 fun b hb hx => by
      have h1 := (h.row.lt b hb).1
      have h2 := (h0.din b (h0.own b hx)).2
      omega
  · have hy' := outP_sub hy
    exact ⟨((h0.frs y hy').kept (hO.mono fun b hb => h0.own b hb)).mono fun _ h => h.elim, h0.oks y hy'⟩
  · rw [List.map_drop]
    exact q1
end

set_option maxHeartbeats 3200000 in
theorem take_any {w : World} {base g mb : Nat} {T : Value} {room lost : Nat} {l : List Pf} {D : Nat → Prop} (h : QueS w base g mb T room lost (l.map Pf.pl) l D) (hlen : l.length ≤ 4096) (most : Int) (B : Option Addr) (nb cb : Nat) (but : List UInt8) (hb : but.length = nb) (hb2 : nb ≤ 1000) (hB : LiesX w D B (bvs but)) :
    Calls Try.prog 15 #[qptr g, .int .i64 most, .slice B nb cb] w (Took w base g mb T room lost D but most (l.map Pf.F)) := by
  have hd0 : ((some ⟨g, 0, none⟩ : Option Addr) == none) = false := rfl
  have H := Lib.hid h
  have hmw := h.mlt
  have hgw := h.lt
  have HBL : Hid (∀ V, OnlyE w V (fun b => b = mb) → Lies V V.heap.size B (bvs but)) := fun V hV => (hB.kept (hV.mono fun b hb => hb ▸ h.dm)).lies
  have HIN : Hid (∀ V, OnlyE w V (fun b => b = mb) → ∀ f : Nat, Calls Try.prog 24 #[.slice B nb cb, .int .u8 (f : Int)] V fun e w' => e = .returned (.bool (inB but f)) ∧ V = w') := fun V hV f => containsB_any B nb cb but f V hb hb2 (HBL.out V hV)
  have HS0 := Lib.hid (TkS.start h)
  have HLEN := Lib.hid hlen
  have c1 := h.c1
  obtain ⟨A0, c0, hT, -, -⟩ := h.slice
  rw [List.length_map] at hT
  have HT := Lib.hid hT
  rw [hT] at c1
  generalize hN : l.length = n at c1
  have HN := Lib.hid hN
  have hn4 : n ≤ 4096 := by omega
  clear h hlen hB hb hT hN
  unfold qptr
  go_enter Try.func15, Try.ntmps15
  go_wp2_with fail
  clear c1
  go_loopw [7, 8, 10, 11, 19] (fun s7 s8 _ _ s19 V => ∃ (k nk : Nat) (Ak : Option Addr) (ck : Nat), k ≤ n ∧ s19 = .int .i64 k ∧ s8 = .int .i64 k ∧ s7 = .slice Ak nk ck ∧ Hid ((outP but l k).length = nk) ∧ Hid (TkS w base g mb T room lost l D k (outP but l k) (.slice Ak nk ck) V) ∧ Hid (∀ j < k, ¬ Stop but most (l.map Pf.F) j)) (fun _ _ _ _ s19 _ => n - (intOf s19).toNat)
  case atStart => exact ⟨0, 0, none, 0, Nat.zero_le _, rfl, rfl, rfl, rfl, HS0, fun j hj => absurd hj (Nat.not_lt_zero _)⟩
  case round =>
    clear HS0
    obtain ⟨k, nk, Ak, ck, hk, rfl, rfl, rfl, HNK, HS, HNS⟩ := hrel
    by_cases hlt : k < n
    · have hkl : k < l.length := by rw [HN.out]; exact hlt

      have hTT : T = .slice A0 n c0 := by rw [HT.out, HN.out]
      obtain ⟨bb, off, rfl, hbl, z0, z1, z2⟩ := (HS.out.q.lies hTT).pl (i := k) (by rw [List.length_map]; exact hkl)
      rw [List.getElem_map] at z0 z1 z2
      obtain ⟨p, hp⟩ : ∃ p, l[k].pl = p := ⟨_, rfl⟩
      obtain ⟨x, hx⟩ : ∃ x, l[k] = x := ⟨_, rfl⟩
      have HXE := Lib.hid hx
      have HKB : Hid (keepB but l[k].F = !inB but p.x.f) := by show _ = _; rw [← hp]; rfl
      rw [hp] at z0 z1 z2
      have HPE := Lib.hid hp
      have HNKL : Hid (nk ≤ 4096) := by show _ ≤ _; have := outP_len but l k; have := HNK.out; have := HLEN.out; omega
      have HNK1 : Hid (keepB but l[k].F = true → outP but l (k + 1) = outP but l k ++ [x]) := fun h => by rw [outP_keep hkl h, HXE.out]
      have HNK0 := Lib.hid (outP_skip (but := but) hkl)
      have HNS1 : Hid (¬ Stop but most (l.map Pf.F) k → ∀ j < k + 1, ¬ Stop but most (l.map Pf.F) j) := fun hs j hj => by
        by_cases e : j = k
        · exact e ▸ hs
        · exact HNS.out j (by omega)
      clear hTT hp hx
      have HVM : Hid (wr.heap.size ≠ mb) := by show _ ≠ _; have := HS.out.only.size; omega
      go_wp2_with fail
      generalize hw0 : World.alloc wr _ = V0
      obtain ⟨hs0, hG, -⟩ := box1 wr V0 _ _ hw0
      have HBX : Hid (BxP wr.heap.size p V0) := by show _ = _; rw [← hw0]; exact heap_alloc_new _ _
      have HS := Lib.hid (HS.out.on hG.below)
      refine (HIN.out V0 HS.out.only p.x.f).mono ?_
      rintro e w' ⟨rfl, rfl⟩
      generalize wr.heap.size = vb at HVM HBX
      clear hw0 hG hs0 z0 z1 z2 hbl
      generalize inB but p.x.f = q at HKB
      cases q with
      | true =>
        have hk0 := HKB.out
        have HNK2 : Hid ((outP but l (k + 1)).length = nk) := by show _ = _; rw [HNK0.out hk0]; exact HNK.out
        have HNS2 := Lib.hid (HNS1.out (not_stop_skip hkl hk0))
        rw [← HNK0.out hk0] at HS
        clear HNK0 HNK1 HNS1 hk0 HKB
        go_wp2_with fail
        refine wp_region_held_drew (S := S12 g mb vb p) (by kernel_rfl) (HS.out.s12 HBX.out) (fun hHeld => ?_)
        have HS5 := Lib.hid (HS.out.on (drewB V0))
        have HB5 := Lib.hid (HBX.out.on (drewB V0))
        clear HS HBX
        generalize V0.drew = V5 at HS5 HB5 hHeld ⊢
        clear V0
        obtain ⟨V6, hrun, hS6, hO6⟩ := HS5.out.del hmw hkl 0
        rw [HPE.out] at hrun
        unfold valPl plc at hrun
        refine wpAnyH_takeAt (i := 0) (d := 47) (v := ?_) rfl rfl (by kernel_rfl) (by kernel_rfl) (by kernel_rfl) (fun _ _ _ h => h) (Or.inl ⟨by rfl, ?_⟩) hHeld ?_
        rotate_left
        · (intro _ hSw; go_simp; try with_reducible rfl)
        simp only [List.setIfInBounds_toArray, List.set_cons_zero, List.set_cons_succ]
        refine wpAnyH_takeAt (i := 1) (d := 48) (v := ?_) rfl rfl (by kernel_rfl) (by kernel_rfl) (by kernel_rfl) (fun _ _ _ h => h) (Or.inl ⟨by rfl, ?_⟩) hHeld ?_
        rotate_left
        · (intro _ hSw; go_simp; try with_reducible rfl)
        simp only [List.setIfInBounds_toArray, List.set_cons_zero, List.set_cons_succ]
        refine wpAnyH_takeAt (i := 2) (d := 49) (v := ?_) rfl rfl (by kernel_rfl) (by kernel_rfl) (by kernel_rfl) (fun _ _ _ h => h) (Or.inl ⟨by rfl, ?_⟩) hHeld ?_
        rotate_left
        · (intro _ hSw; go_simp; try with_reducible rfl)
        simp only [List.setIfInBounds_toArray, List.set_cons_zero, List.set_cons_succ]
        refine wpAnyH_takeAt (i := 3) (d := 50) (v := ?_) rfl rfl (by kernel_rfl) (by kernel_rfl) (by kernel_rfl) (fun _ _ _ h => h) (Or.inl ⟨by rfl, ?_⟩) hHeld ?_
        rotate_left
        · (intro _ hSw; obtain ⟨z0, z1, z2, z3⟩ := hSw; go_simp; try with_reducible rfl)
        simp only [List.setIfInBounds_toArray, List.set_cons_zero, List.set_cons_succ]
        refine wpAnyH_takeAt (i := 4) (d := 51) (v := ?_) rfl rfl (by kernel_rfl) (by kernel_rfl) (by kernel_rfl) (fun _ _ _ h => h) (Or.inl ⟨by rfl, ?_⟩) hHeld ?_
        rotate_left
        · (intro _ hSw; obtain ⟨z0, z1, z2, z3⟩ := hSw; go_simp; try with_reducible rfl)
        simp only [List.setIfInBounds_toArray, List.set_cons_zero, List.set_cons_succ]
        refine wpAnyH_ready (rs := [5]) (by kernel_rfl) (by simp) ?_
        refine AllReadyH.cons rfl (fun K hK => ?_) AllReadyH.nil
        refine wp_delete_step (x := .tmp 50) (y := .tmp 51) rfl rfl rfl rfl hrun ?_
        have hs6 : S12 g mb vb p V6 := hS6.s12 (HB5.out.only hO6 fun e => HVM.out e)
        have HS6 := Lib.hid hS6
        clear hHeld hrun hS6 hO6
        refine hK.out _ _ hs6 (fun hHeld => ?_)
        clear hK K
        refine wpAnyH_done (by kernel_rfl) ?_ _
        clear hs6 hHeld HB5
        simp only [Act.put]
        go_wp2
        go_roundw
        case rel => exact ⟨k + 1, nk, Ak, ck, by omega, by go_num, by go_num, rfl, HNK2, HS6, HNS2⟩
        case measure => simp [intOf]; omega
      | false =>
        have hk1 := HKB.out
        by_cases hm : most ≤ (nk : Int)
        · have d1 : decide (most ≤ (nk : Int)) = true := decide_eq_true hm
          have HSTOP := Lib.hid (stop_at hkl hk1 (by rw [HNK.out]; exact hm))
          clear HNK0 HNK1 HNS1 hk1 HKB HIN
          have hTT : T = .slice (some ⟨bb, off, none⟩) n c0 := by rw [HT.out, HN.out]
          have k1 := HS.out.q.c1
          rw [hTT] at k1
          have HDEL : Hid (Calls Try.prog 25 #[.slice (some ⟨bb, off, none⟩) n c0, .int .i64 0, .int .i64 (k : Int)] V0 fun e w' => ∃ A1 n1 c1, e = .returned (.slice A1 n1 c1) ∧ w'.cell? ⟨g, 1, none⟩ = some (.slice (some ⟨bb, off, none⟩) n c0) ∧ w'.frozen? ⟨g, 1, none⟩ = false ∧ Hid (Took w base g mb T room lost D but most (l.map Pf.F) (.returned (.slice Ak nk ck)) (w'.setCell ⟨g, 1, none⟩ (.slice A1 n1 c1)))) := by
            have h1 := delete_any (T := T) (n := n) (j := k) (base := base) (lr := l.map Pf.pl) (w := V0) (by rw [List.length_map, HN.out]) (by have := HLEN.out; have := HN.out; omega) hk (by have := HS.out.q.row; rwa [List.length_map, HN.out] at this)
            rw [← hTT]
            refine h1.mono ?_
            rintro e w' ⟨T', rfl, hr, ho, hT'⟩
            obtain ⟨A1, c1, hv, -, -⟩ := own_sliceK hr
            obtain ⟨r1, r2, r3⟩ := HS.out.done H.out ⟨by rw [List.length_map, HN.out]; exact hk, HSTOP.out, HNS.out⟩ HNK.out hr ho hT'
            rw [hv] at r3
            exact ⟨A1, _, c1, by rw [hv], r1, r2, r3⟩
          clear hTT HS
          go_wp2_with fail
          refine HDEL.out.mono ?_
          rintro e w1 ⟨A1, n1, c1, rfl, q1, q2, HTK⟩
          clear HDEL k1
          go_wp2
          go_ret
          exact HTK.out
        · have d1 : decide (most ≤ (nk : Int)) = false := decide_eq_false hm
          have HNK2 : Hid ((outP but l (k + 1)).length = nk + 1) := by show _ = _; rw [HNK1.out hk1, List.length_append, HNK.out]; rfl
          have HNS2 := Lib.hid (HNS1.out (not_stop_more hkl (by rw [HNK.out]; omega)))
          have HOUT := Lib.hid (HNK1.out hk1)
          clear HNK0 HNK1 HNS1 hk1 HKB
          go_wp2_with fail
          refine wp_region_held_drew (S := S11 g mb vb p x) (by kernel_rfl) (HPE.out ▸ HXE.out ▸ (HS.out.on (drewB V0)).s11 hkl (HPE.out.symm ▸ HBX.out.on (drewB V0))) (fun hHeld => ?_)
          have HS5 := Lib.hid (HS.out.on (drewB V0))
          have HB5 := Lib.hid (HBX.out.on (drewB V0))
          clear HS HBX
          generalize V0.drew = V5 at HS5 HB5 hHeld ⊢
          clear V0
          have hA5 : RowKit.Below V5.heap.size V5 (V5.alloc (.cells x.cs 40)) := alloc_below _ _
          obtain ⟨A6, c6, V6, hrun, hS6, hO6⟩ := HS5.out.app H.out (by rw [HNK.out]; have := HNKL.out; omega) x
          rw [HNK.out] at hrun hS6
          have hBA := HB5.out.on hA5
          have hB6 := hBA.only hO6 (fun e => own_ty ((HS5.out.on hA5).row) hBA (by decide) e)
          have H5A : Hid (S11 g mb vb p x (V5.alloc (.cells x.cs 40))) := HPE.out ▸ HXE.out ▸ (HS5.out.on hA5).s11 hkl (HPE.out.symm ▸ hBA)
          have H56 : Hid (S11 g mb vb p x V6) := HPE.out ▸ HXE.out ▸ hS6.s11 hkl (HPE.out.symm ▸ hB6)
          have HRUN := Lib.hid hrun
          have HS6 := Lib.hid hS6
          have HB6 := Lib.hid hB6
          clear hA5 hrun hS6 hO6 hBA hB6 HS5 HB5
          refine wpAnyH_takeAt (i := 0) (d := 38) (v := ?_) rfl rfl (by kernel_rfl) (by kernel_rfl) (by kernel_rfl) (fun _ _ _ h => h) (Or.inl ⟨by rfl, ?_⟩) hHeld ?_
          rotate_left
          · (intro _ hSw; go_simp; try with_reducible rfl)
          simp only [List.setIfInBounds_toArray, List.set_cons_zero, List.set_cons_succ]
          refine wpAnyH_takeAt (i := 1) (d := 39) (v := ?_) rfl rfl (by kernel_rfl) (by kernel_rfl) (by kernel_rfl) (fun _ _ _ h => h) (Or.inl ⟨by rfl, ?_⟩) hHeld ?_
          rotate_left
          · (intro _ hSw; go_simp; try with_reducible rfl)
          simp only [List.setIfInBounds_toArray, List.set_cons_zero, List.set_cons_succ]
          refine wpAnyH_takeAt (i := 2) (d := 40) (v := ?_) rfl rfl (by kernel_rfl) (by kernel_rfl) (by kernel_rfl) (fun _ _ _ h => h) (Or.inl ⟨by rfl, ?_⟩) hHeld ?_
          rotate_left
          · (intro _ hSw; go_simp; try with_reducible rfl)
          simp only [List.setIfInBounds_toArray, List.set_cons_zero, List.set_cons_succ]
          refine wpAnyH_takeAt (i := 3) (d := 41) (v := ?_) rfl rfl (by kernel_rfl) (by kernel_rfl) (by kernel_rfl) (fun _ _ _ h => h) (Or.inl ⟨by rfl, ?_⟩) hHeld ?_
          rotate_left
          · (intro _ hSw; go_simp; try with_reducible rfl)
          simp only [List.setIfInBounds_toArray, List.set_cons_zero, List.set_cons_succ]
          refine wpAnyH_takeAt (i := 4) (d := 42) (v := ?_) rfl rfl (by kernel_rfl) (by kernel_rfl) (by kernel_rfl) (fun _ _ _ h => h) (Or.inl ⟨by rfl, ?_⟩) hHeld ?_
          rotate_left
          · (intro _ hSw; obtain ⟨⟨z0, z1, z2, z3⟩, zl⟩ := hSw; go_simp; try with_reducible rfl)
          simp only [List.setIfInBounds_toArray, List.set_cons_zero, List.set_cons_succ]
          refine wpAnyH_takeAt (i := 5) (d := 43) (v := ?_) rfl rfl (by kernel_rfl) (by kernel_rfl) (by kernel_rfl) (fun _ _ _ h => h) (Or.inl ⟨by rfl, ?_⟩) hHeld ?_
          rotate_left
          · (intro _ hSw; obtain ⟨⟨z0, z1, z2, z3⟩, zl⟩ := hSw; go_simp; try with_reducible rfl)
          simp only [List.setIfInBounds_toArray, List.set_cons_zero, List.set_cons_succ]
          refine wpAnyH_takeAt (i := 6) (d := 44) (v := ?_) rfl rfl (by kernel_rfl) (by kernel_rfl) (by kernel_rfl) (fun _ _ _ h => h) (Or.inl ⟨by rfl, ?_⟩) hHeld ?_
          rotate_left
          · (intro _ hSw; obtain ⟨⟨z0, z1, z2, z3⟩, zl⟩ := hSw; go_simp; try with_reducible rfl)
          simp only [List.setIfInBounds_toArray, List.set_cons_zero, List.set_cons_succ]
          refine wpAnyH_ready (rs := [7]) (by kernel_rfl) (by simp) ?_
          refine AllReadyH.cons rfl (fun K hK => ?_) AllReadyH.nil
          refine wp_build1_step (x := .tmp 44) (y := x) rfl rfl rfl ?_
          go_simp
          clear hHeld
          refine hK.out _ _ H5A.out (fun hHeld => ?_)
          clear hK K
          refine wpAnyH_ready (rs := [8]) (by kernel_rfl) (by simp) ?_
          refine AllReadyH.cons rfl (fun K hK => ?_) AllReadyH.nil
          refine wp_append_step (s := .tmp 38) (x := .tmp 45) (t := 26) rfl rfl rfl rfl HRUN.out ?_
          go_simp
          clear hHeld
          refine hK.out _ _ H56.out (fun hHeld => ?_)
          clear hK K
          refine wpAnyH_takeAt (i := 9) (d := 7) (v := ?_) rfl rfl (by kernel_rfl) (by kernel_rfl) (by kernel_rfl) (fun _ _ _ h => h) (Or.inl ⟨by rfl, ?_⟩) hHeld ?_
          rotate_left
          · (intro _ hSw; go_simp; try with_reducible rfl)
          simp only [List.setIfInBounds_toArray, List.set_cons_zero, List.set_cons_succ]
          refine wpAnyH_done (by kernel_rfl) ?_ _
          clear hHeld H5A H56 HRUN
          go_wp2_with fail
          rw [← HOUT.out] at HS6
          have HS := HS6
          have HBX := HB6
          generalize hV0 : V6 = V0 at HS HBX ⊢
          clear hV0 HS6 HB6
          refine wp_region_held_drew (S := S12 g mb vb p) (by kernel_rfl) (HS.out.s12 HBX.out) (fun hHeld => ?_)
          have HS5 := Lib.hid (HS.out.on (drewB V0))
          have HB5 := Lib.hid (HBX.out.on (drewB V0))
          clear HS HBX
          generalize V0.drew = V5 at HS5 HB5 hHeld ⊢
          clear V0
          obtain ⟨V6, hrun, hS6, hO6⟩ := HS5.out.del hmw hkl 0
          rw [HPE.out] at hrun
          unfold valPl plc at hrun
          refine wpAnyH_takeAt (i := 0) (d := 47) (v := ?_) rfl rfl (by kernel_rfl) (by kernel_rfl) (by kernel_rfl) (fun _ _ _ h => h) (Or.inl ⟨by rfl, ?_⟩) hHeld ?_
          rotate_left
          · (intro _ hSw; go_simp; try with_reducible rfl)
          simp only [List.setIfInBounds_toArray, List.set_cons_zero, List.set_cons_succ]
          refine wpAnyH_takeAt (i := 1) (d := 48) (v := ?_) rfl rfl (by kernel_rfl) (by kernel_rfl) (by kernel_rfl) (fun _ _ _ h => h) (Or.inl ⟨by rfl, ?_⟩) hHeld ?_
          rotate_left
          · (intro _ hSw; go_simp; try with_reducible rfl)
          simp only [List.setIfInBounds_toArray, List.set_cons_zero, List.set_cons_succ]
          refine wpAnyH_takeAt (i := 2) (d := 49) (v := ?_) rfl rfl (by kernel_rfl) (by kernel_rfl) (by kernel_rfl) (fun _ _ _ h => h) (Or.inl ⟨by rfl, ?_⟩) hHeld ?_
          rotate_left
          · (intro _ hSw; go_simp; try with_reducible rfl)
          simp only [List.setIfInBounds_toArray, List.set_cons_zero, List.set_cons_succ]
          refine wpAnyH_takeAt (i := 3) (d := 50) (v := ?_) rfl rfl (by kernel_rfl) (by kernel_rfl) (by kernel_rfl) (fun _ _ _ h => h) (Or.inl ⟨by rfl, ?_⟩) hHeld ?_
          rotate_left
          · (intro _ hSw; obtain ⟨z0, z1, z2, z3⟩ := hSw; go_simp; try with_reducible rfl)
          simp only [List.setIfInBounds_toArray, List.set_cons_zero, List.set_cons_succ]
          refine wpAnyH_takeAt (i := 4) (d := 51) (v := ?_) rfl rfl (by kernel_rfl) (by kernel_rfl) (by kernel_rfl) (fun _ _ _ h => h) (Or.inl ⟨by rfl, ?_⟩) hHeld ?_
          rotate_left
          · (intro _ hSw; obtain ⟨z0, z1, z2, z3⟩ := hSw; go_simp; try with_reducible rfl)
          simp only [List.setIfInBounds_toArray, List.set_cons_zero, List.set_cons_succ]
          refine wpAnyH_ready (rs := [5]) (by kernel_rfl) (by simp) ?_
          refine AllReadyH.cons rfl (fun K hK => ?_) AllReadyH.nil
          refine wp_delete_step (x := .tmp 50) (y := .tmp 51) rfl rfl rfl rfl hrun ?_
          have hs6 : S12 g mb vb p V6 := hS6.s12 (HB5.out.only hO6 fun e => HVM.out e)
          have HS6 := Lib.hid hS6
          clear hHeld hrun hS6 hO6
          refine hK.out _ _ hs6 (fun hHeld => ?_)
          clear hK K
          refine wpAnyH_done (by kernel_rfl) ?_ _
          clear hs6 hHeld HB5
          simp only [Act.put]
          go_wp2
          go_roundw
          case rel => exact ⟨k + 1, nk + 1, A6, c6, by omega, by go_num, by go_num, rfl, HNK2, HS6, HNS2⟩
          case measure => simp [intOf]; omega
    · obtain rfl : k = n := by omega
      have HSTOP : Hid (Stop but most (l.map Pf.F) k) := .inl (by rw [List.length_map, HN.out])
      have hTT : T = .slice (A0) k c0 := by rw [HT.out, HN.out]
      have k1 := HS.out.q.c1
      rw [hTT] at k1
      have HDEL : Hid (Calls Try.prog 25 #[.slice (A0) k c0, .int .i64 0, .int .i64 (k : Int)] wr fun e w' => ∃ A1 n1 c1, e = .returned (.slice A1 n1 c1) ∧ w'.cell? ⟨g, 1, none⟩ = some (.slice (A0) k c0) ∧ w'.frozen? ⟨g, 1, none⟩ = false ∧ Hid (Took w base g mb T room lost D but most (l.map Pf.F) (.returned (.slice Ak nk ck)) (w'.setCell ⟨g, 1, none⟩ (.slice A1 n1 c1)))) := by
        have h1 := delete_any (T := T) (n := k) (j := k) (base := base) (lr := l.map Pf.pl) (w := wr) (by rw [List.length_map, HN.out]) (by have := HLEN.out; have := HN.out; omega) hk (by have := HS.out.q.row; rwa [List.length_map, HN.out] at this)
        rw [← hTT]
        refine h1.mono ?_
        rintro e w' ⟨T', rfl, hr, ho, hT'⟩
        obtain ⟨A1, c1, hv, -, -⟩ := own_sliceK hr
        obtain ⟨r1, r2, r3⟩ := HS.out.done H.out ⟨by rw [List.length_map, HN.out]; exact hk, HSTOP.out, HNS.out⟩ HNK.out hr ho hT'
        rw [hv] at r3
        exact ⟨A1, _, c1, by rw [hv], r1, r2, r3⟩
      clear hTT HS
      go_wp2_with fail
      refine HDEL.out.mono ?_
      rintro e w1 ⟨A1, n1, c1, rfl, q1, q2, HTK⟩
      clear HDEL k1
      go_wp2
      go_ret
      exact HTK.out

end Go.Proofs.Ytmnjedpnhilndaa
