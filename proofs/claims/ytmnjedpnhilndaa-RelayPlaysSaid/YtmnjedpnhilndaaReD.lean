/- Stage 16: a queue in memory: its box, the row of its places, its map of frames; the frames' slices lie outside of D. -/
import Derived.Test.YtmnjedpnhilndaaReC
set_option maxRecDepth 20000
namespace Go.Proofs.Ytmnjedpnhilndaa
open Go.RowKit Go.Sort Go.Maps

theorem zeroFr (w : World) : (zeroValue 40).run Try.prog w = .ok (.agg zeroF) w := by kernel_rfl
theorem uMap : Try.prog.underlying 60 = some (.map 69 40) := Try.underlying60

/-- Is a place's frame among these? -/
def hasP (l : List Pf) (p : Pl) : Bool := l.any fun x => decide (x.pl = p)
theorem hasP_iff {l : List Pf} {p : Pl} : hasP l p = true ↔ ∃ x ∈ l, x.pl = p := by
  unfold hasP
  rw [List.any_eq_true]
  exact exists_congr fun x => and_congr_right fun _ => decide_eq_true_iff
theorem hasP_no {l : List Pf} {p : Pl} : hasP l p = false ↔ ∀ x ∈ l, x.pl ≠ p := by
  rw [← Bool.not_eq_true, hasP_iff]
  exact ⟨fun h y hy e => h ⟨y, hy, e⟩, fun h ⟨y, hy, e⟩ => h y hy e⟩

theorem mem_mid {α : Type} {a b : List α} {x y : α} (h : y ∈ a ++ b) : y ∈ a ++ x :: b := (List.mem_append.1 h).elim (fun h => List.mem_append_left _ h) fun h => List.mem_append_right _ (List.mem_cons_of_mem _ h)

/-- What the map has: just the frames l, each under its place. -/
structure HasE (E : DataW Value) (l : List Pf) : Prop where
  tidy : Maps.Tidy E
  has : ∀ p : Pl, Maps.has E (plLit p) = hasP l p
  at_ : ∀ x ∈ l, ∀ z, E.atKey (plLit x.pl) z = .held (.agg x.cs)
  size : Maps.size E = l.length
  apart : l.Pairwise fun x y => x.pl ≠ y.pl

theorem HasE.nil : HasE (.map []) [] := ⟨Maps.tidy_empty, fun _ => rfl, by simp, rfl, List.Pairwise.nil⟩
theorem HasE.put {E : DataW Value} {l : List Pf} (h : HasE E l) {x : Pf} (hn : hasP l x.pl = false) : HasE (E.put (plLit x.pl) (.held (.agg x.cs))) (l ++ [x]) where
  tidy := h.tidy.put (plLit_key x.pl) _
  has := fun p => by
    have e : hasP (l ++ [x]) p = (hasP l p || decide (x.pl = p)) := by simp [hasP]
    rw [e]
    by_cases hxy : x.pl = p
    · rw [← hxy, Maps.has_put_same h.tidy.isMap (plLit_key x.pl), decide_eq_true rfl, Bool.or_true]
    · rw [Maps.has_put_other (plLit_ne fun h => hxy h.symm), h.has, decide_eq_false hxy, Bool.or_false]
  at_ := fun y hy z => by
    rcases List.mem_append.1 hy with hy | hy
    · rw [Maps.atKey_put_other (plLit_ne (hasP_no.1 hn y hy))]
      exact h.at_ y hy z
    · obtain rfl := List.mem_singleton.1 hy
      exact Maps.atKey_put_same h.tidy.isMap (plLit_key _) _ _
  size := by
    rw [Maps.size_put h.tidy, h.has, hn, h.size]
    simp
  apart := List.pairwise_append.2 ⟨h.apart, List.pairwise_singleton _ _, fun a ha b hb => by
    obtain rfl := List.mem_singleton.1 hb
    exact hasP_no.1 hn a ha⟩
theorem HasE.del {E : DataW Value} {a b : List Pf} {x : Pf} (h : HasE E (a ++ x :: b)) : HasE (E.del (plLit x.pl)) (a ++ b) := by
  obtain ⟨pa, pb, pab⟩ := List.pairwise_append.1 h.apart
  obtain ⟨px, pb2⟩ := List.pairwise_cons.1 pb
  have hno : ∀ y ∈ a ++ b, y.pl ≠ x.pl := fun y hy => by
    rcases List.mem_append.1 hy with hy | hy
    · exact pab y hy x (by simp)
    · exact (px y hy).symm
  exact {
    tidy := h.tidy.del _
    has := fun p => by
      by_cases e : x.pl = p
      · subst e
        rw [Maps.has_del_same, hasP_no.2 hno]
      · rw [Maps.has_del_other (plLit_ne fun h => e h.symm), h.has]
        simp [hasP, e]
    at_ := fun y hy z => by
      rw [Maps.atKey_del_other (plLit_ne (hno y hy))]
      exact h.at_ y (mem_mid hy) z
    size := by
      have h1 := Maps.size_del (k := plLit x.pl) h.tidy
      rw [h.has, hasP_iff.2 ⟨x, by simp, rfl⟩, if_pos rfl, h.size] at h1
      simp at h1 ⊢
      omega
    apart := List.pairwise_append.2 ⟨pa, pb2, fun u hu v hv => pab u hu v (by simp [hv])⟩ }

/-- The blocks that a queue writes into. -/
def Own (g mb : Nat) (T : Value) (k : Nat) : Prop := k = g ∨ k = mb ∨ T.ownBlock = some k
def quCells (mb : Nat) (T : Value) (room lost : Nat) : Array Value := #[.map (some mb), T, .int .i64 (room : Int), .int .i64 (lost : Int)]
def qptr (g : Nat) : Value := .pointer (some ⟨g, 0, none⟩)

/-- A queue in memory: places lr in its row, frames lm in its map. -/
structure QueS (w : World) (base g mb : Nat) (T : Value) (room lost : Nat) (lr : List Pl) (lm : List Pf) (D : Nat → Prop) : Prop where
  box : w.heap[g]? = some (.cells (quCells mb T room lost) 63 (0, 0))
  row : w.ownsRow base 69 3 T lr.length (flat encPl lr)
  map : ∃ E, w.ownsMap Try.prog 69 frR mb lm.length E ∧ HasE E lm
  frs : ∀ x ∈ lm, x.X w D
  oks : ∀ x ∈ lm, x.F.Ok
  own : ∀ b, Own g mb T b → D b
  din : ∀ b, D b → base ≤ b ∧ b < w.heap.size

theorem own_ty {w : World} {base k : Nat} {e : TypeId} {v : Value} {n : Nat} {xs : List Value} (h : w.ownsRow base e k v n xs) {b : Nat} {cs : Array Value} {t : TypeId} {q : Nat × Nat} (hb : w.heap[b]? = some (.cells cs t q)) (ht : t ≠ e) : v.ownBlock ≠ some b := fun hv => by
  obtain ⟨cur, hc⟩ := own_heap h hv
  rw [hb] at hc
  injection hc with hc
  injection hc with _ hc
  exact ht hc

/-- The map of a queue, whatever its row is. -/
structure MapS (w : World) (g mb : Nat) (lm : List Pf) : Prop where
  c0 : w.cell? ⟨g, 0, none⟩ = some (.map (some mb))
  lt : g < w.heap.size
  mlt : mb < w.heap.size
  map : ∃ E, w.ownsMap Try.prog 69 frR mb lm.length E ∧ HasE E lm
theorem MapS.kept {w w' : World} {g mb : Nat} {lm : List Pf} {X : Nat → Prop} (h : MapS w g mb lm) (ho : OnlyE w w' X) (h1 : ¬ X g) (h2 : ¬ X mb) : MapS w' g mb lm := by
  obtain ⟨E, e1, e2⟩ := h.map
  exact ⟨(World.cell?_of_block (w := w) (ho.2 g h.lt h1)).trans h.c0, Nat.lt_of_lt_of_le h.lt ho.size, Nat.lt_of_lt_of_le h.mlt ho.size, E, ownsMap_only e1 ho h2, e2⟩
theorem MapS.on {w w' : World} {g mb : Nat} {lm : List Pf} (h : MapS w g mb lm) (hb : RowKit.Below w.heap.size w w') : MapS w' g mb lm := h.kept (OnlyE.of_below (D := fun _ => False) hb) id id
/-- A look into the map, whatever grows: is it there? -/
theorem MapS.look {w : World} {g mb : Nat} {lm : List Pf} (h : MapS w g mb lm) (p : Pl) : ∃ x : Pf, ∀ W, RowKit.Below w.heap.size w W → (Instr.lookup 60 (.map (some mb)) (valPl p) true).run Try.prog W = .ok (.tuple #[.agg x.cs, .bool (hasP lm p)]) W := by
  obtain ⟨E, e1, e2⟩ := h.map
  cases hh : hasP lm p with
  | false =>
    refine ⟨atP 0, fun W hW => ?_⟩
    obtain ⟨v', ps', hr, hv'⟩ := (ownsMap_only e1 (OnlyE.of_below (D := fun _ => False) hW) id).look_ok keyLaw uMap (zeroFr W) (frR_mk zeroF) (key_pl p)
    rw [Maps.atKey_of_not_has (by rw [e2.has, hh])] at hv'
    obtain ⟨cs', rfl, he⟩ := frR_inv hv'
    have he := congrArg Prod.fst he
    injection he with he
    rw [e2.has, hh, ← he, show zeroF = (atP 0).cs from rfl] at hr
    exact hr
  | true =>
    obtain ⟨x, hx, rfl⟩ := hasP_iff.1 hh
    refine ⟨x, fun W hW => ?_⟩
    obtain ⟨v', ps', hr, hv'⟩ := (ownsMap_only e1 (OnlyE.of_below (D := fun _ => False) hW) id).look_ok keyLaw uMap (zeroFr W) (frR_mk zeroF) (key_pl x.pl)
    rw [e2.at_ x hx] at hv'
    obtain ⟨cs', rfl, he⟩ := frR_inv hv'
    have he := congrArg Prod.fst he
    injection he with he
    rw [e2.has, hh, ← he] at hr
    exact hr
section
variable {w w' : World} {base g mb : Nat} {T : Value} {room lost : Nat} {lr : List Pl} {lm : List Pf} {D : Nat → Prop}

theorem QueS.mapAt (h : QueS w base g mb T room lost lr lm D) : ∃ es clock, w.heap[mb]? = some (.map es clock) := by
  obtain ⟨E, ⟨es, clock, hb, -⟩, -⟩ := h.map
  exact ⟨es, clock, hb⟩
theorem QueS.gm (h : QueS w base g mb T room lost lr lm D) : g ≠ mb := fun e => by
  obtain ⟨es, clock, hb⟩ := h.mapAt
  rw [← e, h.box] at hb
  injection hb with hb
  cases hb
theorem QueS.tg (h : QueS w base g mb T room lost lr lm D) : T.ownBlock ≠ some g := own_ty h.row h.box (by decide)
theorem QueS.tm (h : QueS w base g mb T room lost lr lm D) : T.ownBlock ≠ some mb := fun hv => by
  obtain ⟨es, clock, hb⟩ := h.mapAt
  obtain ⟨cur, hc⟩ := own_heap h.row hv
  rw [hb] at hc
  injection hc with hc
  cases hc
theorem QueS.dg (h : QueS w base g mb T room lost lr lm D) : D g := h.own _ (.inl rfl)
theorem QueS.dm (h : QueS w base g mb T room lost lr lm D) : D mb := h.own _ (.inr (.inl rfl))
theorem QueS.dt (h : QueS w base g mb T room lost lr lm D) {b : Nat} (hb : T.ownBlock = some b) : D b := h.own _ (.inr (.inr hb))
theorem QueS.lt (h : QueS w base g mb T room lost lr lm D) : g < w.heap.size := (h.din g h.dg).2
theorem QueS.mlt (h : QueS w base g mb T room lost lr lm D) : mb < w.heap.size := (h.din mb h.dm).2
theorem QueS.lo (h : QueS w base g mb T room lost lr lm D) : base ≤ w.heap.size := by have := h.din g h.dg; omega
theorem QueS.c0 (h : QueS w base g mb T room lost lr lm D) : w.cell? ⟨g, 0, none⟩ = some (.map (some mb)) := cell_of_row w g 0 _ _ _ h.box
theorem QueS.c1 (h : QueS w base g mb T room lost lr lm D) : w.cell? ⟨g, 1, none⟩ = some T := cell_of_row w g 1 _ _ _ h.box
theorem QueS.c2 (h : QueS w base g mb T room lost lr lm D) : w.cell? ⟨g, 2, none⟩ = some (.int .i64 (room : Int)) := cell_of_row w g 2 _ _ _ h.box
theorem QueS.c3 (h : QueS w base g mb T room lost lr lm D) : w.cell? ⟨g, 3, none⟩ = some (.int .i64 (lost : Int)) := cell_of_row w g 3 _ _ _ h.box
theorem QueS.fr (h : QueS w base g mb T room lost lr lm D) (j : Nat) : w.frozen? ⟨g, j, none⟩ = false := frozen_of_row w g j _ _ h.box
theorem QueS.slice (h : QueS w base g mb T room lost lr lm D) : ∃ A c, T = .slice A lr.length c ∧ lr.length ≤ c ∧ c ≤ maxLen := own_sliceK h.row
theorem QueS.lies (h : QueS w base g mb T room lost lr lm D) {A : Option Addr} {n c : Nat} (hT : T = .slice A n c) : Lies w w.heap.size A (flat encPl lr) := by
  obtain ⟨A', c', e, -, -⟩ := h.slice
  rw [hT] at e
  injection e with e1 e2 e3
  subst e1 e2 e3
  have h1 := h.row
  rw [hT] at h1
  exact Lies.of_ownK h1
theorem QueS.apart (h : QueS w base g mb T room lost lr lm D) : lm.Pairwise fun x y => x.pl ≠ y.pl := by
  obtain ⟨E, -, e⟩ := h.map
  exact e.apart

theorem QueS.kept {X : Nat → Prop} (h : QueS w base g mb T room lost lr lm D) (ho : OnlyE w w' X) (hX : ∀ b, X b → w.heap.size ≤ b ∨ (D b ∧ ¬ Own g mb T b)) : QueS w' base g mb T room lost lr lm D := by
  have hn : ∀ b, Own g mb T b → ¬ X b := fun b hb hx => by
    rcases hX b hx with h1 | ⟨-, h1⟩
    · have := (h.din b (h.own b hb)).2; omega
    · exact h1 hb
  obtain ⟨E, e1, e2⟩ := h.map
  exact {
    box := (ho.same g h.lt (hn g (.inl rfl))).trans h.box
    row := own_only h.row ho fun b hb => hn b (.inr (.inr hb))
    map := ⟨E, ownsMap_only e1 ho (hn mb (.inr (.inl rfl))), e2⟩
    frs := fun x hx => (h.frs x hx).kept (ho.of_old fun k hk => (hX k hk).imp id fun h => h.1)
    oks := h.oks, own := h.own
    din := fun b hb => ⟨(h.din b hb).1, Nat.lt_of_lt_of_le (h.din b hb).2 ho.size⟩ }
theorem QueS.on (h : QueS w base g mb T room lost lr lm D) (hb : RowKit.Below w.heap.size w w') : QueS w' base g mb T room lost lr lm D :=
  h.kept (OnlyE.of_below (D := fun _ => False) hb) fun _ h => h.elim
/-- What is new may be put into D. -/
theorem QueS.grow {D' : Nat → Prop} (h : QueS w base g mb T room lost lr lm D) (hb : RowKit.Below w.heap.size w w') (h1 : ∀ b, D b → D' b) (h2 : ∀ b, D' b → base ≤ b ∧ b < w'.heap.size ∧ (D b ∨ w.heap.size ≤ b)) : QueS w' base g mb T room lost lr lm D' := by
  have k := h.on hb
  exact { k with
    frs := fun x hx => ((h.frs x hx).widen fun b hb => (h2 b hb).2.2.symm).kept (OnlyE.of_below hb)
    own := fun b hb => h1 _ (h.own b hb)
    din := fun b hb => ⟨(h2 b hb).1, (h2 b hb).2.1⟩ }

/-- .. what is there? -/
theorem QueS.at_ (h : QueS w base g mb T room lost lr lm D) {x : Pf} (hx : x ∈ lm) {W : World} (hW : RowKit.Below w.heap.size w W) : (Instr.lookup 60 (.map (some mb)) (valPl x.pl) false).run Try.prog W = .ok (.agg x.cs) W := by
  obtain ⟨E, e1, e2⟩ := h.map
  obtain ⟨v', ps', hr, hv'⟩ := (ownsMap_only e1 (OnlyE.of_below (D := fun _ => False) hW) id).lookup keyLaw uMap (zeroFr W) (frR_mk zeroF) (key_pl x.pl)
  rw [e2.at_ x hx] at hv'
  obtain ⟨cs', rfl, he⟩ := frR_inv hv'
  have he := congrArg Prod.fst he
  injection he with he
  rw [← he] at hr
  exact hr

theorem QueS.toM (h : QueS w base g mb T room lost lr lm D) : MapS w g mb lm := ⟨h.c0, h.lt, h.mlt, h.map⟩
/-- One more in the map. -/
theorem QueS.putMap (h : QueS w base g mb T room lost lr lm D) {x : Pf} (hn : hasP lm x.pl = false) (hl : lm.length ≤ 5000) (hx : x.X w D) (hok : x.F.Ok) :
    ∃ w4, (Instr.mapUpdate 60 (.map (some mb)) (valPl x.pl) (.agg x.cs)).run Try.prog w = .ok () w4 ∧ QueS w4 base g mb T room lost lr (lm ++ [x]) D ∧ OnlyE w w4 (fun k => k = mb) := by
  obtain ⟨E, e1, e2⟩ := h.map
  obtain ⟨w4, hrun, own4, turn⟩ := e1.store keyLaw uMap (by unfold maxLen; omega) (key_pl x.pl) (frR_mk x.cs)
  have ho4 : OnlyE w w4 (fun k => k = mb) := turned_only turn rfl
  refine ⟨w4, hrun, ?_, ho4⟩
  exact {
    box := (ho4.same g h.lt h.gm).trans h.box
    row := own_only h.row ho4 fun b hb e => h.tm (e ▸ hb)
    map := ⟨_, by rw [List.length_append]; exact own4, e2.put hn⟩
    frs := fun y hy => by
      rcases List.mem_append.1 hy with hy | hy
      · exact (h.frs y hy).kept (ho4.mono fun k hk => hk ▸ h.dm)
      · obtain rfl := List.mem_singleton.1 hy
        exact hx.kept (ho4.mono fun k hk => hk ▸ h.dm)
    oks := fun y hy => by
      rcases List.mem_append.1 hy with hy | hy
      · exact h.oks y hy
      · obtain rfl := List.mem_singleton.1 hy
        exact hok
    own := h.own
    din := fun b hb => ⟨(h.din b hb).1, Nat.lt_of_lt_of_le (h.din b hb).2 ho4.size⟩ }
/-- One goes out of the map. -/
theorem QueS.delMap {a b : List Pf} {x : Pf} (h : QueS w base g mb T room lost lr (a ++ x :: b) D) (ty : TypeId) :
    ∃ w4, (Builtin.delete_ #[60, 69] ty #[.map (some mb), valPl x.pl]).run Try.prog w = .ok (.tuple #[]) w4 ∧ QueS w4 base g mb T room lost lr (a ++ b) D ∧ OnlyE w w4 (fun k => k = mb) := by
  obtain ⟨E, e1, e2⟩ := h.map
  obtain ⟨w4, hrun, own4, turn⟩ := e1.drop keyLaw uMap (key_pl x.pl) ty
  have ho4 : OnlyE w w4 (fun k => k = mb) := turned_only turn rfl
  have hsub : ∀ y ∈ a ++ b, y ∈ a ++ x :: b := fun y hy => mem_mid hy
  refine ⟨w4, hrun, ?_, ho4⟩
  exact {
    box := (ho4.same g h.lt h.gm).trans h.box
    row := own_only h.row ho4 fun b hb e => h.tm (e ▸ hb)
    map := ⟨_, by have := ownsMap_tight own4; rwa [e2.del.size] at this, e2.del⟩
    frs := fun y hy => (h.frs y (hsub y hy)).kept (ho4.mono fun k hk => hk ▸ h.dm)
    oks := fun y hy => h.oks y (hsub y hy)
    own := h.own
    din := fun b hb => ⟨(h.din b hb).1, Nat.lt_of_lt_of_le (h.din b hb).2 ho4.size⟩ }
/-- One more was lost. -/
theorem QueS.lose (h : QueS w base g mb T room lost lr lm D) : QueS (w.setCell ⟨g, 3, none⟩ (.int .i64 ((lost + 1 : Nat) : Int))) base g mb T room (lost + 1) lr lm D ∧ OnlyE w (w.setCell ⟨g, 3, none⟩ (.int .i64 ((lost + 1 : Nat) : Int))) (fun k => k = g) := by
  have hO : OnlyE w (w.setCell ⟨g, 3, none⟩ (.int .i64 ((lost + 1 : Nat) : Int))) (fun k => k = g) := onlyE_set (D := fun k => k = g) rfl 3 _
  obtain ⟨E, e1, e2⟩ := h.map
  refine ⟨?_, hO⟩
  exact {
    box := heap_setCell_same w g 3 _ _ _ h.box
    row := own_only h.row hO fun b hb e => h.tg (e ▸ hb)
    map := ⟨E, ownsMap_only e1 hO fun e => h.gm e.symm, e2⟩
    frs := fun y hy => (h.frs y hy).kept (hO.mono fun k hk => hk ▸ h.dg)
    oks := h.oks, own := h.own
    din := fun b hb => ⟨(h.din b hb).1, Nat.lt_of_lt_of_le (h.din b hb).2 hO.size⟩ }
/-- Another row of places: what the row's block, or a new one, has become; it is stored. -/
theorem QueS.setRow (h : QueS w base g mb T room lost lr lm D) {T' : Value} {lr' : List Pl} (ho : OnlyE w w' (fun k => T.ownBlock = some k)) (hrow : w'.ownsRow base 69 3 T' lr'.length (flat encPl lr')) (hT : ∀ k, T'.ownBlock = some k → T.ownBlock = some k ∨ w.heap.size ≤ k) :
    QueS (w'.setCell ⟨g, 1, none⟩ T') base g mb T' room lost lr' lm (fun k => D k ∨ T'.ownBlock = some k) ∧ OnlyE w (w'.setCell ⟨g, 1, none⟩ T') (Own g mb T) ∧ w'.cell? ⟨g, 1, none⟩ = some T ∧ w'.frozen? ⟨g, 1, none⟩ = false := by
  have hb' : w'.heap[g]? = some (.cells (quCells mb T room lost) 63 (0, 0)) := (ho.same g h.lt h.tg).trans h.box
  have hO2 : OnlyE w' (w'.setCell ⟨g, 1, none⟩ T') (fun k => k = g) := onlyE_set (D := fun k => k = g) rfl 1 _
  have hO : OnlyE w (w'.setCell ⟨g, 1, none⟩ T') (Own g mb T) := (ho.mono fun k hk => .inr (.inr hk)).trans (hO2.mono fun k hk => .inl hk)
  obtain ⟨E, e1, e2⟩ := h.map
  refine ⟨?_, hO, cell_of_row w' g 1 _ _ _ hb', frozen_of_row w' g 1 _ _ hb'⟩
  exact {
    box := heap_setCell_same w' g 1 _ _ _ hb'
    row := own_only hrow hO2 fun b hb e => by
      subst e
      exact own_ty hrow hb' (by decide) hb
    map := ⟨E, ownsMap_only (ownsMap_only e1 ho h.tm) hO2 fun e => h.gm e.symm, e2⟩
    frs := fun y hy => ((h.frs y hy).widen (D' := fun k => D k ∨ T'.ownBlock = some k) fun k hk => hk.elim .inr fun hk => (hT k hk).symm.imp id fun e => h.dt e).kept (hO.mono fun k hk => .inl (h.own k hk))
    oks := h.oks
    own := fun b hb => by
      rcases hb with rfl | rfl | hb
      · exact .inl h.dg
      · exact .inl h.dm
      · exact .inr hb
    din := fun b hb => by
      rcases hb with hb | hb
      · exact ⟨(h.din b hb).1, Nat.lt_of_lt_of_le (h.din b hb).2 hO.size⟩
      · have := hrow.lt b hb
        exact ⟨this.1, Nat.lt_of_lt_of_le this.2 hO2.size⟩ }
end

end Go.Proofs.Ytmnjedpnhilndaa
