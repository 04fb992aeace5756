/- Stage 13: what stands in GatherRoom's loop. -/
import Derived.Test.YthkongnjokmmfaaGaO
set_option maxRecDepth 20000
namespace Go.Proofs.Ythkongnjokmmfaa
open Go.RowKit Go.Sort

theorem putAt_room (g : Gm) (i : Nat) (F : Fr) : (g.putAt i F).1.room = g.room := by
  unfold Gm.putAt
  split
  · split <;> rfl
  · rfl
theorem put_room (g : Gm) (may : Bool) (F : Fr) : (g.put may F).1.room = g.room := by
  unfold Gm.put
  split
  · split
    · split
      · rfl
      · split
        · rfl
        · exact putAt_room _ _ _
    · split
      · rfl
      · exact putAt_room _ _ _
  · rfl

/-- A gatherer of that room, which begins at block B; what lay below is as it was. -/
def RoomS (w : World) (cap i : Nat) (wt : Id) (V : World) : Prop :=
  RowKit.Below w.heap.size w V ∧ ∃ T L g D, GtAt V w.heap.size w.heap.size T L g D ∧ g.Ok ∧ g.weight ≤ 2 * i ∧ g.room = cap ∧ g.wanted = wt
section
variable {w V V' : World} {cap i : Nat} {wt : Id}
theorem RoomS.on (h : RoomS w cap i wt V) (hb : RowKit.Below V.heap.size V V') : RoomS w cap i wt V' := by
  obtain ⟨h1, T, L, g, D, h2, h3⟩ := h
  exact ⟨h1.trans (hb.mono h1.size), T, L, g, D, h2.on hb, h3⟩
theorem RoomS.only {D : Nat → Prop} (h1 : RowKit.Below w.heap.size w V) (hD : ∀ b, D b → w.heap.size ≤ b ∧ b < V.heap.size) (ho : OnlyE V V' D) : RowKit.Below w.heap.size w V' :=
  h1.trans (ho.below (fun k hk => (hD k hk).1) h1.size)
theorem room_want (h : RoomS w cap i wt V) (x : Id) : Calls Try.prog 14 #[.pointer (some ⟨w.heap.size, 0, none⟩), valId x] V fun e w' => e = .returned (.tuple #[]) ∧ RoomS w cap i x w' := by
  obtain ⟨h1, T, L, g, D, h2, h3, h4, h5, -⟩ := h
  refine (want_g h2 x).mono ?_
  rintro e w' ⟨rfl, k1, k2⟩
  exact ⟨rfl, RoomS.only h1 h2.din k2, T, L, _, D, k1, h3.want x, h4, h5, rfl⟩
theorem PfOk.frX {D : Nat → Prop} {x : Pf} (h : PfOk w w.heap.size x) (hb : RowKit.Below w.heap.size w V) (hD : ∀ b, D b → w.heap.size ≤ b) : FrX V D x.F x.cs :=
  ((h.on hb).x.widen fun k hk => .inr (hD k hk)).frX
theorem room_put (h : RoomS w cap i wt V) (hi : i ≤ 1000) {x : Pf} (hx : PfOk w w.heap.size x) : Calls Try.prog 10 #[.pointer (some ⟨w.heap.size, 0, none⟩), .agg x.cs] V fun e w' => ∃ vp, ∃ mk : Nat, e = .returned (.tuple #[vp, .int .u8 (mk : Int)]) ∧ mk < 256 ∧ (∃ wt', RoomS w cap (i + 1) wt' w') ∧ (wt = x.F.id → mk ≠ 3) := by
  obtain ⟨h1, T, L, g, D, h2, h3, h4, h5, h6⟩ := h
  refine (put_g h2 h3 (by omega) x.F x.cs (hx.frX h1 fun b hb => (h2.din b hb).1) hx.wf).mono ?_
  rintro e w' ⟨T', L', D', vp, rfl, k1, k2, k3, k4, k5⟩
  refine ⟨vp, _, rfl, ?_, ⟨_, RoomS.only h1 h2.din k2, T', L', _, D', k1, h3.put _ _, Nat.le_trans (put_weight _ _ h3.six) (by omega), (put_room _ _ _).trans h5, rfl⟩, fun e => g.put_wanted _ _ (h6.trans e)⟩
  have := (come_made (g := g) (mayB x.F.id) x.F).2
  rw [put_counted]
  show (g.come _ _).2.2 < 256
  omega
theorem room_used (h : RoomS w cap i wt V) : Calls Try.prog 11 #[.pointer (some ⟨w.heap.size, 0, none⟩)] V fun e w' => ∃ u : Nat, e = .returned (.int .i64 (u : Int)) ∧ u ≤ cap ∧ V = w' := by
  obtain ⟨h1, T, L, g, D, h2, h3, h4, h5, h6⟩ := h
  refine (used_any h2).mono ?_
  rintro e w' ⟨rfl, rfl⟩
  exact ⟨_, rfl, h5 ▸ h3.used, rfl⟩
end

end Go.Proofs.Ythkongnjokmmfaa
