/- Whether a frame has nothing but its head. -/
import Derived.Test.YtbfjfidodpgohaaT12

namespace Go.Proofs.Ytbfjfidodpgohaa
open Go.RowKit Go.Sort

/-- Has a frame nothing but its head? -/
def bareB (F : Fr) : Bool :=
  decide (F.id = zeroId) && (F.seq == 0) && (F.at_ == 0) && (F.of_ == 0) && (F.size == 0) && (F.inst == 0) && (F.rnd == 0) && (F.est.length == 0) && (F.aux.length == 0) && (F.done.length == 0) && (F.held.length == 0) && (F.data.length == 0)

set_option maxRecDepth 100000 in
set_option maxHeartbeats 6400000 in
theorem isBare_any (F : Fr) (e x n h d : Hd) (w : World) : Calls Try.prog 33 #[frVal F e x n h d] w fun e w' => e = .returned (.bool (bareB F)) ∧ Grew w w' := by
  have he : ∀ W, (binOp .eql 28 (.agg #[.int .u8 (F.id.f : Int), .int .u64 (F.id.s : Int)]) (.agg #[.int .u8 0, .int .u64 0])).run Try.prog W = .ok (.bool (decide (F.id = zeroId))) W := fun W => eqlId F.id zeroId W
  have hgd := guardId
  have d1 : ((F.seq : Int) == 0) = (F.seq == 0) := beq_zero _
  have d2 : ((F.at_ : Int) == 0) = (F.at_ == 0) := beq_zero _
  have d3 : ((F.of_ : Int) == 0) = (F.of_ == 0) := beq_zero _
  have d4 : ((F.size : Int) == 0) = (F.size == 0) := beq_zero _
  have d5 : ((F.inst : Int) == 0) = (F.inst == 0) := beq_zero _
  have d6 : ((F.rnd : Int) == 0) = (F.rnd == 0) := beq_zero _
  have d7 : ((F.est.length : Int) == 0) = (F.est.length == 0) := beq_zero _
  have d8 : ((F.aux.length : Int) == 0) = (F.aux.length == 0) := beq_zero _
  have d9 : ((F.done.length : Int) == 0) = (F.done.length == 0) := beq_zero _
  have d10 : ((F.held.length : Int) == 0) = (F.held.length == 0) := beq_zero _
  have d11 : ((F.data.length : Int) == 0) = (F.data.length == 0) := beq_zero _
  unfold frVal bareB
  generalize decide (F.id = zeroId) = q0 at he ⊢
  generalize (F.seq == 0) = q1 at d1 ⊢
  generalize (F.at_ == 0) = q2 at d2 ⊢
  generalize (F.of_ == 0) = q3 at d3 ⊢
  generalize (F.size == 0) = q4 at d4 ⊢
  generalize (F.inst == 0) = q5 at d5 ⊢
  generalize (F.rnd == 0) = q6 at d6 ⊢
  generalize (F.est.length == 0) = q7 at d7 ⊢
  generalize (F.aux.length == 0) = q8 at d8 ⊢
  generalize (F.done.length == 0) = q9 at d9 ⊢
  generalize (F.held.length == 0) = q10 at d10 ⊢
  generalize (F.data.length == 0) = q11 at d11 ⊢
  cases q0
  · go_enter Try.func33, Try.ntmps33
    go_wp2
    go_ret
    exact ⟨by simp, (Grew.refl w).alloc _⟩
  · skip
    cases q1
    · go_enter Try.func33, Try.ntmps33
      go_wp2
      go_ret
      exact ⟨by simp, (Grew.refl w).alloc _⟩
    · skip
      cases q2
      · go_enter Try.func33, Try.ntmps33
        go_wp2
        go_ret
        exact ⟨by simp, (Grew.refl w).alloc _⟩
      · skip
        cases q3
        · go_enter Try.func33, Try.ntmps33
          go_wp2
          go_ret
          exact ⟨by simp, (Grew.refl w).alloc _⟩
        · skip
          cases q4
          · go_enter Try.func33, Try.ntmps33
            go_wp2
            go_ret
            exact ⟨by simp, (Grew.refl w).alloc _⟩
          · skip
            cases q5
            · go_enter Try.func33, Try.ntmps33
              go_wp2
              go_ret
              exact ⟨by simp, (Grew.refl w).alloc _⟩
            · skip
              cases q6
              · go_enter Try.func33, Try.ntmps33
                go_wp2
                go_ret
                exact ⟨by simp, (Grew.refl w).alloc _⟩
              · skip
                cases q7
                · go_enter Try.func33, Try.ntmps33
                  go_wp2
                  go_ret
                  exact ⟨by simp, (Grew.refl w).alloc _⟩
                · skip
                  cases q8
                  · go_enter Try.func33, Try.ntmps33
                    go_wp2
                    go_ret
                    exact ⟨by simp, (Grew.refl w).alloc _⟩
                  · skip
                    cases q9
                    · go_enter Try.func33, Try.ntmps33
                      go_wp2
                      go_ret
                      exact ⟨by simp, (Grew.refl w).alloc _⟩
                    · skip
                      cases q10
                      · go_enter Try.func33, Try.ntmps33
                        go_wp2
                        go_ret
                        exact ⟨by simp, (Grew.refl w).alloc _⟩
                      · skip
                        go_enter Try.func33, Try.ntmps33
                        go_wp2
                        go_ret
                        exact ⟨by simp, (Grew.refl w).alloc _⟩

end Go.Proofs.Ytbfjfidodpgohaa
