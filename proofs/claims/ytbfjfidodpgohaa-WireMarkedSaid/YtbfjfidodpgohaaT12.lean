/- A frame shown field by field, whatever its kind is. -/
import Derived.Test.YtbfjfidodpgohaaT08
import Derived.Test.YtbfjfidodpgohaaT09
import Derived.Test.YtbfjfidodpgohaaT10
import Derived.Test.YtbfjfidodpgohaaT11
import Derived.Test.YtbfjfidodpgohaaT06

namespace Go.Proofs.Ytbfjfidodpgohaa
open Go.RowKit Go.Sort

theorem visit_any {σ : Type} {V : Vis σ} {f : VisFns} {T : TypeId} {x : Value} {D Dv : Nat → Prop} {g : Nat} {Inv : Nat → σ → World → Prop} {w0 : World} {p : Fr × σ} (hV : VisAt V f T x D Dv g Inv) (w : World) (hS : St D g Inv w0 6 p w) :
    Calls Try.prog 20 #[.iface T x, .pointer (some ⟨g, 0, none⟩)] w fun e w' => e = .returned (.bool (isKind p.1.kind)) ∧ ∃ k, St D g Inv w0 k (vAll V p) w' := by
  by_cases hr : 1 ≤ p.1.kind ∧ p.1.kind ≤ 10
  · have hi : isKind p.1.kind = true := by simp [isKind, hr]
    rw [hi]
    generalize hk : p.1.kind = n at hr
    obtain ⟨h1, h2⟩ := hr
    have hc : n = 1 ∨ n = 2 ∨ n = 3 ∨ n = 4 ∨ n = 5 ∨ n = 6 ∨ n = 7 ∨ n = 8 ∨ n = 9 ∨ n = 10 := by omega
    rcases hc with rfl | rfl | rfl | rfl | rfl | rfl | rfl | rfl | rfl | rfl
    · exact (visit_1 (k := 0) hV w hS hk).mono fun e w' h => ⟨h.1, _, h.2⟩
    · exact (visit_2 (k := 5) hV w hS hk).mono fun e w' h => ⟨h.1, _, h.2⟩
    · exact (visit_3 (k := 4) hV w hS hk).mono fun e w' h => ⟨h.1, _, h.2⟩
    · exact (visit_4 (k := 1) hV w hS hk).mono fun e w' h => ⟨h.1, _, h.2⟩
    · exact (visit_5 (k := 5) hV w hS hk).mono fun e w' h => ⟨h.1, _, h.2⟩
    · exact (visit_6 (k := 3) hV w hS hk).mono fun e w' h => ⟨h.1, _, h.2⟩
    · exact (visit_7 (k := 2) hV w hS hk).mono fun e w' h => ⟨h.1, _, h.2⟩
    · exact (visit_8 (k := 4) hV w hS hk).mono fun e w' h => ⟨h.1, _, h.2⟩
    · exact (visit_9 (k := 3) hV w hS hk).mono fun e w' h => ⟨h.1, _, h.2⟩
    · exact (visit_10 (k := 5) hV w hS hk).mono fun e w' h => ⟨h.1, _, h.2⟩
  · have hi : isKind p.1.kind = false := by
      rw [Bool.eq_false_iff]
      simpa [isKind] using hr
    rw [hi]
    exact (visit_none (k := 6) hV w hS hr).mono fun e w' h => ⟨h.1, _, h.2⟩

end Go.Proofs.Ytbfjfidodpgohaa

/- What is asked of a frame beyond its fields' own limits: nothing but its head, the head, the place, the kind. -/
namespace Go.Proofs.Ytbfjfidodpgohaa
open Go.RowKit Go.Sort

/-- Where a slice begins, and its room. -/
abbrev Hd := Option Addr × Nat
/-- A frame as a value: where its five slices begin is given. -/
def frVal (F : Fr) (e x n h d : Hd) : Value :=
  .agg #[.int .u8 (F.kind : Int), .int .u8 (F.src : Int), .int .u8 (F.dst : Int), .int .u8 (F.id.f : Int), .int .u64 (F.id.s : Int), .int .u64 (F.seq : Int), .int .u32 (F.at_ : Int), .int .u32 (F.of_ : Int), .int .u32 (F.size : Int),
    .int .u64 (F.inst : Int), .int .u64 (F.rnd : Int), .slice e.1 F.est.length e.2, .slice x.1 F.aux.length x.2, .slice n.1 F.done.length n.2, .slice h.1 F.held.length h.2, .slice d.1 F.data.length d.2]

def headB (s d : Nat) : Bool := decide (s < 64) && decide (d < 64) && decide (s ≠ d)

set_option maxRecDepth 100000 in
theorem headMay_any (k s d : Nat) (w : World) (hs : s < 256) (hd : d < 256) : Calls Try.prog 34 #[.agg #[.int .u8 (k : Int), .int .u8 (s : Int), .int .u8 (d : Int)]] w fun e w' => e = .returned (.bool (headB s d)) ∧ Grew w w' := by
  go_enter Try.func34, Try.ntmps34
  go_wp2
  all_goals
    go_ret
    refine ⟨ret_bool ?_, (Grew.refl w).alloc _⟩
    unfold headB
    rw [Bool.eq_iff_iff]
    simp only [Bool.and_eq_true, decide_eq_true_eq, Bool.false_eq_true, bne_iff_ne, ne_eq]
    first | omega | (rw [false_iff]; omega)

def placeB (F : Fr) : Bool := decide (F.at_ < 1048576) && decide (F.of_ ≤ 1048576) && decide (F.size ≤ 1048576)

theorem cast_le (a b : Nat) : decide ((a : Int) ≤ (b : Int)) = decide (a ≤ b) := by simp
theorem cast_lt (a b : Nat) : decide ((a : Int) < (b : Int)) = decide (a < b) := by simp
theorem beq_zero (a : Nat) : ((a : Int) == 0) = (a == 0) := by rw [Bool.eq_iff_iff]; simp

set_option maxRecDepth 100000 in
set_option maxHeartbeats 800000 in
theorem placeMay_any (F : Fr) (e x n h d : Hd) (w : World) : Calls Try.prog 35 #[frVal F e x n h d] w fun e w' => e = .returned (.bool (placeB F)) ∧ Grew w w' := by
  have d1 : decide ((F.at_ : Int) < 1048576) = decide (F.at_ < 1048576) := cast_lt _ 1048576
  have d2 : decide ((F.of_ : Int) ≤ 1048576) = decide (F.of_ ≤ 1048576) := cast_le _ 1048576
  have d3 : decide ((F.size : Int) ≤ 1048576) = decide (F.size ≤ 1048576) := cast_le _ 1048576
  unfold frVal placeB
  generalize decide (F.at_ < 1048576) = q1 at d1 ⊢
  generalize decide (F.of_ ≤ 1048576) = q2 at d2 ⊢
  generalize decide (F.size ≤ 1048576) = q3 at d3 ⊢
  cases q1
  · go_enter Try.func35, Try.ntmps35
    go_wp2
    go_ret
    exact ⟨rfl, (Grew.refl w).alloc _⟩
  · cases q2
    · go_enter Try.func35, Try.ntmps35
      go_wp2
      go_ret
      exact ⟨rfl, (Grew.refl w).alloc _⟩
    · go_enter Try.func35, Try.ntmps35
      go_wp2
      go_ret
      exact ⟨rfl, (Grew.refl w).alloc _⟩

def kindB (F : Fr) : Bool :=
  if F.kind = 1 ∨ F.kind = 4 then decide (F.at_ < F.of_) else if F.kind = 6 ∨ F.kind = 7 then decide (1 ≤ F.inst) else if F.kind = 8 then decide (1 ≤ F.inst) && decide (1 ≤ F.est.length) else true

set_option maxRecDepth 100000 in
set_option maxHeartbeats 1600000 in
theorem kindMay_any (F : Fr) (e x n h d : Hd) (w : World) : Calls Try.prog 36 #[frVal F e x n h d] w fun e w' => e = .returned (.bool (kindB F)) ∧ Grew w w' := by
  have d1 : decide ((F.at_ : Int) < (F.of_ : Int)) = decide (F.at_ < F.of_) := cast_lt _ _
  have d2 : decide ((1 : Int) ≤ (F.inst : Int)) = decide (1 ≤ F.inst) := cast_le 1 _
  have d3 : decide ((1 : Int) ≤ (F.est.length : Int)) = decide (1 ≤ F.est.length) := cast_le 1 _
  unfold frVal kindB
  generalize F.at_ = a at d1 ⊢
  generalize F.of_ = o at d1 ⊢
  generalize F.inst = i at d2 ⊢
  generalize F.est.length = m at d3 ⊢
  generalize F.kind = k
  by_cases h1 : k = 1
  · subst h1
    simp
    clear d2 d3
    go_enter Try.func36, Try.ntmps36
    go_wp2
    go_ret
    exact ⟨rfl, (Grew.refl w).alloc _⟩
  by_cases h4 : k = 4
  · subst h4
    simp
    clear d2 d3
    go_enter Try.func36, Try.ntmps36
    go_wp2
    go_ret
    exact ⟨rfl, (Grew.refl w).alloc _⟩
  by_cases h6 : k = 6
  · subst h6
    simp
    generalize decide (1 ≤ i) = q at d2 ⊢
    clear d1 d3
    go_enter Try.func36, Try.ntmps36
    go_wp2
    go_ret
    exact ⟨rfl, (Grew.refl w).alloc _⟩
  by_cases h7 : k = 7
  · subst h7
    simp
    generalize decide (1 ≤ i) = q at d2 ⊢
    clear d1 d3
    go_enter Try.func36, Try.ntmps36
    go_wp2
    go_ret
    exact ⟨rfl, (Grew.refl w).alloc _⟩
  by_cases h8 : k = 8
  · subst h8
    simp
    generalize decide (1 ≤ i) = q at d2 ⊢
    generalize decide (1 ≤ m) = r at d3 ⊢
    clear d1
    cases q
    · go_enter Try.func36, Try.ntmps36
      go_wp2
      go_ret
      exact ⟨rfl, (Grew.refl w).alloc _⟩
    · go_enter Try.func36, Try.ntmps36
      go_wp2
      go_ret
      exact ⟨rfl, (Grew.refl w).alloc _⟩
  have z1 : ((k : Int) == 1) = false := by simp; omega
  have z4 : ((k : Int) == 4) = false := by simp; omega
  have z6 : ((k : Int) == 6) = false := by simp; omega
  have z7 : ((k : Int) == 7) = false := by simp; omega
  have z8 : ((k : Int) == 8) = false := by simp; omega
  rw [if_neg (by omega), if_neg (by omega), if_neg h8]
  clear h1 h4 h6 h7 h8 d1 d2 d3
  go_enter Try.func36, Try.ntmps36
  go_wp2
  go_ret
  exact ⟨rfl, (Grew.refl w).alloc _⟩

end Go.Proofs.Ytbfjfidodpgohaa
