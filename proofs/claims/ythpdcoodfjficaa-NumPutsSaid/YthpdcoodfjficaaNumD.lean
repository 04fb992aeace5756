/- The walks of a reader's small methods: New, silent, Err, Left, End. -/
import Derived.Test.YthpdcoodfjficaaNumC
namespace Go.Proofs.Ythpdcoodfjficaa
open Go.RowKit

/-- Block g is a reader, made by the call, before which l stands (the slice A, n, c), and whose error is er; all of it lies from base on and below hi. -/
def RdAt (w : World) (base hi g : Nat) (l : List UInt8) (er : Nat) (A : Option Addr) (n c : Nat) : Prop :=
  w.heap[g]? = some (.cells #[.slice A n c, .int .i64 er] 56 (0, 0)) ∧ base ≤ g ∧ Hid (l.length = n) ∧ n ≤ c ∧ c ≤ maxLen ∧ Lies w hi A (bvs l) ∧
    (∀ a, A = some a → a.block ≠ g ∧ base ≤ a.block) ∧ g < hi ∧ hi ≤ w.heap.size
def Rd (w : World) (base hi g : Nat) (l : List UInt8) (er : Nat) : Prop := ∃ A n c, RdAt w base hi g l er A n c

section
variable {w w' : World} {base hi g er n c : Nat} {l : List UInt8} {A : Option Addr}
theorem RdAt.c0 (h : RdAt w base hi g l er A n c) : w.cell? ⟨g, 0, none⟩ = some (.slice A n c) := cell_of_row w g 0 _ _ _ h.1
theorem RdAt.c1 (h : RdAt w base hi g l er A n c) : w.cell? ⟨g, 1, none⟩ = some (.int .i64 er) := cell_of_row w g 1 _ _ _ h.1
theorem RdAt.fr (h : RdAt w base hi g l er A n c) (i : Nat) : w.frozen? ⟨g, i, none⟩ = false := by
  simp [World.frozen?, h.1]
theorem RdAt.lt (h : RdAt w base hi g l er A n c) : g < hi := h.2.2.2.2.2.2.2.1
theorem RdAt.hiLe (h : RdAt w base hi g l er A n c) : hi ≤ w.heap.size := h.2.2.2.2.2.2.2.2
theorem RdAt.lies (h : RdAt w base hi g l er A n c) : Lies w hi A (bvs l) := h.2.2.2.2.2.1

/-- A later world in which nothing below hi has turned. -/
theorem RdAt.below (h : RdAt w base hi g l er A n c) (hb : Below hi w w') : RdAt w' base hi g l er A n c := by
  have hlt := h.lt
  have hhi := h.hiLe
  obtain ⟨h1, h2, h3, h4, h5, h6, h7, h8, h9⟩ := h
  exact ⟨(hb.block g hlt).trans h1, h2, h3, h4, h5, h6.below hb, h7, h8, Nat.le_trans h9 hb.size⟩
theorem Rd.below (h : Rd w base hi g l er) (hb : Below hi w w') : Rd w' base hi g l er := by
  obtain ⟨A, n, c, h⟩ := h
  exact ⟨A, n, c, h.below hb⟩
theorem Rd.lt (h : Rd w base hi g l er) : base ≤ g ∧ g < hi ∧ hi ≤ w.heap.size := by
  obtain ⟨A, n, c, h⟩ := h
  exact ⟨h.2.1, h.lt, h.hiLe⟩
end

def Made (w : World) (l : List UInt8) (e : Ending) (w' : World) : Prop :=
  ∃ g, e = .returned (.pointer (some ⟨g, 0, none⟩)) ∧ Rd w' w.heap.size w'.heap.size g l 0 ∧ Below w.heap.size w w'

theorem made_of {w w1 : World} {l : List UInt8} {A : Option Addr} {n c : Nat} (hn : Hid ((bvs l).length = n)) (h1 : n ≤ c) (h2 : c ≤ maxLen) (ho : w1.ownsRow w.heap.size 5 1 (.slice A n c) n (bvs l)) (hb : Below w.heap.size w w1) :
    Made w l (.returned (.pointer (some ⟨w1.heap.size, 0, none⟩))) (w1.alloc (.cells #[.slice A n c, .int .i64 0] 56)) := by
  refine ⟨w1.heap.size, rfl, ⟨A, n, c, heap_alloc_new w1 _, hb.size, ?_, h1, h2, ?_, ?_, by simp, Nat.le_refl _⟩, hb.alloc hb.size _⟩
  · have := hn.out; rw [bvs_length] at this; exact this
  · exact ((Lies.of_own ho).below ((Below.refl _ _).alloc (Nat.le_refl _) _)).more (by simp)
  · rintro a rfl
    obtain ⟨h3, h4⟩ := ho.lt a.block rfl
    exact ⟨by omega, h3⟩

set_option maxHeartbeats 400000 in
theorem new_any (A : Option Addr) (n c : Nat) (l : List UInt8) (w : World) (hl : l.length = n) (hn : n ≤ 1000000) (h : Lies w w.heap.size A (bvs l)) :
    Calls Try.prog 15 #[.slice A n c] w (Made w l) := by
  have HL := Lib.hid hl
  clear hl
  go_enter Try.func15, Try.ntmps15
  go_wp2_with (go_at_call 24; refine (fresh_any A _ n c l _ HL.out (by omega) h).mono ?_; rintro e w1 ⟨A1, n1, c1, rfl, hn1, hc1, hc2, ho1, hb1⟩)
  go_ret
  exact made_of hn1 hc1 hc2 ho1 hb1

theorem silent_nil (w : World) : Calls Try.prog 26 #[.pointer none] w fun e w' => e = .returned (.bool true) ∧ w = w' := by
  go_enter Try.func26, Try.ntmps26
  go_wp2
  go_ret
  exact ⟨rfl, rfl⟩

theorem silent_ok {w : World} {base hi g n c : Nat} {l : List UInt8} {A : Option Addr} (h : RdAt w base hi g l 0 A n c) : Calls Try.prog 26 #[.pointer (some ⟨g, 0, none⟩)] w fun e w' => e = .returned (.bool false) ∧ w = w' := by
  have h1 := h.c1
  go_enter Try.func26, Try.ntmps26
  go_wp2
  go_ret
  exact ⟨rfl, rfl⟩

theorem silent_bad {w : World} {base hi g n c er : Nat} {l : List UInt8} {A : Option Addr} (h : RdAt w base hi g l er A n c) (her : 0 < er) : Calls Try.prog 26 #[.pointer (some ⟨g, 0, none⟩)] w fun e w' => e = .returned (.bool true) ∧ w = w' := by
  have h1 := h.c1
  have h2 : ((er : Int) != 0) = true := by simp; omega
  go_enter Try.func26, Try.ntmps26
  go_wp2
  go_ret
  exact ⟨rfl, rfl⟩

theorem err_nil (w : World) : Calls Try.prog 20 #[.pointer none] w fun e w' => e = .returned (.int .i64 0) ∧ w = w' := by
  go_enter Try.func20, Try.ntmps20
  go_wp2
  go_ret
  exact ⟨rfl, rfl⟩

theorem err_any {w : World} {base hi g n c er : Nat} {l : List UInt8} {A : Option Addr} (h : RdAt w base hi g l er A n c) : Calls Try.prog 20 #[.pointer (some ⟨g, 0, none⟩)] w fun e w' => e = .returned (.int .i64 er) ∧ w = w' := by
  have h1 := h.c1
  go_enter Try.func20, Try.ntmps20
  go_wp2
  go_ret
  exact ⟨rfl, rfl⟩

theorem left_nil (w : World) : Calls Try.prog 21 #[.pointer none] w fun e w' => e = .returned (.int .i64 0) ∧ w = w' := by
  go_enter Try.func21, Try.ntmps21
  go_wp2
  go_ret
  exact ⟨rfl, rfl⟩

theorem left_any {w : World} {base hi g n c er : Nat} {l : List UInt8} {A : Option Addr} (h : RdAt w base hi g l er A n c) : Calls Try.prog 21 #[.pointer (some ⟨g, 0, none⟩)] w fun e w' => e = .returned (.int .i64 n) ∧ w = w' := by
  have h1 := h.c0
  go_enter Try.func21, Try.ntmps21
  go_wp2
  go_ret
  exact ⟨rfl, rfl⟩

theorem end_nil (w : World) : Calls Try.prog 22 #[.pointer none] w fun e w' => e = .returned (.int .i64 0) ∧ w = w' := by
  go_enter Try.func22, Try.ntmps22
  go_wp2
  go_ret
  exact ⟨rfl, rfl⟩

/-- End's answer. -/
def endOf (er n : Nat) : Nat := if er ≠ 0 then er else if 0 < n then 4 else 0

theorem end_any {w : World} {base hi g n c er : Nat} {l : List UInt8} {A : Option Addr} (h : RdAt w base hi g l er A n c) : Calls Try.prog 22 #[.pointer (some ⟨g, 0, none⟩)] w fun e w' => e = .returned (.int .i64 (endOf er n)) ∧ w = w' := by
  have h0 := h.c0
  have h1 := h.c1
  by_cases her : er = 0
  · subst her
    by_cases hn : 0 < n
    · go_enter Try.func22, Try.ntmps22
      go_wp2
      go_ret
      exact ⟨by simp [endOf, hn], rfl⟩
    · go_enter Try.func22, Try.ntmps22
      go_wp2
      go_ret
      exact ⟨by simp [endOf, hn], rfl⟩
  · have h2 : ((er : Int) != 0) = true := by simp; omega
    go_enter Try.func22, Try.ntmps22
    go_wp2
    go_ret
    exact ⟨by simp [endOf, her], rfl⟩

end Go.Proofs.Ythpdcoodfjficaa
