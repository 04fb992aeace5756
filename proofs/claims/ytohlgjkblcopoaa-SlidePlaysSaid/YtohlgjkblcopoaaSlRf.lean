/- The document's First. -/
import Derived.Test.YtohlgjkblcopoaaSlR
namespace Go.Proofs.Ytohlgjkblcopoaa
open Go.RowKit Go.Sort
set_option maxRecDepth 20000

theorem refFirst_any (A : Option Addr) (n c width last : Nat) (lm : List Pf) (w : World) (hl : lm.length = n) (hA : Lies w w.heap.size A (flat encPf lm)) (hn : n ≤ last) (hlow : last ≤ 1000000) (hs : ∀ h : 0 < lm.length, lm[0].F.seq = firstN last n) :
    Calls Try.prog 18 #[.agg #[.int .i64 (width : Int), .slice A n c, .int .u64 (last : Int)]] w fun e w' => e = .returned (.int .u64 (firstN last n : Int)) ∧ RowKit.Below w.heap.size w w' := by
  have HB : Hid (RowKit.Below w.heap.size w (w.alloc (.cells #[.int .i64 (width : Int), .slice A n c, .int .u64 (last : Int)] 29))) := (RowKit.Below.refl _ _).alloc (Nat.le_refl _) _
  by_cases h0 : n = 0
  · subst h0
    have HE : Hid ((firstN last 0 : Int) = (last : Int) + 1) := by show _ = _; unfold firstN; omega
    rw [HE.out]
    clear hl hA hs
    go_enter Try.func18, Try.ntmps18
    go_wp2
    go_ret
    exact ⟨rfl, HB.out⟩
  · have h1 : 0 < lm.length := by omega
    obtain ⟨b, off, rfl, hb, hc⟩ := row_at hA h1
    have hsq := range_seq hc
    rw [hs h1, Nat.zero_mul] at hsq
    have hz : ((n : Int) == 0) = false := by simp; omega
    have x1 := (HB.out.cell (p := ⟨b, off + 0 + 5, none⟩) hb).trans hsq
    rw [Nat.add_zero] at x1
    have hn0 : 0 < n := by omega
    clear hc hsq hA hs hl
    go_enter Try.func18, Try.ntmps18
    go_wp2
    go_ret
    exact ⟨rfl, HB.out⟩

end Go.Proofs.Ytohlgjkblcopoaa
