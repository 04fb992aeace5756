/- The Great of the document (picked). -/
import Derived.Test.YtmnjedpnhilndaaSlC
namespace Go.Proofs.Ytmnjedpnhilndaa
open Go.RowKit Go.Sort Go.ChangeShapes Go.WideShapes Go.ChangeAt

def greatB (F : Fr) : Bool := decide (100 < F.est.length) || decide (100 < F.aux.length) || decide (100 < F.done.length) || decide (100 < F.held.length) || decide (2000 < F.data.length)

set_option maxRecDepth 100000 in
set_option maxHeartbeats 3200000 in
theorem refGreat_any (F : Fr) (cs : Array Value) (w : World) (hF : FrL w F cs) :
    Calls Try.prog 20 #[.agg cs] w fun e w' => e = .returned (.bool (greatB F)) ∧ RowKit.Below w.heap.size w w' := by
  have HB : Hid (RowKit.Below w.heap.size w (w.alloc (.cells cs 40))) := (RowKit.Below.refl _ _).alloc (Nat.le_refl _) _
  obtain ⟨A1, c1, A2, c2, A3, c3, A4, c4, A5, c5, x1, x2, x3, x4, x5⟩ := hF.sls
  unfold greatB
  generalize F.est.length = n1 at *
  generalize F.aux.length = n2 at *
  generalize F.done.length = n3 at *
  generalize F.held.length = n4 at *
  generalize F.data.length = n5 at *
  clear hF
  by_cases h1 : 100 < n1
  · rw [show (decide (100 < n1) || decide (100 < n2) || decide (100 < n3) || decide (100 < n4) || decide (2000 < n5)) = true by simp [h1]]
    have d1 : decide ((100 : Int) < (n1 : Int)) = true := by simp; omega
    clear h1
    go_enter Try.func20, Try.ntmps20
    go_wp2
    go_ret
    exact ⟨rfl, HB.out⟩
  have d1 : decide ((100 : Int) < (n1 : Int)) = false := by simp; omega
  by_cases h2 : 100 < n2
  · rw [show (decide (100 < n1) || decide (100 < n2) || decide (100 < n3) || decide (100 < n4) || decide (2000 < n5)) = true by simp [h2]]
    have d2 : decide ((100 : Int) < (n2 : Int)) = true := by simp; omega
    clear h1 h2
    go_enter Try.func20, Try.ntmps20
    go_wp2
    go_ret
    exact ⟨rfl, HB.out⟩
  have d2 : decide ((100 : Int) < (n2 : Int)) = false := by simp; omega
  by_cases h3 : 100 < n3
  · rw [show (decide (100 < n1) || decide (100 < n2) || decide (100 < n3) || decide (100 < n4) || decide (2000 < n5)) = true by simp [h3]]
    have d3 : decide ((100 : Int) < (n3 : Int)) = true := by simp; omega
    clear h1 h2 h3
    go_enter Try.func20, Try.ntmps20
    go_wp2
    go_ret
    exact ⟨rfl, HB.out⟩
  have d3 : decide ((100 : Int) < (n3 : Int)) = false := by simp; omega
  by_cases h4 : 100 < n4
  · rw [show (decide (100 < n1) || decide (100 < n2) || decide (100 < n3) || decide (100 < n4) || decide (2000 < n5)) = true by simp [h4]]
    have d4 : decide ((100 : Int) < (n4 : Int)) = true := by simp; omega
    clear h1 h2 h3 h4
    go_enter Try.func20, Try.ntmps20
    go_wp2
    go_ret
    exact ⟨rfl, HB.out⟩
  have d4 : decide ((100 : Int) < (n4 : Int)) = false := by simp; omega
  by_cases h5 : 2000 < n5
  · rw [show (decide (100 < n1) || decide (100 < n2) || decide (100 < n3) || decide (100 < n4) || decide (2000 < n5)) = true by simp [h5]]
    have d5 : decide ((2000 : Int) < (n5 : Int)) = true := by simp; omega
    clear h1 h2 h3 h4 h5
    go_enter Try.func20, Try.ntmps20
    go_wp2
    go_ret
    exact ⟨rfl, HB.out⟩
  · rw [show (decide (100 < n1) || decide (100 < n2) || decide (100 < n3) || decide (100 < n4) || decide (2000 < n5)) = false by simp; omega]
    have d5 : decide ((2000 : Int) < (n5 : Int)) = false := by simp; omega
    clear h1 h2 h3 h4 h5
    go_enter Try.func20, Try.ntmps20
    go_wp2
    go_ret
    exact ⟨rfl, HB.out⟩

theorem great_ok {F : Fr} (h : greatB F = false) (hw : F.Wf) : F.Ok := by
  unfold greatB at h
  simp at h
  exact ⟨hw.kind, hw.src, hw.dst, hw.seq, hw.at_, hw.of_, hw.size, hw.inst, hw.rnd, by omega, by omega, by omega, by omega, by omega, hw.doneN, hw.heldN⟩

end Go.Proofs.Ytmnjedpnhilndaa
