/- Stage 12: an id that is handed in (picked). -/
import Derived.Test.YtgkkobnoegggaaaCkL
import Derived.OpenShut
import Derived.Deep.Strs
import Derived.Lib.SmallJoins
namespace Go.Proofs.Ytgkkobnoegggaaa
open Go.RowKit Go.Sort Go.ChangeShapes Go.WideShapes Go.ChangeAt

def valId (x : Id) : Value := .agg #[.int .u8 (x.f : Int), .int .u64 (x.s : Int)]

section
variable {H : Type} {enc : TypeId × Value → H} {w : World} {base : Nat} {spare : Nat → Bool} {held : Bool}

theorem open_id {r : Reach} {b0 : Nat} {v : Value} {d : DataW H} {p : List MemPlace} (hv : Value.okWide Try.prog w r b0 28 v) (h : DataW.Trod enc Try.prog w base spare held 28 v d p) : ∃ x : Id, v = valId x := by
  obtain ⟨v0, v1, y0, y1, n, rfl, _, _, h0, h1⟩ := Joins.open_agg2 Try.underlying28 (by kernel_rfl) (by kernel_rfl) hv h
  obtain ⟨r0, e0, _, w0⟩ := DataW.trod_int Try.underlying5 h0
  obtain ⟨r1, e1, _, w1⟩ := DataW.trod_int Try.underlying26 h1
  injection e0 with e0
  injection e1 with e1
  subst e0 e1
  have b0 := bounds_u8 w0
  have b1 := bounds_u64 w1
  refine ⟨⟨r0.toNat, r1.toNat, by omega, by omega⟩, ?_⟩
  simp only [valId]
  rw [Int.toNat_of_nonneg b0.1, Int.toNat_of_nonneg b1.1]

end

end Go.Proofs.Ytgkkobnoegggaaa
