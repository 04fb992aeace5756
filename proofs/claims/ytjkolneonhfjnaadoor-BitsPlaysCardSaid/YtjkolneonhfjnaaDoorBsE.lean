/- Stage 11: math/bits.TrailingZeros64: the library's own contract laid at this program; its table. -/
import Derived.Test.YtjkolneonhfjnaaDoorBsD
import Derived.Shelf.Spec.TrailingZeros
set_option maxRecDepth 20000
namespace Go.Proofs.YtjkolneonhfjnaaDoor
open Go.Shelf Go.RowKit Go.Sort

def Tryd.tz_ren : Go.Shelf.Ren := ⟨fun | 29 => 22 | n => n, fun | 0 => 0 | 3 => 3 | 4 => 4 | 5 => 5 | 22 => 43 | 25 => 47 | 54 => 46 | n => n, fun | 1 => 0 | n => n⟩

theorem Tryd.tz : Lays7.n29 Tryd.prog Tryd.tz_ren := {
  mixed := by kernel_rfl
  f29 := Tryd.func22.trans (congrArg some (by kernel_rfl))
  t0 := Tryd.underlying0
  a0 := Tryd.isAgg0
  z0 := Tryd.sizeOf0
  v0 := Tryd.zeroValue0
  i0 := by kernel_rfl
  t3 := Tryd.underlying3
  a3 := Tryd.isAgg3
  z3 := Tryd.sizeOf3
  v3 := Tryd.zeroValue3
  i3 := by kernel_rfl
  t4 := Tryd.underlying4
  a4 := Tryd.isAgg4
  z4 := Tryd.sizeOf4
  v4 := Tryd.zeroValue4
  i4 := by kernel_rfl
  t5 := Tryd.underlying5
  a5 := Tryd.isAgg5
  z5 := Tryd.sizeOf5
  v5 := Tryd.zeroValue5
  i5 := by kernel_rfl
  t22 := Tryd.underlying43
  a22 := Tryd.isAgg43
  z22 := Tryd.sizeOf43
  v22 := Tryd.zeroValue43
  i22 := by kernel_rfl
  t25 := Tryd.underlying47
  a25 := Tryd.isAgg47
  z25 := Tryd.sizeOf47
  v25 := Tryd.zeroValue47
  i25 := by kernel_rfl
  t54 := Tryd.underlying46
  a54 := Tryd.isAgg46
  z54 := Tryd.sizeOf46
  g1 := by kernel_rfl }

/-- The library's table is laid. -/
def Tab (w : World) : Prop := TabAt 0 Lib.deBruijn64tab w
theorem Tab.kept {w w' : World} {D : Nat → Prop} (h : Tab w) (ho : OnlyE w w' D) (hD : ¬ D 0) : Tab w' := fun j hj => by
  have h1 := h j hj
  have hlt := World.block_lt_of_cell? w _ h1
  exact (World.cell?_of_block (ho.same _ hlt hD)).trans h1
theorem Tab.on {w w' : World} (h : Tab w) (hb : RowKit.Below w.heap.size w w') : Tab w' := h.kept (D := fun _ => False) (OnlyE.of_below hb) id

theorem tz_any (x : Nat) (hx : x < 18446744073709551616) (w : World) (hT : Tab w) :
    Calls Tryd.prog 22 #[.int .u64 (x : Int)] w fun e w' => e = .returned (.int .i64 (Lib.ctz 64 x : Int)) ∧ w' = w :=
  Any7.bits_TrailingZeros64 Tryd.tz x hx w fun _ => hT

end Go.Proofs.YtjkolneonhfjnaaDoor
