/-
  No cell of these rows narrows 'for every input' (looked for: loops, veiled, ifaces, maps, wideKeys, modest, calm, conditions, laid).
  DERIVED. THE GIVEN ROWS OF THIS SEAT. 6 by the template 'for every input the law returns true; each argument reads behind the call as it read before'; 0 by the template 'total and deterministic' (their statements: YtjhdaddemeegmaaTotals.lean).
  GIVEN WITH THE SEED: the statements are not yours to turn. If you find one false, say at which input.
  Laid BY PROGRAM, IN A SANDBOX (cutbox-rows.mjs): the forced cells as the released guide's own fill.sh prints them over the translation 5e2f120ef0237ff9… (all of the seat's roots in one cut). By AI agents, Wed Nov 11 2026. No macro, syntax, notation, axiom, sorry.
-/
import Derived.Test.YtjhdaddemeegmaaChecked
import GoSem.Claim
import GoSem.ClaimJoined
import GoSem.ClaimMapViews
import Derived.JoinedTies
import Derived.KernelRfl
namespace Go.Proofs.Ytjhdaddemeegmaa
/- THE CELL 'sum', in the pinned program and in every row, IS THE sha256 OF THE DUMP (.gsa) THAT YtjhdaddemeegmaaProg.lean LOADS. Nothing in Lean hashes anything: it is a label: what it is worth is what the hold of that sum in a sandbox is worth. -/
noncomputable def Try.pinned : Pinned := { name := "ytjhdaddemeegmaa", sum := "5e2f120ef0237ff9f382f72e3227183d992f69b34f00656a085a9a3f8ed7e787", checked := Try.checked }
namespace Rows
def none {H : Type} : Left H := { results := [], args := [] }

/-- 'unisonlaw04.VecIs': WHATEVER THE INPUT: true; the input reads as it did. -/
def vecIsSpec : ChangeSpec := { name := "vecIs", fn := fun _ => fun
  | [d1, d2, d3, d4] => { results := [.lit (.bool true)], args := [d1, d2, d3, d4] }
  | _ => none }
def vecIsRow : OpenClaim := { program := "ytjhdaddemeegmaa", sum := "5e2f120ef0237ff9f382f72e3227183d992f69b34f00656a085a9a3f8ed7e787", func := "unison/unisonlaw04.VecIs", spec := "vecIs", unfollowed := true, recurses := true, apart := false }
def VecIsSaid : Prop := vecIsRow.holds Try.pinned (OpenSpec.ofChange vecIsSpec)

/-- ITS FALSE NEIGHBOUR: 'it returns false'. Refute it at one input. -/
def vecIsWrong : ChangeSpec := { name := "vecIs", fn := fun _ => fun
  | [d1, d2, d3, d4] => { results := [.lit (.bool false)], args := [d1, d2, d3, d4] }
  | _ => none }
def VecIsWrongFalsely : Prop := vecIsRow.holds Try.pinned (OpenSpec.ofChange vecIsWrong)

/-- 'unisonlaw04.VecFolds': WHATEVER THE INPUT: true; the input reads as it did. -/
def vecFoldsSpec : ChangeSpec := { name := "vecFolds", fn := fun _ => fun
  | [d1, d2] => { results := [.lit (.bool true)], args := [d1, d2] }
  | _ => none }
def vecFoldsRow : OpenClaim := { program := "ytjhdaddemeegmaa", sum := "5e2f120ef0237ff9f382f72e3227183d992f69b34f00656a085a9a3f8ed7e787", func := "unison/unisonlaw04.VecFolds", spec := "vecFolds", unfollowed := true, recurses := true, apart := false }
def VecFoldsSaid : Prop := vecFoldsRow.holds Try.pinned (OpenSpec.ofChange vecFoldsSpec)

/-- ITS FALSE NEIGHBOUR: 'it returns false'. Refute it at one input. -/
def vecFoldsWrong : ChangeSpec := { name := "vecFolds", fn := fun _ => fun
  | [d1, d2] => { results := [.lit (.bool false)], args := [d1, d2] }
  | _ => none }
def VecFoldsWrongFalsely : Prop := vecFoldsRow.holds Try.pinned (OpenSpec.ofChange vecFoldsWrong)

/-- 'unisonlaw04.VecBounds': WHATEVER THE INPUT: true; the input reads as it did. -/
def vecBoundsSpec : ChangeSpec := { name := "vecBounds", fn := fun _ => fun
  | [d1, d2] => { results := [.lit (.bool true)], args := [d1, d2] }
  | _ => none }
def vecBoundsRow : OpenClaim := { program := "ytjhdaddemeegmaa", sum := "5e2f120ef0237ff9f382f72e3227183d992f69b34f00656a085a9a3f8ed7e787", func := "unison/unisonlaw04.VecBounds", spec := "vecBounds", unfollowed := true, recurses := true, apart := false }
def VecBoundsSaid : Prop := vecBoundsRow.holds Try.pinned (OpenSpec.ofChange vecBoundsSpec)

/-- ITS FALSE NEIGHBOUR: 'it returns false'. Refute it at one input. -/
def vecBoundsWrong : ChangeSpec := { name := "vecBounds", fn := fun _ => fun
  | [d1, d2] => { results := [.lit (.bool false)], args := [d1, d2] }
  | _ => none }
def VecBoundsWrongFalsely : Prop := vecBoundsRow.holds Try.pinned (OpenSpec.ofChange vecBoundsWrong)

/-- 'unisonlaw04.VecTurns': WHATEVER THE INPUT: true; the input reads as it did. -/
def vecTurnsSpec : ChangeSpec := { name := "vecTurns", fn := fun _ => fun
  | [d1, d2] => { results := [.lit (.bool true)], args := [d1, d2] }
  | _ => none }
def vecTurnsRow : OpenClaim := { program := "ytjhdaddemeegmaa", sum := "5e2f120ef0237ff9f382f72e3227183d992f69b34f00656a085a9a3f8ed7e787", func := "unison/unisonlaw04.VecTurns", spec := "vecTurns", unfollowed := true, recurses := true, apart := false }
def VecTurnsSaid : Prop := vecTurnsRow.holds Try.pinned (OpenSpec.ofChange vecTurnsSpec)

/-- ITS FALSE NEIGHBOUR: 'it returns false'. Refute it at one input. -/
def vecTurnsWrong : ChangeSpec := { name := "vecTurns", fn := fun _ => fun
  | [d1, d2] => { results := [.lit (.bool false)], args := [d1, d2] }
  | _ => none }
def VecTurnsWrongFalsely : Prop := vecTurnsRow.holds Try.pinned (OpenSpec.ofChange vecTurnsWrong)

/-- 'unisonlaw04.VecSets': WHATEVER THE INPUT: true; the input reads as it did. -/
def vecSetsSpec : ChangeSpec := { name := "vecSets", fn := fun _ => fun
  | [d1, d2, d3] => { results := [.lit (.bool true)], args := [d1, d2, d3] }
  | _ => none }
def vecSetsRow : OpenClaim := { program := "ytjhdaddemeegmaa", sum := "5e2f120ef0237ff9f382f72e3227183d992f69b34f00656a085a9a3f8ed7e787", func := "unison/unisonlaw04.VecSets", spec := "vecSets", unfollowed := true, recurses := true, apart := false }
def VecSetsSaid : Prop := vecSetsRow.holds Try.pinned (OpenSpec.ofChange vecSetsSpec)

/-- ITS FALSE NEIGHBOUR: 'it returns false'. Refute it at one input. -/
def vecSetsWrong : ChangeSpec := { name := "vecSets", fn := fun _ => fun
  | [d1, d2, d3] => { results := [.lit (.bool false)], args := [d1, d2, d3] }
  | _ => none }
def VecSetsWrongFalsely : Prop := vecSetsRow.holds Try.pinned (OpenSpec.ofChange vecSetsWrong)

/-- 'unisonlaw04.VecLacks': WHATEVER THE INPUT: true; the input reads as it did. -/
def vecLacksSpec : ChangeSpec := { name := "vecLacks", fn := fun _ => fun
  | [d1, d2] => { results := [.lit (.bool true)], args := [d1, d2] }
  | _ => none }
def vecLacksRow : OpenClaim := { program := "ytjhdaddemeegmaa", sum := "5e2f120ef0237ff9f382f72e3227183d992f69b34f00656a085a9a3f8ed7e787", func := "unison/unisonlaw04.VecLacks", spec := "vecLacks", unfollowed := true, recurses := true, apart := false }
def VecLacksSaid : Prop := vecLacksRow.holds Try.pinned (OpenSpec.ofChange vecLacksSpec)

/-- ITS FALSE NEIGHBOUR: 'it returns false'. Refute it at one input. -/
def vecLacksWrong : ChangeSpec := { name := "vecLacks", fn := fun _ => fun
  | [d1, d2] => { results := [.lit (.bool false)], args := [d1, d2] }
  | _ => none }
def VecLacksWrongFalsely : Prop := vecLacksRow.holds Try.pinned (OpenSpec.ofChange vecLacksWrong)

/- THE SECOND FORM. 'bulk': how many values and letters a reading holds, each counted each time it is reached (what is shared counts as often as it is met; a slice's spare places count too). A statement '..UptoSaid' is the law's where the arguments, and the package variables that the reading takes, are together of bulk at most 1048576: NARROWER than '..Said'. Prove '..Said' where nothing that the law and all that it calls make is longer than what came in: it says more and counts as full. Else prove '..UptoSaid'. A law counts once. -/
mutual
def uptoBulk {H : Type} : DataW H → Nat
  | .lit (.string bytes) => bytes.length + 1
  | .lit _ => 1
  | .nil => 1
  | .ptr d => uptoBulk d + 1
  | .slice elems spare => uptoBulkAll elems + uptoBulkAll spare + 1
  | .agg parts => uptoBulkAll parts + 1
  | .iface _ d => uptoBulk d + 1
  | .map entries => uptoBulkEntries entries + 1
  | .held _ => 1
def uptoBulkAll {H : Type} : List (DataW H) → Nat
  | [] => 0
  | d :: r => uptoBulk d + uptoBulkAll r
def uptoBulkEntries {H : Type} : List (Lit × DataW H) → Nat
  | [] => 0
  | x :: r => uptoBulkEntry x + uptoBulkEntries r
def uptoBulkEntry {H : Type} : Lit × DataW H → Nat
  | (.string bytes, d) => bytes.length + uptoBulk d + 1
  | (_, d) => uptoBulk d + 1
 end
def uptoSmall : (H : Type) → List (DataW H) → Bool := fun _ ds => decide (uptoBulkAll ds ≤ 1048576)
def OpenSpec.upto (s : _root_.Go.ChangeSpec) : _root_.Go.OpenSpec := { _root_.Go.OpenSpec.ofChange s with cond := some uptoSmall }

/-- 'unisonlaw04.VecIs', WHERE WHAT IT READS IS OF BULK AT MOST 1048576: true; the input reads as it did. -/
def vecIsUptoRow : OpenClaim := { program := "ytjhdaddemeegmaa", sum := "5e2f120ef0237ff9f382f72e3227183d992f69b34f00656a085a9a3f8ed7e787", func := "unison/unisonlaw04.VecIs", spec := "vecIs", unfollowed := true, recurses := true, apart := false, narrowed := true }
def VecIsUptoSaid : Prop := vecIsUptoRow.holds Try.pinned (OpenSpec.upto vecIsSpec)

/-- 'unisonlaw04.VecFolds', WHERE WHAT IT READS IS OF BULK AT MOST 1048576: true; the input reads as it did. -/
def vecFoldsUptoRow : OpenClaim := { program := "ytjhdaddemeegmaa", sum := "5e2f120ef0237ff9f382f72e3227183d992f69b34f00656a085a9a3f8ed7e787", func := "unison/unisonlaw04.VecFolds", spec := "vecFolds", unfollowed := true, recurses := true, apart := false, narrowed := true }
def VecFoldsUptoSaid : Prop := vecFoldsUptoRow.holds Try.pinned (OpenSpec.upto vecFoldsSpec)

/-- 'unisonlaw04.VecBounds', WHERE WHAT IT READS IS OF BULK AT MOST 1048576: true; the input reads as it did. -/
def vecBoundsUptoRow : OpenClaim := { program := "ytjhdaddemeegmaa", sum := "5e2f120ef0237ff9f382f72e3227183d992f69b34f00656a085a9a3f8ed7e787", func := "unison/unisonlaw04.VecBounds", spec := "vecBounds", unfollowed := true, recurses := true, apart := false, narrowed := true }
def VecBoundsUptoSaid : Prop := vecBoundsUptoRow.holds Try.pinned (OpenSpec.upto vecBoundsSpec)

/-- 'unisonlaw04.VecTurns', WHERE WHAT IT READS IS OF BULK AT MOST 1048576: true; the input reads as it did. -/
def vecTurnsUptoRow : OpenClaim := { program := "ytjhdaddemeegmaa", sum := "5e2f120ef0237ff9f382f72e3227183d992f69b34f00656a085a9a3f8ed7e787", func := "unison/unisonlaw04.VecTurns", spec := "vecTurns", unfollowed := true, recurses := true, apart := false, narrowed := true }
def VecTurnsUptoSaid : Prop := vecTurnsUptoRow.holds Try.pinned (OpenSpec.upto vecTurnsSpec)

/-- 'unisonlaw04.VecSets', WHERE WHAT IT READS IS OF BULK AT MOST 1048576: true; the input reads as it did. -/
def vecSetsUptoRow : OpenClaim := { program := "ytjhdaddemeegmaa", sum := "5e2f120ef0237ff9f382f72e3227183d992f69b34f00656a085a9a3f8ed7e787", func := "unison/unisonlaw04.VecSets", spec := "vecSets", unfollowed := true, recurses := true, apart := false, narrowed := true }
def VecSetsUptoSaid : Prop := vecSetsUptoRow.holds Try.pinned (OpenSpec.upto vecSetsSpec)

/-- 'unisonlaw04.VecLacks', WHERE WHAT IT READS IS OF BULK AT MOST 1048576: true; the input reads as it did. -/
def vecLacksUptoRow : OpenClaim := { program := "ytjhdaddemeegmaa", sum := "5e2f120ef0237ff9f382f72e3227183d992f69b34f00656a085a9a3f8ed7e787", func := "unison/unisonlaw04.VecLacks", spec := "vecLacks", unfollowed := true, recurses := true, apart := false, narrowed := true }
def VecLacksUptoSaid : Prop := vecLacksUptoRow.holds Try.pinned (OpenSpec.upto vecLacksSpec)

end Rows
end Go.Proofs.Ytjhdaddemeegmaa
