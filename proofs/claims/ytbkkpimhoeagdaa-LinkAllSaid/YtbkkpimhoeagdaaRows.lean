/-
  No cell of these rows narrows 'for every input' (looked for: loops, veiled, ifaces, maps, wideKeys, modest, calm, conditions, laid).
  DERIVED. THE GIVEN ROWS OF THIS SEAT. 6 by the template 'for every input the law returns true; each argument reads behind the call as it read before'; 0 by the template 'total and deterministic' (their statements: YtbkkpimhoeagdaaTotals.lean).
  GIVEN WITH THE SEED: the statements are not yours to turn. If you find one false, say at which input.
  Laid BY PROGRAM, IN A SANDBOX (cutbox-rows.mjs): the forced cells as the released guide's own fill.sh prints them over the translation 7cf31c8b7d13bae3… (all of the seat's roots in one cut). By AI agents, Wed Nov 11 2026. No macro, syntax, notation, axiom, sorry.
-/
import Derived.Test.YtbkkpimhoeagdaaChecked
import GoSem.Claim
import GoSem.ClaimJoined
import GoSem.ClaimMapViews
import Derived.JoinedTies
import Derived.KernelRfl
namespace Go.Proofs.Ytbkkpimhoeagdaa
/- THE CELL 'sum', in the pinned program and in every row, IS THE sha256 OF THE DUMP (.gsa) THAT YtbkkpimhoeagdaaProg.lean LOADS. Nothing in Lean hashes anything: it is a label: what it is worth is what the hold of that sum in a sandbox is worth. -/
noncomputable def Try.pinned : Pinned := { name := "ytbkkpimhoeagdaa", sum := "7cf31c8b7d13bae30b58133abce4e28e9131131dc8b8a4df2b1c9be919badceb", checked := Try.checked }
namespace Rows
def none {H : Type} : Left H := { results := [], args := [] }

/-- 'unisonlaw10.LinkPlays': WHATEVER THE INPUT: true; the input reads as it did. -/
def linkPlaysSpec : ChangeSpec := { name := "linkPlays", fn := fun _ => fun
  | [d1, d2, d3, d4, d5] => { results := [.lit (.bool true)], args := [d1, d2, d3, d4, d5] }
  | _ => none }
def linkPlaysRow : OpenClaim := { program := "ytbkkpimhoeagdaa", sum := "7cf31c8b7d13bae30b58133abce4e28e9131131dc8b8a4df2b1c9be919badceb", func := "unison/unisonlaw10.LinkPlays", spec := "linkPlays", apart := false }
def LinkPlaysSaid : Prop := linkPlaysRow.holds Try.pinned (OpenSpec.ofChange linkPlaysSpec)

/-- ITS FALSE NEIGHBOUR: 'it returns false'. Refute it at one input. -/
def linkPlaysWrong : ChangeSpec := { name := "linkPlays", fn := fun _ => fun
  | [d1, d2, d3, d4, d5] => { results := [.lit (.bool false)], args := [d1, d2, d3, d4, d5] }
  | _ => none }
def LinkPlaysWrongFalsely : Prop := linkPlaysRow.holds Try.pinned (OpenSpec.ofChange linkPlaysWrong)

/-- 'unisonlaw10.LinkFifo': WHATEVER THE INPUT: true; the input reads as it did. -/
def linkFifoSpec : ChangeSpec := { name := "linkFifo", fn := fun _ => fun
  | [d1, d2, d3] => { results := [.lit (.bool true)], args := [d1, d2, d3] }
  | _ => none }
def linkFifoRow : OpenClaim := { program := "ytbkkpimhoeagdaa", sum := "7cf31c8b7d13bae30b58133abce4e28e9131131dc8b8a4df2b1c9be919badceb", func := "unison/unisonlaw10.LinkFifo", spec := "linkFifo", apart := false }
def LinkFifoSaid : Prop := linkFifoRow.holds Try.pinned (OpenSpec.ofChange linkFifoSpec)

/-- ITS FALSE NEIGHBOUR: 'it returns false'. Refute it at one input. -/
def linkFifoWrong : ChangeSpec := { name := "linkFifo", fn := fun _ => fun
  | [d1, d2, d3] => { results := [.lit (.bool false)], args := [d1, d2, d3] }
  | _ => none }
def LinkFifoWrongFalsely : Prop := linkFifoRow.holds Try.pinned (OpenSpec.ofChange linkFifoWrong)

/-- 'unisonlaw10.LinkAll': WHATEVER THE INPUT: true; the input reads as it did. -/
def linkAllSpec : ChangeSpec := { name := "linkAll", fn := fun _ => fun
  | [d1, d2, d3] => { results := [.lit (.bool true)], args := [d1, d2, d3] }
  | _ => none }
def linkAllRow : OpenClaim := { program := "ytbkkpimhoeagdaa", sum := "7cf31c8b7d13bae30b58133abce4e28e9131131dc8b8a4df2b1c9be919badceb", func := "unison/unisonlaw10.LinkAll", spec := "linkAll", apart := false }
def LinkAllSaid : Prop := linkAllRow.holds Try.pinned (OpenSpec.ofChange linkAllSpec)

/-- ITS FALSE NEIGHBOUR: 'it returns false'. Refute it at one input. -/
def linkAllWrong : ChangeSpec := { name := "linkAll", fn := fun _ => fun
  | [d1, d2, d3] => { results := [.lit (.bool false)], args := [d1, d2, d3] }
  | _ => none }
def LinkAllWrongFalsely : Prop := linkAllRow.holds Try.pinned (OpenSpec.ofChange linkAllWrong)

/-- 'unisonlaw10.LinkNil': WHATEVER THE INPUT: true; the input reads as it did. -/
def linkNilSpec : ChangeSpec := { name := "linkNil", fn := fun _ => fun
  | [d1, d2] => { results := [.lit (.bool true)], args := [d1, d2] }
  | _ => none }
def linkNilRow : OpenClaim := { program := "ytbkkpimhoeagdaa", sum := "7cf31c8b7d13bae30b58133abce4e28e9131131dc8b8a4df2b1c9be919badceb", func := "unison/unisonlaw10.LinkNil", spec := "linkNil", apart := false }
def LinkNilSaid : Prop := linkNilRow.holds Try.pinned (OpenSpec.ofChange linkNilSpec)

/-- ITS FALSE NEIGHBOUR: 'it returns false'. Refute it at one input. -/
def linkNilWrong : ChangeSpec := { name := "linkNil", fn := fun _ => fun
  | [d1, d2] => { results := [.lit (.bool false)], args := [d1, d2] }
  | _ => none }
def LinkNilWrongFalsely : Prop := linkNilRow.holds Try.pinned (OpenSpec.ofChange linkNilWrong)

/-- 'unisonlaw10.LinkIdle': WHATEVER THE INPUT: true; the input reads as it did. -/
def linkIdleSpec : ChangeSpec := { name := "linkIdle", fn := fun _ => fun
  | [d1, d2, d3, d4] => { results := [.lit (.bool true)], args := [d1, d2, d3, d4] }
  | _ => none }
def linkIdleRow : OpenClaim := { program := "ytbkkpimhoeagdaa", sum := "7cf31c8b7d13bae30b58133abce4e28e9131131dc8b8a4df2b1c9be919badceb", func := "unison/unisonlaw10.LinkIdle", spec := "linkIdle", apart := false }
def LinkIdleSaid : Prop := linkIdleRow.holds Try.pinned (OpenSpec.ofChange linkIdleSpec)

/-- ITS FALSE NEIGHBOUR: 'it returns false'. Refute it at one input. -/
def linkIdleWrong : ChangeSpec := { name := "linkIdle", fn := fun _ => fun
  | [d1, d2, d3, d4] => { results := [.lit (.bool false)], args := [d1, d2, d3, d4] }
  | _ => none }
def LinkIdleWrongFalsely : Prop := linkIdleRow.holds Try.pinned (OpenSpec.ofChange linkIdleWrong)

/-- 'unisonlaw10.LinkRoom': WHATEVER THE INPUT: true; the input reads as it did. -/
def linkRoomSpec : ChangeSpec := { name := "linkRoom", fn := fun _ => fun
  | [d1, d2, d3] => { results := [.lit (.bool true)], args := [d1, d2, d3] }
  | _ => none }
def linkRoomRow : OpenClaim := { program := "ytbkkpimhoeagdaa", sum := "7cf31c8b7d13bae30b58133abce4e28e9131131dc8b8a4df2b1c9be919badceb", func := "unison/unisonlaw10.LinkRoom", spec := "linkRoom", apart := false }
def LinkRoomSaid : Prop := linkRoomRow.holds Try.pinned (OpenSpec.ofChange linkRoomSpec)

/-- ITS FALSE NEIGHBOUR: 'it returns false'. Refute it at one input. -/
def linkRoomWrong : ChangeSpec := { name := "linkRoom", fn := fun _ => fun
  | [d1, d2, d3] => { results := [.lit (.bool false)], args := [d1, d2, d3] }
  | _ => none }
def LinkRoomWrongFalsely : Prop := linkRoomRow.holds Try.pinned (OpenSpec.ofChange linkRoomWrong)

/- THE SECOND FORM. 'bulk': how many values and letters a reading holds, each counted each time it is reached (what is shared counts as often as it is met; a slice's spare places count too). A statement '..UptoSaid' is the law's where the arguments, and the package variables that the reading takes, are together of bulk at most 1048576: NARROWER than '..Said'. Prove '..Said' where nothing that the law and all that it calls make is longer than what came in: it says more and counts as full. Else prove '..UptoSaid'. A law counts once. -/
mutual
def uptoBulk {H : Type} : DataW H → Nat
  | .lit (.string bytes) => bytes.length + 1
  | .lit _ => 1
  | .nil => 1
  | .ptr d => uptoBulk d + 1
  | .slice elems spare => uptoBulkAll elems + uptoBulkAll spare + 1
  | .agg parts => uptoBulkAll parts + 1
  | .iface _ d => uptoBulk d + 1
  | .map entries => uptoBulkEntries entries + 1
  | .held _ => 1
def uptoBulkAll {H : Type} : List (DataW H) → Nat
  | [] => 0
  | d :: r => uptoBulk d + uptoBulkAll r
def uptoBulkEntries {H : Type} : List (Lit × DataW H) → Nat
  | [] => 0
  | x :: r => uptoBulkEntry x + uptoBulkEntries r
def uptoBulkEntry {H : Type} : Lit × DataW H → Nat
  | (.string bytes, d) => bytes.length + uptoBulk d + 1
  | (_, d) => uptoBulk d + 1
 end
def uptoSmall : (H : Type) → List (DataW H) → Bool := fun _ ds => decide (uptoBulkAll ds ≤ 1048576)
def OpenSpec.upto (s : _root_.Go.ChangeSpec) : _root_.Go.OpenSpec := { _root_.Go.OpenSpec.ofChange s with cond := some uptoSmall }

/-- 'unisonlaw10.LinkPlays', WHERE WHAT IT READS IS OF BULK AT MOST 1048576: true; the input reads as it did. -/
def linkPlaysUptoRow : OpenClaim := { program := "ytbkkpimhoeagdaa", sum := "7cf31c8b7d13bae30b58133abce4e28e9131131dc8b8a4df2b1c9be919badceb", func := "unison/unisonlaw10.LinkPlays", spec := "linkPlays", apart := false, narrowed := true }
def LinkPlaysUptoSaid : Prop := linkPlaysUptoRow.holds Try.pinned (OpenSpec.upto linkPlaysSpec)

/-- 'unisonlaw10.LinkFifo', WHERE WHAT IT READS IS OF BULK AT MOST 1048576: true; the input reads as it did. -/
def linkFifoUptoRow : OpenClaim := { program := "ytbkkpimhoeagdaa", sum := "7cf31c8b7d13bae30b58133abce4e28e9131131dc8b8a4df2b1c9be919badceb", func := "unison/unisonlaw10.LinkFifo", spec := "linkFifo", apart := false, narrowed := true }
def LinkFifoUptoSaid : Prop := linkFifoUptoRow.holds Try.pinned (OpenSpec.upto linkFifoSpec)

/-- 'unisonlaw10.LinkAll', WHERE WHAT IT READS IS OF BULK AT MOST 1048576: true; the input reads as it did. -/
def linkAllUptoRow : OpenClaim := { program := "ytbkkpimhoeagdaa", sum := "7cf31c8b7d13bae30b58133abce4e28e9131131dc8b8a4df2b1c9be919badceb", func := "unison/unisonlaw10.LinkAll", spec := "linkAll", apart := false, narrowed := true }
def LinkAllUptoSaid : Prop := linkAllUptoRow.holds Try.pinned (OpenSpec.upto linkAllSpec)

/-- 'unisonlaw10.LinkNil', WHERE WHAT IT READS IS OF BULK AT MOST 1048576: true; the input reads as it did. -/
def linkNilUptoRow : OpenClaim := { program := "ytbkkpimhoeagdaa", sum := "7cf31c8b7d13bae30b58133abce4e28e9131131dc8b8a4df2b1c9be919badceb", func := "unison/unisonlaw10.LinkNil", spec := "linkNil", apart := false, narrowed := true }
def LinkNilUptoSaid : Prop := linkNilUptoRow.holds Try.pinned (OpenSpec.upto linkNilSpec)

/-- 'unisonlaw10.LinkIdle', WHERE WHAT IT READS IS OF BULK AT MOST 1048576: true; the input reads as it did. -/
def linkIdleUptoRow : OpenClaim := { program := "ytbkkpimhoeagdaa", sum := "7cf31c8b7d13bae30b58133abce4e28e9131131dc8b8a4df2b1c9be919badceb", func := "unison/unisonlaw10.LinkIdle", spec := "linkIdle", apart := false, narrowed := true }
def LinkIdleUptoSaid : Prop := linkIdleUptoRow.holds Try.pinned (OpenSpec.upto linkIdleSpec)

/-- 'unisonlaw10.LinkRoom', WHERE WHAT IT READS IS OF BULK AT MOST 1048576: true; the input reads as it did. -/
def linkRoomUptoRow : OpenClaim := { program := "ytbkkpimhoeagdaa", sum := "7cf31c8b7d13bae30b58133abce4e28e9131131dc8b8a4df2b1c9be919badceb", func := "unison/unisonlaw10.LinkRoom", spec := "linkRoom", apart := false, narrowed := true }
def LinkRoomUptoSaid : Prop := linkRoomUptoRow.holds Try.pinned (OpenSpec.upto linkRoomSpec)

end Rows
end Go.Proofs.Ytbkkpimhoeagdaa
