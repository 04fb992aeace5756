/-
  No cell of these rows narrows 'for every input' (looked for: loops, veiled, ifaces, maps, wideKeys, modest, calm, conditions, laid).
  DERIVED. THE GIVEN ROWS OF THIS SEAT. 4 by the template 'for every input the law returns true; each argument reads behind the call as it read before'; 0 by the template 'total and deterministic' (their statements: YtfkpffkickicmaaTotals.lean).
  GIVEN WITH THE SEED: the statements are not yours to turn. If you find one false, say at which input.
  Laid BY PROGRAM, IN A SANDBOX (cutbox-rows.mjs): the forced cells as the released guide's own fill.sh prints them over the translation cb926b0e911cf880… (all of the seat's roots in one cut). By AI agents, Wed Nov 11 2026. No macro, syntax, notation, axiom, sorry.
-/
import Derived.Test.YtfkpffkickicmaaChecked
import GoSem.Claim
import GoSem.ClaimJoined
import GoSem.ClaimMapViews
import Derived.JoinedTies
import Derived.KernelRfl
namespace Go.Proofs.Ytfkpffkickicmaa
/- THE CELL 'sum', in the pinned program and in every row, IS THE sha256 OF THE DUMP (.gsa) THAT YtfkpffkickicmaaProg.lean LOADS. Nothing in Lean hashes anything: it is a label: what it is worth is what the hold of that sum in a sandbox is worth. -/
noncomputable def Try.pinned : Pinned := { name := "ytfkpffkickicmaa", sum := "cb926b0e911cf880b9e3274aada90da8e145421cdbacb86c659e3205f6a72a4a", checked := Try.checked }
namespace Rows
def none {H : Type} : Left H := { results := [], args := [] }

/-- 'unisonlaw05.BatchIs': WHATEVER THE INPUT: true; the input reads as it did. -/
def batchIsSpec : ChangeSpec := { name := "batchIs", fn := fun _ => fun
  | [d1, d2, d3, d4] => { results := [.lit (.bool true)], args := [d1, d2, d3, d4] }
  | _ => none }
def batchIsRow : OpenClaim := { program := "ytfkpffkickicmaa", sum := "cb926b0e911cf880b9e3274aada90da8e145421cdbacb86c659e3205f6a72a4a", func := "unison/unisonlaw05.BatchIs", spec := "batchIs", unfollowed := true, recurses := true, apart := false }
def BatchIsSaid : Prop := batchIsRow.holds Try.pinned (OpenSpec.ofChange batchIsSpec)

/-- ITS FALSE NEIGHBOUR: 'it returns false'. Refute it at one input. -/
def batchIsWrong : ChangeSpec := { name := "batchIs", fn := fun _ => fun
  | [d1, d2, d3, d4] => { results := [.lit (.bool false)], args := [d1, d2, d3, d4] }
  | _ => none }
def BatchIsWrongFalsely : Prop := batchIsRow.holds Try.pinned (OpenSpec.ofChange batchIsWrong)

/-- 'unisonlaw05.BatchNext': WHATEVER THE INPUT: true; the input reads as it did. -/
def batchNextSpec : ChangeSpec := { name := "batchNext", fn := fun _ => fun
  | [d1, d2, d3] => { results := [.lit (.bool true)], args := [d1, d2, d3] }
  | _ => none }
def batchNextRow : OpenClaim := { program := "ytfkpffkickicmaa", sum := "cb926b0e911cf880b9e3274aada90da8e145421cdbacb86c659e3205f6a72a4a", func := "unison/unisonlaw05.BatchNext", spec := "batchNext", unfollowed := true, recurses := true, apart := false }
def BatchNextSaid : Prop := batchNextRow.holds Try.pinned (OpenSpec.ofChange batchNextSpec)

/-- ITS FALSE NEIGHBOUR: 'it returns false'. Refute it at one input. -/
def batchNextWrong : ChangeSpec := { name := "batchNext", fn := fun _ => fun
  | [d1, d2, d3] => { results := [.lit (.bool false)], args := [d1, d2, d3] }
  | _ => none }
def BatchNextWrongFalsely : Prop := batchNextRow.holds Try.pinned (OpenSpec.ofChange batchNextWrong)

/-- 'unisonlaw05.BatchFair': WHATEVER THE INPUT: true; the input reads as it did. -/
def batchFairSpec : ChangeSpec := { name := "batchFair", fn := fun _ => fun
  | [d1, d2, d3] => { results := [.lit (.bool true)], args := [d1, d2, d3] }
  | _ => none }
def batchFairRow : OpenClaim := { program := "ytfkpffkickicmaa", sum := "cb926b0e911cf880b9e3274aada90da8e145421cdbacb86c659e3205f6a72a4a", func := "unison/unisonlaw05.BatchFair", spec := "batchFair", unfollowed := true, recurses := true, apart := false }
def BatchFairSaid : Prop := batchFairRow.holds Try.pinned (OpenSpec.ofChange batchFairSpec)

/-- ITS FALSE NEIGHBOUR: 'it returns false'. Refute it at one input. -/
def batchFairWrong : ChangeSpec := { name := "batchFair", fn := fun _ => fun
  | [d1, d2, d3] => { results := [.lit (.bool false)], args := [d1, d2, d3] }
  | _ => none }
def BatchFairWrongFalsely : Prop := batchFairRow.holds Try.pinned (OpenSpec.ofChange batchFairWrong)

/-- 'unisonlaw05.BatchOrders': WHATEVER THE INPUT: true; the input reads as it did. -/
def batchOrdersSpec : ChangeSpec := { name := "batchOrders", fn := fun _ => fun
  | [d1, d2] => { results := [.lit (.bool true)], args := [d1, d2] }
  | _ => none }
def batchOrdersRow : OpenClaim := { program := "ytfkpffkickicmaa", sum := "cb926b0e911cf880b9e3274aada90da8e145421cdbacb86c659e3205f6a72a4a", func := "unison/unisonlaw05.BatchOrders", spec := "batchOrders", unfollowed := true, recurses := true, apart := false }
def BatchOrdersSaid : Prop := batchOrdersRow.holds Try.pinned (OpenSpec.ofChange batchOrdersSpec)

/-- ITS FALSE NEIGHBOUR: 'it returns false'. Refute it at one input. -/
def batchOrdersWrong : ChangeSpec := { name := "batchOrders", fn := fun _ => fun
  | [d1, d2] => { results := [.lit (.bool false)], args := [d1, d2] }
  | _ => none }
def BatchOrdersWrongFalsely : Prop := batchOrdersRow.holds Try.pinned (OpenSpec.ofChange batchOrdersWrong)

/- THE SECOND FORM. 'bulk': how many values and letters a reading holds, each counted each time it is reached (what is shared counts as often as it is met; a slice's spare places count too). A statement '..UptoSaid' is the law's where the arguments, and the package variables that the reading takes, are together of bulk at most 1048576: NARROWER than '..Said'. Prove '..Said' where nothing that the law and all that it calls make is longer than what came in: it says more and counts as full. Else prove '..UptoSaid'. A law counts once. -/
mutual
def uptoBulk {H : Type} : DataW H → Nat
  | .lit (.string bytes) => bytes.length + 1
  | .lit _ => 1
  | .nil => 1
  | .ptr d => uptoBulk d + 1
  | .slice elems spare => uptoBulkAll elems + uptoBulkAll spare + 1
  | .agg parts => uptoBulkAll parts + 1
  | .iface _ d => uptoBulk d + 1
  | .map entries => uptoBulkEntries entries + 1
  | .held _ => 1
def uptoBulkAll {H : Type} : List (DataW H) → Nat
  | [] => 0
  | d :: r => uptoBulk d + uptoBulkAll r
def uptoBulkEntries {H : Type} : List (Lit × DataW H) → Nat
  | [] => 0
  | x :: r => uptoBulkEntry x + uptoBulkEntries r
def uptoBulkEntry {H : Type} : Lit × DataW H → Nat
  | (.string bytes, d) => bytes.length + uptoBulk d + 1
  | (_, d) => uptoBulk d + 1
 end
def uptoSmall : (H : Type) → List (DataW H) → Bool := fun _ ds => decide (uptoBulkAll ds ≤ 1048576)
def OpenSpec.upto (s : _root_.Go.ChangeSpec) : _root_.Go.OpenSpec := { _root_.Go.OpenSpec.ofChange s with cond := some uptoSmall }

/-- 'unisonlaw05.BatchIs', WHERE WHAT IT READS IS OF BULK AT MOST 1048576: true; the input reads as it did. -/
def batchIsUptoRow : OpenClaim := { program := "ytfkpffkickicmaa", sum := "cb926b0e911cf880b9e3274aada90da8e145421cdbacb86c659e3205f6a72a4a", func := "unison/unisonlaw05.BatchIs", spec := "batchIs", unfollowed := true, recurses := true, apart := false, narrowed := true }
def BatchIsUptoSaid : Prop := batchIsUptoRow.holds Try.pinned (OpenSpec.upto batchIsSpec)

/-- 'unisonlaw05.BatchNext', WHERE WHAT IT READS IS OF BULK AT MOST 1048576: true; the input reads as it did. -/
def batchNextUptoRow : OpenClaim := { program := "ytfkpffkickicmaa", sum := "cb926b0e911cf880b9e3274aada90da8e145421cdbacb86c659e3205f6a72a4a", func := "unison/unisonlaw05.BatchNext", spec := "batchNext", unfollowed := true, recurses := true, apart := false, narrowed := true }
def BatchNextUptoSaid : Prop := batchNextUptoRow.holds Try.pinned (OpenSpec.upto batchNextSpec)

/-- 'unisonlaw05.BatchFair', WHERE WHAT IT READS IS OF BULK AT MOST 1048576: true; the input reads as it did. -/
def batchFairUptoRow : OpenClaim := { program := "ytfkpffkickicmaa", sum := "cb926b0e911cf880b9e3274aada90da8e145421cdbacb86c659e3205f6a72a4a", func := "unison/unisonlaw05.BatchFair", spec := "batchFair", unfollowed := true, recurses := true, apart := false, narrowed := true }
def BatchFairUptoSaid : Prop := batchFairUptoRow.holds Try.pinned (OpenSpec.upto batchFairSpec)

/-- 'unisonlaw05.BatchOrders', WHERE WHAT IT READS IS OF BULK AT MOST 1048576: true; the input reads as it did. -/
def batchOrdersUptoRow : OpenClaim := { program := "ytfkpffkickicmaa", sum := "cb926b0e911cf880b9e3274aada90da8e145421cdbacb86c659e3205f6a72a4a", func := "unison/unisonlaw05.BatchOrders", spec := "batchOrders", unfollowed := true, recurses := true, apart := false, narrowed := true }
def BatchOrdersUptoSaid : Prop := batchOrdersUptoRow.holds Try.pinned (OpenSpec.upto batchOrdersSpec)

end Rows
end Go.Proofs.Ytfkpffkickicmaa
