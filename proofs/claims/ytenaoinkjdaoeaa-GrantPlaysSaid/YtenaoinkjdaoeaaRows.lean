/-
  No cell of these rows narrows 'for every input' (looked for: loops, veiled, ifaces, maps, wideKeys, modest, calm, conditions, laid).
  DERIVED. THE GIVEN ROWS OF THIS SEAT. 4 by the template 'for every input the law returns true; each argument reads behind the call as it read before'; 0 by the template 'total and deterministic' (their statements: YtenaoinkjdaoeaaTotals.lean).
  GIVEN WITH THE SEED: the statements are not yours to turn. If you find one false, say at which input.
  Laid BY PROGRAM, IN A SANDBOX (cutbox-rows.mjs): the forced cells as the released guide's own fill.sh prints them over the translation fe042171fc0c1236… (all of the seat's roots in one cut). By AI agents, Wed Nov 11 2026. No macro, syntax, notation, axiom, sorry.
-/
import Derived.Test.YtenaoinkjdaoeaaChecked
import GoSem.Claim
import GoSem.ClaimJoined
import GoSem.ClaimMapViews
import Derived.JoinedTies
import Derived.KernelRfl
namespace Go.Proofs.Ytenaoinkjdaoeaa
/- THE CELL 'sum', in the pinned program and in every row, IS THE sha256 OF THE DUMP (.gsa) THAT YtenaoinkjdaoeaaProg.lean LOADS. Nothing in Lean hashes anything: it is a label: what it is worth is what the hold of that sum in a sandbox is worth. -/
noncomputable def Try.pinned : Pinned := { name := "ytenaoinkjdaoeaa", sum := "fe042171fc0c1236ac26bbf65baf1f1e7ca9d0eac904362d4bae0dd40fdeda60", checked := Try.checked }
namespace Rows
def none {H : Type} : Left H := { results := [], args := [] }

/-- 'unisonlaw17.GrantPlays': WHATEVER THE INPUT: true; the input reads as it did. -/
def grantPlaysSpec : ChangeSpec := { name := "grantPlays", fn := fun _ => fun
  | [d1, d2, d3, d4] => { results := [.lit (.bool true)], args := [d1, d2, d3, d4] }
  | _ => none }
def grantPlaysRow : OpenClaim := { program := "ytenaoinkjdaoeaa", sum := "fe042171fc0c1236ac26bbf65baf1f1e7ca9d0eac904362d4bae0dd40fdeda60", func := "unison/unisonlaw17.GrantPlays", spec := "grantPlays", apart := false }
def GrantPlaysSaid : Prop := grantPlaysRow.holds Try.pinned (OpenSpec.ofChange grantPlaysSpec)

/-- ITS FALSE NEIGHBOUR: 'it returns false'. Refute it at one input. -/
def grantPlaysWrong : ChangeSpec := { name := "grantPlays", fn := fun _ => fun
  | [d1, d2, d3, d4] => { results := [.lit (.bool false)], args := [d1, d2, d3, d4] }
  | _ => none }
def GrantPlaysWrongFalsely : Prop := grantPlaysRow.holds Try.pinned (OpenSpec.ofChange grantPlaysWrong)

/-- 'unisonlaw17.GrantRises': WHATEVER THE INPUT: true; the input reads as it did. -/
def grantRisesSpec : ChangeSpec := { name := "grantRises", fn := fun _ => fun
  | [d1, d2, d3] => { results := [.lit (.bool true)], args := [d1, d2, d3] }
  | _ => none }
def grantRisesRow : OpenClaim := { program := "ytenaoinkjdaoeaa", sum := "fe042171fc0c1236ac26bbf65baf1f1e7ca9d0eac904362d4bae0dd40fdeda60", func := "unison/unisonlaw17.GrantRises", spec := "grantRises", apart := false }
def GrantRisesSaid : Prop := grantRisesRow.holds Try.pinned (OpenSpec.ofChange grantRisesSpec)

/-- ITS FALSE NEIGHBOUR: 'it returns false'. Refute it at one input. -/
def grantRisesWrong : ChangeSpec := { name := "grantRises", fn := fun _ => fun
  | [d1, d2, d3] => { results := [.lit (.bool false)], args := [d1, d2, d3] }
  | _ => none }
def GrantRisesWrongFalsely : Prop := grantRisesRow.holds Try.pinned (OpenSpec.ofChange grantRisesWrong)

/-- 'unisonlaw17.GrantTurns': WHATEVER THE INPUT: true; the input reads as it did. -/
def grantTurnsSpec : ChangeSpec := { name := "grantTurns", fn := fun _ => fun
  | [d1, d2, d3] => { results := [.lit (.bool true)], args := [d1, d2, d3] }
  | _ => none }
def grantTurnsRow : OpenClaim := { program := "ytenaoinkjdaoeaa", sum := "fe042171fc0c1236ac26bbf65baf1f1e7ca9d0eac904362d4bae0dd40fdeda60", func := "unison/unisonlaw17.GrantTurns", spec := "grantTurns", apart := false }
def GrantTurnsSaid : Prop := grantTurnsRow.holds Try.pinned (OpenSpec.ofChange grantTurnsSpec)

/-- ITS FALSE NEIGHBOUR: 'it returns false'. Refute it at one input. -/
def grantTurnsWrong : ChangeSpec := { name := "grantTurns", fn := fun _ => fun
  | [d1, d2, d3] => { results := [.lit (.bool false)], args := [d1, d2, d3] }
  | _ => none }
def GrantTurnsWrongFalsely : Prop := grantTurnsRow.holds Try.pinned (OpenSpec.ofChange grantTurnsWrong)

/-- 'unisonlaw17.GrantNil': WHATEVER THE INPUT: true; the input reads as it did. -/
def grantNilSpec : ChangeSpec := { name := "grantNil", fn := fun _ => fun
  | [d1, d2] => { results := [.lit (.bool true)], args := [d1, d2] }
  | _ => none }
def grantNilRow : OpenClaim := { program := "ytenaoinkjdaoeaa", sum := "fe042171fc0c1236ac26bbf65baf1f1e7ca9d0eac904362d4bae0dd40fdeda60", func := "unison/unisonlaw17.GrantNil", spec := "grantNil", apart := false }
def GrantNilSaid : Prop := grantNilRow.holds Try.pinned (OpenSpec.ofChange grantNilSpec)

/-- ITS FALSE NEIGHBOUR: 'it returns false'. Refute it at one input. -/
def grantNilWrong : ChangeSpec := { name := "grantNil", fn := fun _ => fun
  | [d1, d2] => { results := [.lit (.bool false)], args := [d1, d2] }
  | _ => none }
def GrantNilWrongFalsely : Prop := grantNilRow.holds Try.pinned (OpenSpec.ofChange grantNilWrong)

/- THE SECOND FORM. 'bulk': how many values and letters a reading holds, each counted each time it is reached (what is shared counts as often as it is met; a slice's spare places count too). A statement '..UptoSaid' is the law's where the arguments, and the package variables that the reading takes, are together of bulk at most 1048576: NARROWER than '..Said'. Prove '..Said' where nothing that the law and all that it calls make is longer than what came in: it says more and counts as full. Else prove '..UptoSaid'. A law counts once. -/
mutual
def uptoBulk {H : Type} : DataW H → Nat
  | .lit (.string bytes) => bytes.length + 1
  | .lit _ => 1
  | .nil => 1
  | .ptr d => uptoBulk d + 1
  | .slice elems spare => uptoBulkAll elems + uptoBulkAll spare + 1
  | .agg parts => uptoBulkAll parts + 1
  | .iface _ d => uptoBulk d + 1
  | .map entries => uptoBulkEntries entries + 1
  | .held _ => 1
def uptoBulkAll {H : Type} : List (DataW H) → Nat
  | [] => 0
  | d :: r => uptoBulk d + uptoBulkAll r
def uptoBulkEntries {H : Type} : List (Lit × DataW H) → Nat
  | [] => 0
  | x :: r => uptoBulkEntry x + uptoBulkEntries r
def uptoBulkEntry {H : Type} : Lit × DataW H → Nat
  | (.string bytes, d) => bytes.length + uptoBulk d + 1
  | (_, d) => uptoBulk d + 1
 end
def uptoSmall : (H : Type) → List (DataW H) → Bool := fun _ ds => decide (uptoBulkAll ds ≤ 1048576)
def OpenSpec.upto (s : _root_.Go.ChangeSpec) : _root_.Go.OpenSpec := { _root_.Go.OpenSpec.ofChange s with cond := some uptoSmall }

/-- 'unisonlaw17.GrantPlays', WHERE WHAT IT READS IS OF BULK AT MOST 1048576: true; the input reads as it did. -/
def grantPlaysUptoRow : OpenClaim := { program := "ytenaoinkjdaoeaa", sum := "fe042171fc0c1236ac26bbf65baf1f1e7ca9d0eac904362d4bae0dd40fdeda60", func := "unison/unisonlaw17.GrantPlays", spec := "grantPlays", apart := false, narrowed := true }
def GrantPlaysUptoSaid : Prop := grantPlaysUptoRow.holds Try.pinned (OpenSpec.upto grantPlaysSpec)

/-- 'unisonlaw17.GrantRises', WHERE WHAT IT READS IS OF BULK AT MOST 1048576: true; the input reads as it did. -/
def grantRisesUptoRow : OpenClaim := { program := "ytenaoinkjdaoeaa", sum := "fe042171fc0c1236ac26bbf65baf1f1e7ca9d0eac904362d4bae0dd40fdeda60", func := "unison/unisonlaw17.GrantRises", spec := "grantRises", apart := false, narrowed := true }
def GrantRisesUptoSaid : Prop := grantRisesUptoRow.holds Try.pinned (OpenSpec.upto grantRisesSpec)

/-- 'unisonlaw17.GrantTurns', WHERE WHAT IT READS IS OF BULK AT MOST 1048576: true; the input reads as it did. -/
def grantTurnsUptoRow : OpenClaim := { program := "ytenaoinkjdaoeaa", sum := "fe042171fc0c1236ac26bbf65baf1f1e7ca9d0eac904362d4bae0dd40fdeda60", func := "unison/unisonlaw17.GrantTurns", spec := "grantTurns", apart := false, narrowed := true }
def GrantTurnsUptoSaid : Prop := grantTurnsUptoRow.holds Try.pinned (OpenSpec.upto grantTurnsSpec)

/-- 'unisonlaw17.GrantNil', WHERE WHAT IT READS IS OF BULK AT MOST 1048576: true; the input reads as it did. -/
def grantNilUptoRow : OpenClaim := { program := "ytenaoinkjdaoeaa", sum := "fe042171fc0c1236ac26bbf65baf1f1e7ca9d0eac904362d4bae0dd40fdeda60", func := "unison/unisonlaw17.GrantNil", spec := "grantNil", apart := false, narrowed := true }
def GrantNilUptoSaid : Prop := grantNilUptoRow.holds Try.pinned (OpenSpec.upto grantNilSpec)

end Rows
end Go.Proofs.Ytenaoinkjdaoeaa
