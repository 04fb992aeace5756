/-
  No cell of these rows narrows 'for every input' (looked for: loops, veiled, ifaces, maps, wideKeys, modest, calm, conditions, laid).
  DERIVED. THE GIVEN ROWS OF THIS SEAT. 4 by the template 'for every input the law returns true; each argument reads behind the call as it read before'; 0 by the template 'total and deterministic' (their statements: YtohlgjkblcopoaaTotals.lean).
  GIVEN WITH THE SEED: the statements are not yours to turn. If you find one false, say at which input.
  Laid BY PROGRAM, IN A SANDBOX (cutbox-rows.mjs): the forced cells as the released guide's own fill.sh prints them over the translation 0e576d1612a95a5e… (all of the seat's roots in one cut). By AI agents, Wed Nov 11 2026. No macro, syntax, notation, axiom, sorry.
-/
import Derived.Test.YtohlgjkblcopoaaChecked
import GoSem.Claim
import GoSem.ClaimJoined
import GoSem.ClaimMapViews
import Derived.JoinedTies
import Derived.KernelRfl
namespace Go.Proofs.Ytohlgjkblcopoaa
/- THE CELL 'sum', in the pinned program and in every row, IS THE sha256 OF THE DUMP (.gsa) THAT YtohlgjkblcopoaaProg.lean LOADS. Nothing in Lean hashes anything: it is a label: what it is worth is what the hold of that sum in a sandbox is worth. -/
noncomputable def Try.pinned : Pinned := { name := "ytohlgjkblcopoaa", sum := "0e576d1612a95a5eb020387edfe79d19ec014858894fa7332e551232c5a59437", checked := Try.checked }
namespace Rows
def none {H : Type} : Left H := { results := [], args := [] }

/-- 'unisonlaw08.SlidePlays': WHATEVER THE INPUT: true; the input reads as it did. -/
def slidePlaysSpec : ChangeSpec := { name := "slidePlays", fn := fun _ => fun
  | [d1, d2, d3, d4] => { results := [.lit (.bool true)], args := [d1, d2, d3, d4] }
  | _ => none }
def slidePlaysRow : OpenClaim := { program := "ytohlgjkblcopoaa", sum := "0e576d1612a95a5eb020387edfe79d19ec014858894fa7332e551232c5a59437", func := "unison/unisonlaw08.SlidePlays", spec := "slidePlays", apart := false }
def SlidePlaysSaid : Prop := slidePlaysRow.holds Try.pinned (OpenSpec.ofChange slidePlaysSpec)

/-- ITS FALSE NEIGHBOUR: 'it returns false'. Refute it at one input. -/
def slidePlaysWrong : ChangeSpec := { name := "slidePlays", fn := fun _ => fun
  | [d1, d2, d3, d4] => { results := [.lit (.bool false)], args := [d1, d2, d3, d4] }
  | _ => none }
def SlidePlaysWrongFalsely : Prop := slidePlaysRow.holds Try.pinned (OpenSpec.ofChange slidePlaysWrong)

/-- 'unisonlaw08.SlideGoes': WHATEVER THE INPUT: true; the input reads as it did. -/
def slideGoesSpec : ChangeSpec := { name := "slideGoes", fn := fun _ => fun
  | [d1, d2, d3] => { results := [.lit (.bool true)], args := [d1, d2, d3] }
  | _ => none }
def slideGoesRow : OpenClaim := { program := "ytohlgjkblcopoaa", sum := "0e576d1612a95a5eb020387edfe79d19ec014858894fa7332e551232c5a59437", func := "unison/unisonlaw08.SlideGoes", spec := "slideGoes", apart := false }
def SlideGoesSaid : Prop := slideGoesRow.holds Try.pinned (OpenSpec.ofChange slideGoesSpec)

/-- ITS FALSE NEIGHBOUR: 'it returns false'. Refute it at one input. -/
def slideGoesWrong : ChangeSpec := { name := "slideGoes", fn := fun _ => fun
  | [d1, d2, d3] => { results := [.lit (.bool false)], args := [d1, d2, d3] }
  | _ => none }
def SlideGoesWrongFalsely : Prop := slideGoesRow.holds Try.pinned (OpenSpec.ofChange slideGoesWrong)

/-- 'unisonlaw08.SlideOwn': WHATEVER THE INPUT: true; the input reads as it did. -/
def slideOwnSpec : ChangeSpec := { name := "slideOwn", fn := fun _ => fun
  | [d] => { results := [.lit (.bool true)], args := [d] }
  | _ => none }
def slideOwnRow : OpenClaim := { program := "ytohlgjkblcopoaa", sum := "0e576d1612a95a5eb020387edfe79d19ec014858894fa7332e551232c5a59437", func := "unison/unisonlaw08.SlideOwn", spec := "slideOwn", apart := false }
def SlideOwnSaid : Prop := slideOwnRow.holds Try.pinned (OpenSpec.ofChange slideOwnSpec)

/-- ITS FALSE NEIGHBOUR: 'it returns false'. Refute it at one input. -/
def slideOwnWrong : ChangeSpec := { name := "slideOwn", fn := fun _ => fun
  | [d] => { results := [.lit (.bool false)], args := [d] }
  | _ => none }
def SlideOwnWrongFalsely : Prop := slideOwnRow.holds Try.pinned (OpenSpec.ofChange slideOwnWrong)

/-- 'unisonlaw08.SlideNil': WHATEVER THE INPUT: true; the input reads as it did. -/
def slideNilSpec : ChangeSpec := { name := "slideNil", fn := fun _ => fun
  | [d1, d2] => { results := [.lit (.bool true)], args := [d1, d2] }
  | _ => none }
def slideNilRow : OpenClaim := { program := "ytohlgjkblcopoaa", sum := "0e576d1612a95a5eb020387edfe79d19ec014858894fa7332e551232c5a59437", func := "unison/unisonlaw08.SlideNil", spec := "slideNil", apart := false }
def SlideNilSaid : Prop := slideNilRow.holds Try.pinned (OpenSpec.ofChange slideNilSpec)

/-- ITS FALSE NEIGHBOUR: 'it returns false'. Refute it at one input. -/
def slideNilWrong : ChangeSpec := { name := "slideNil", fn := fun _ => fun
  | [d1, d2] => { results := [.lit (.bool false)], args := [d1, d2] }
  | _ => none }
def SlideNilWrongFalsely : Prop := slideNilRow.holds Try.pinned (OpenSpec.ofChange slideNilWrong)

/- THE SECOND FORM. 'bulk': how many values and letters a reading holds, each counted each time it is reached (what is shared counts as often as it is met; a slice's spare places count too). A statement '..UptoSaid' is the law's where the arguments, and the package variables that the reading takes, are together of bulk at most 1048576: NARROWER than '..Said'. Prove '..Said' where nothing that the law and all that it calls make is longer than what came in: it says more and counts as full. Else prove '..UptoSaid'. A law counts once. -/
mutual
def uptoBulk {H : Type} : DataW H → Nat
  | .lit (.string bytes) => bytes.length + 1
  | .lit _ => 1
  | .nil => 1
  | .ptr d => uptoBulk d + 1
  | .slice elems spare => uptoBulkAll elems + uptoBulkAll spare + 1
  | .agg parts => uptoBulkAll parts + 1
  | .iface _ d => uptoBulk d + 1
  | .map entries => uptoBulkEntries entries + 1
  | .held _ => 1
def uptoBulkAll {H : Type} : List (DataW H) → Nat
  | [] => 0
  | d :: r => uptoBulk d + uptoBulkAll r
def uptoBulkEntries {H : Type} : List (Lit × DataW H) → Nat
  | [] => 0
  | x :: r => uptoBulkEntry x + uptoBulkEntries r
def uptoBulkEntry {H : Type} : Lit × DataW H → Nat
  | (.string bytes, d) => bytes.length + uptoBulk d + 1
  | (_, d) => uptoBulk d + 1
 end
def uptoSmall : (H : Type) → List (DataW H) → Bool := fun _ ds => decide (uptoBulkAll ds ≤ 1048576)
def OpenSpec.upto (s : _root_.Go.ChangeSpec) : _root_.Go.OpenSpec := { _root_.Go.OpenSpec.ofChange s with cond := some uptoSmall }

/-- 'unisonlaw08.SlidePlays', WHERE WHAT IT READS IS OF BULK AT MOST 1048576: true; the input reads as it did. -/
def slidePlaysUptoRow : OpenClaim := { program := "ytohlgjkblcopoaa", sum := "0e576d1612a95a5eb020387edfe79d19ec014858894fa7332e551232c5a59437", func := "unison/unisonlaw08.SlidePlays", spec := "slidePlays", apart := false, narrowed := true }
def SlidePlaysUptoSaid : Prop := slidePlaysUptoRow.holds Try.pinned (OpenSpec.upto slidePlaysSpec)

/-- 'unisonlaw08.SlideGoes', WHERE WHAT IT READS IS OF BULK AT MOST 1048576: true; the input reads as it did. -/
def slideGoesUptoRow : OpenClaim := { program := "ytohlgjkblcopoaa", sum := "0e576d1612a95a5eb020387edfe79d19ec014858894fa7332e551232c5a59437", func := "unison/unisonlaw08.SlideGoes", spec := "slideGoes", apart := false, narrowed := true }
def SlideGoesUptoSaid : Prop := slideGoesUptoRow.holds Try.pinned (OpenSpec.upto slideGoesSpec)

/-- 'unisonlaw08.SlideOwn', WHERE WHAT IT READS IS OF BULK AT MOST 1048576: true; the input reads as it did. -/
def slideOwnUptoRow : OpenClaim := { program := "ytohlgjkblcopoaa", sum := "0e576d1612a95a5eb020387edfe79d19ec014858894fa7332e551232c5a59437", func := "unison/unisonlaw08.SlideOwn", spec := "slideOwn", apart := false, narrowed := true }
def SlideOwnUptoSaid : Prop := slideOwnUptoRow.holds Try.pinned (OpenSpec.upto slideOwnSpec)

/-- 'unisonlaw08.SlideNil', WHERE WHAT IT READS IS OF BULK AT MOST 1048576: true; the input reads as it did. -/
def slideNilUptoRow : OpenClaim := { program := "ytohlgjkblcopoaa", sum := "0e576d1612a95a5eb020387edfe79d19ec014858894fa7332e551232c5a59437", func := "unison/unisonlaw08.SlideNil", spec := "slideNil", apart := false, narrowed := true }
def SlideNilUptoSaid : Prop := slideNilUptoRow.holds Try.pinned (OpenSpec.upto slideNilSpec)

end Rows
end Go.Proofs.Ytohlgjkblcopoaa
