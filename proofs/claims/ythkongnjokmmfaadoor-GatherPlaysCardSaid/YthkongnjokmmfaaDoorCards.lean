/-
  DERIVED. GIVEN WITH THE SEED: THE CARDS: each row of YthkongnjokmmfaaDoorRows.lean that lists a variable, with what it lists TIED to the program's text (the seventh form; the later family's looks); each row that meets fmt, with fmt's text TOLD by the authors' own Lean function (tested against real Go, not proved from fmt's source: count such statements apart). THE CARD IS WHAT COUNTS. Prove the row's statement (the work); the ties are given (YthkongnjokmmfaaDoorTie.lean); close each card by the builder's one call (the guide's Derived/Test/ToyasCard.lean, 'card_holds'). Laid BY PROGRAM, IN A SANDBOX (cutbox-door.mjs). By AI agents, Wed Nov 11 2026. No macro, syntax, notation, axiom, sorry.
-/
import Derived.Test.YthkongnjokmmfaaDoorRows
import GoSem.ClaimSeven
namespace Go.Proofs.YthkongnjokmmfaaDoor
namespace Rows

/-- THE TIED CARD OF 'unisonlaw13.GatherPlays'. -/
def gatherPlaysCard : Claim7 := { stood := { row := gatherPlaysRow, standIns := [], harness := (true, "4ec401279f5cfaa1b7f80471637e91cb48ad457134a0777ccdd318bd1040e962"), looks := false }, kinds := [], alts := [], laidByText := true, laidKinds := [.data], laidTests := true, laidLooks := .later }
def GatherPlaysCardSaid : Prop := Claim7.holds Tryd.pinned (.plain (OpenSpec.ofChange gatherPlaysSpec)) gatherPlaysCard

/-- THE TIED CARD OF 'unisonlaw13.GatherNil'. -/
def gatherNilCard : Claim7 := { stood := { row := gatherNilRow, standIns := [], harness := (true, "4ec401279f5cfaa1b7f80471637e91cb48ad457134a0777ccdd318bd1040e962"), looks := false }, kinds := [], alts := [], laidByText := true, laidKinds := [.data], laidTests := true, laidLooks := .later }
def GatherNilCardSaid : Prop := Claim7.holds Tryd.pinned (.plain (OpenSpec.ofChange gatherNilSpec)) gatherNilCard

/-- THE SECOND FORM's CARD OF 'unisonlaw13.GatherPlays'. -/
def gatherPlaysUptoCard : Claim7 := { stood := { row := gatherPlaysUptoRow, standIns := [], harness := (true, "4ec401279f5cfaa1b7f80471637e91cb48ad457134a0777ccdd318bd1040e962"), looks := false }, kinds := [], alts := [], laidByText := true, laidKinds := [.data], laidTests := true, laidLooks := .later }
def GatherPlaysUptoCardSaid : Prop := Claim7.holds Tryd.pinned (.plain (OpenSpec.upto gatherPlaysSpec)) gatherPlaysUptoCard

/-- THE SECOND FORM's CARD OF 'unisonlaw13.GatherNil'. -/
def gatherNilUptoCard : Claim7 := { stood := { row := gatherNilUptoRow, standIns := [], harness := (true, "4ec401279f5cfaa1b7f80471637e91cb48ad457134a0777ccdd318bd1040e962"), looks := false }, kinds := [], alts := [], laidByText := true, laidKinds := [.data], laidTests := true, laidLooks := .later }
def GatherNilUptoCardSaid : Prop := Claim7.holds Tryd.pinned (.plain (OpenSpec.upto gatherNilSpec)) gatherNilUptoCard
end Rows
end Go.Proofs.YthkongnjokmmfaaDoor
