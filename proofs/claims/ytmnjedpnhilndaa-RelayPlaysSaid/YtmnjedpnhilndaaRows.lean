/-
  No cell of these rows narrows 'for every input' (looked for: loops, veiled, ifaces, maps, wideKeys, modest, calm, conditions, laid).
  DERIVED. THE GIVEN ROWS OF THIS SEAT. 4 by the template 'for every input the law returns true; each argument reads behind the call as it read before'; 0 by the template 'total and deterministic' (their statements: YtmnjedpnhilndaaTotals.lean).
  GIVEN WITH THE SEED: the statements are not yours to turn. If you find one false, say at which input.
  Laid BY PROGRAM, IN A SANDBOX (cutbox-rows.mjs): the forced cells as the released guide's own fill.sh prints them over the translation 6bb9b8c1e7df5d11… (all of the seat's roots in one cut). By AI agents, Wed Nov 11 2026. No macro, syntax, notation, axiom, sorry.
-/
import Derived.Test.YtmnjedpnhilndaaChecked
import GoSem.Claim
import GoSem.ClaimJoined
import GoSem.ClaimMapViews
import Derived.JoinedTies
import Derived.KernelRfl
namespace Go.Proofs.Ytmnjedpnhilndaa
/- THE CELL 'sum', in the pinned program and in every row, IS THE sha256 OF THE DUMP (.gsa) THAT YtmnjedpnhilndaaProg.lean LOADS. Nothing in Lean hashes anything: it is a label: what it is worth is what the hold of that sum in a sandbox is worth. -/
noncomputable def Try.pinned : Pinned := { name := "ytmnjedpnhilndaa", sum := "6bb9b8c1e7df5d11315b91410b89aecd241f4f80d0b35dfc307e469634948a07", checked := Try.checked }
namespace Rows
def none {H : Type} : Left H := { results := [], args := [] }

/-- 'unisonlaw16.RelayPlays': WHATEVER THE INPUT: true; the input reads as it did. -/
def relayPlaysSpec : ChangeSpec := { name := "relayPlays", fn := fun _ => fun
  | [d1, d2] => { results := [.lit (.bool true)], args := [d1, d2] }
  | _ => none }
def relayPlaysRow : OpenClaim := { program := "ytmnjedpnhilndaa", sum := "6bb9b8c1e7df5d11315b91410b89aecd241f4f80d0b35dfc307e469634948a07", func := "unison/unisonlaw16.RelayPlays", spec := "relayPlays", unfollowed := true, recurses := true, plainKeys := false, apart := false }
def RelayPlaysSaid : Prop := relayPlaysRow.holds Try.pinned (OpenSpec.ofChange relayPlaysSpec)

/-- ITS FALSE NEIGHBOUR: 'it returns false'. Refute it at one input. -/
def relayPlaysWrong : ChangeSpec := { name := "relayPlays", fn := fun _ => fun
  | [d1, d2] => { results := [.lit (.bool false)], args := [d1, d2] }
  | _ => none }
def RelayPlaysWrongFalsely : Prop := relayPlaysRow.holds Try.pinned (OpenSpec.ofChange relayPlaysWrong)

/-- 'unisonlaw16.RelayOrder': WHATEVER THE INPUT: true; the input reads as it did. -/
def relayOrderSpec : ChangeSpec := { name := "relayOrder", fn := fun _ => fun
  | [d1, d2] => { results := [.lit (.bool true)], args := [d1, d2] }
  | _ => none }
def relayOrderRow : OpenClaim := { program := "ytmnjedpnhilndaa", sum := "6bb9b8c1e7df5d11315b91410b89aecd241f4f80d0b35dfc307e469634948a07", func := "unison/unisonlaw16.RelayOrder", spec := "relayOrder", plainKeys := false, apart := false }
def RelayOrderSaid : Prop := relayOrderRow.holds Try.pinned (OpenSpec.ofChange relayOrderSpec)

/-- ITS FALSE NEIGHBOUR: 'it returns false'. Refute it at one input. -/
def relayOrderWrong : ChangeSpec := { name := "relayOrder", fn := fun _ => fun
  | [d1, d2] => { results := [.lit (.bool false)], args := [d1, d2] }
  | _ => none }
def RelayOrderWrongFalsely : Prop := relayOrderRow.holds Try.pinned (OpenSpec.ofChange relayOrderWrong)

/-- 'unisonlaw16.RelayNil': WHATEVER THE INPUT: true; the input reads as it did. -/
def relayNilSpec : ChangeSpec := { name := "relayNil", fn := fun _ => fun
  | [d1, d2] => { results := [.lit (.bool true)], args := [d1, d2] }
  | _ => none }
def relayNilRow : OpenClaim := { program := "ytmnjedpnhilndaa", sum := "6bb9b8c1e7df5d11315b91410b89aecd241f4f80d0b35dfc307e469634948a07", func := "unison/unisonlaw16.RelayNil", spec := "relayNil", unfollowed := true, recurses := true, plainKeys := false, apart := false }
def RelayNilSaid : Prop := relayNilRow.holds Try.pinned (OpenSpec.ofChange relayNilSpec)

/-- ITS FALSE NEIGHBOUR: 'it returns false'. Refute it at one input. -/
def relayNilWrong : ChangeSpec := { name := "relayNil", fn := fun _ => fun
  | [d1, d2] => { results := [.lit (.bool false)], args := [d1, d2] }
  | _ => none }
def RelayNilWrongFalsely : Prop := relayNilRow.holds Try.pinned (OpenSpec.ofChange relayNilWrong)

/-- 'unisonlaw16.RelayRoom': WHATEVER THE INPUT: true; the input reads as it did. -/
def relayRoomSpec : ChangeSpec := { name := "relayRoom", fn := fun _ => fun
  | [d1, d2] => { results := [.lit (.bool true)], args := [d1, d2] }
  | _ => none }
def relayRoomRow : OpenClaim := { program := "ytmnjedpnhilndaa", sum := "6bb9b8c1e7df5d11315b91410b89aecd241f4f80d0b35dfc307e469634948a07", func := "unison/unisonlaw16.RelayRoom", spec := "relayRoom", plainKeys := false, apart := false }
def RelayRoomSaid : Prop := relayRoomRow.holds Try.pinned (OpenSpec.ofChange relayRoomSpec)

/-- ITS FALSE NEIGHBOUR: 'it returns false'. Refute it at one input. -/
def relayRoomWrong : ChangeSpec := { name := "relayRoom", fn := fun _ => fun
  | [d1, d2] => { results := [.lit (.bool false)], args := [d1, d2] }
  | _ => none }
def RelayRoomWrongFalsely : Prop := relayRoomRow.holds Try.pinned (OpenSpec.ofChange relayRoomWrong)

/- THE SECOND FORM. 'bulk': how many values and letters a reading holds, each counted each time it is reached (what is shared counts as often as it is met; a slice's spare places count too). A statement '..UptoSaid' is the law's where the arguments, and the package variables that the reading takes, are together of bulk at most 1048576: NARROWER than '..Said'. Prove '..Said' where nothing that the law and all that it calls make is longer than what came in: it says more and counts as full. Else prove '..UptoSaid'. A law counts once. -/
mutual
def uptoBulk {H : Type} : DataW H → Nat
  | .lit (.string bytes) => bytes.length + 1
  | .lit _ => 1
  | .nil => 1
  | .ptr d => uptoBulk d + 1
  | .slice elems spare => uptoBulkAll elems + uptoBulkAll spare + 1
  | .agg parts => uptoBulkAll parts + 1
  | .iface _ d => uptoBulk d + 1
  | .map entries => uptoBulkEntries entries + 1
  | .held _ => 1
def uptoBulkAll {H : Type} : List (DataW H) → Nat
  | [] => 0
  | d :: r => uptoBulk d + uptoBulkAll r
def uptoBulkEntries {H : Type} : List (Lit × DataW H) → Nat
  | [] => 0
  | x :: r => uptoBulkEntry x + uptoBulkEntries r
def uptoBulkEntry {H : Type} : Lit × DataW H → Nat
  | (.string bytes, d) => bytes.length + uptoBulk d + 1
  | (_, d) => uptoBulk d + 1
 end
def uptoSmall : (H : Type) → List (DataW H) → Bool := fun _ ds => decide (uptoBulkAll ds ≤ 1048576)
def OpenSpec.upto (s : _root_.Go.ChangeSpec) : _root_.Go.OpenSpec := { _root_.Go.OpenSpec.ofChange s with cond := some uptoSmall }

/-- 'unisonlaw16.RelayPlays', WHERE WHAT IT READS IS OF BULK AT MOST 1048576: true; the input reads as it did. -/
def relayPlaysUptoRow : OpenClaim := { program := "ytmnjedpnhilndaa", sum := "6bb9b8c1e7df5d11315b91410b89aecd241f4f80d0b35dfc307e469634948a07", func := "unison/unisonlaw16.RelayPlays", spec := "relayPlays", unfollowed := true, recurses := true, plainKeys := false, apart := false, narrowed := true }
def RelayPlaysUptoSaid : Prop := relayPlaysUptoRow.holds Try.pinned (OpenSpec.upto relayPlaysSpec)

/-- 'unisonlaw16.RelayOrder', WHERE WHAT IT READS IS OF BULK AT MOST 1048576: true; the input reads as it did. -/
def relayOrderUptoRow : OpenClaim := { program := "ytmnjedpnhilndaa", sum := "6bb9b8c1e7df5d11315b91410b89aecd241f4f80d0b35dfc307e469634948a07", func := "unison/unisonlaw16.RelayOrder", spec := "relayOrder", plainKeys := false, apart := false, narrowed := true }
def RelayOrderUptoSaid : Prop := relayOrderUptoRow.holds Try.pinned (OpenSpec.upto relayOrderSpec)

/-- 'unisonlaw16.RelayNil', WHERE WHAT IT READS IS OF BULK AT MOST 1048576: true; the input reads as it did. -/
def relayNilUptoRow : OpenClaim := { program := "ytmnjedpnhilndaa", sum := "6bb9b8c1e7df5d11315b91410b89aecd241f4f80d0b35dfc307e469634948a07", func := "unison/unisonlaw16.RelayNil", spec := "relayNil", unfollowed := true, recurses := true, plainKeys := false, apart := false, narrowed := true }
def RelayNilUptoSaid : Prop := relayNilUptoRow.holds Try.pinned (OpenSpec.upto relayNilSpec)

/-- 'unisonlaw16.RelayRoom', WHERE WHAT IT READS IS OF BULK AT MOST 1048576: true; the input reads as it did. -/
def relayRoomUptoRow : OpenClaim := { program := "ytmnjedpnhilndaa", sum := "6bb9b8c1e7df5d11315b91410b89aecd241f4f80d0b35dfc307e469634948a07", func := "unison/unisonlaw16.RelayRoom", spec := "relayRoom", plainKeys := false, apart := false, narrowed := true }
def RelayRoomUptoSaid : Prop := relayRoomUptoRow.holds Try.pinned (OpenSpec.upto relayRoomSpec)

end Rows
end Go.Proofs.Ytmnjedpnhilndaa
