/-
  No cell of these rows narrows 'for every input' (looked for: loops, veiled, ifaces, maps, wideKeys, modest, calm, conditions, laid).
  DERIVED. THE GIVEN ROWS OF THIS SEAT. 6 by the template 'for every input the law returns true; each argument reads behind the call as it read before'; 0 by the template 'total and deterministic' (their statements: YtckikigjleckeaaTotals.lean).
  GIVEN WITH THE SEED: the statements are not yours to turn. If you find one false, say at which input.
  Laid BY PROGRAM, IN A SANDBOX (cutbox-rows.mjs): the forced cells as the released guide's own fill.sh prints them over the translation 1afdd25757d13918… (all of the seat's roots in one cut). By AI agents, Wed Nov 11 2026. No macro, syntax, notation, axiom, sorry.
-/
import Derived.Test.YtckikigjleckeaaChecked
import GoSem.Claim
import GoSem.ClaimJoined
import GoSem.ClaimMapViews
import Derived.JoinedTies
import Derived.KernelRfl
namespace Go.Proofs.Ytckikigjleckeaa
/- THE CELL 'sum', in the pinned program and in every row, IS THE sha256 OF THE DUMP (.gsa) THAT YtckikigjleckeaaProg.lean LOADS. Nothing in Lean hashes anything: it is a label: what it is worth is what the hold of that sum in a sandbox is worth. -/
noncomputable def Try.pinned : Pinned := { name := "ytckikigjleckeaa", sum := "1afdd25757d13918ef185c461ced1c5eeab4741a6559ddb41a4ffb3e16ca96aa", checked := Try.checked }
namespace Rows
def none {H : Type} : Left H := { results := [], args := [] }

/-- 'bureaulaw12.MoveAll': WHATEVER THE INPUT: true; the input reads as it did. -/
def moveAllSpec : ChangeSpec := { name := "moveAll", fn := fun _ => fun
  | [d1, d2, d3] => { results := [.lit (.bool true)], args := [d1, d2, d3] }
  | _ => none }
def moveAllRow : OpenClaim := { program := "ytckikigjleckeaa", sum := "1afdd25757d13918ef185c461ced1c5eeab4741a6559ddb41a4ffb3e16ca96aa", func := "bureau/bureaulaw12.MoveAll", spec := "moveAll", inPlace := ["internal/bytealg.CountString", "internal/bytealg.IndexByteString", "internal/bytealg.IndexString"], unfollowed := true, recurses := true, named := ["internal/bytealg.MaxLen"], apart := false }
def MoveAllSaid : Prop := moveAllRow.holds Try.pinned (OpenSpec.ofChange moveAllSpec)

/-- ITS FALSE NEIGHBOUR: 'it returns false'. Refute it at one input. -/
def moveAllWrong : ChangeSpec := { name := "moveAll", fn := fun _ => fun
  | [d1, d2, d3] => { results := [.lit (.bool false)], args := [d1, d2, d3] }
  | _ => none }
def MoveAllWrongFalsely : Prop := moveAllRow.holds Try.pinned (OpenSpec.ofChange moveAllWrong)

/-- 'bureaulaw12.MoveWithin': WHATEVER THE INPUT: true; the input reads as it did. -/
def moveWithinSpec : ChangeSpec := { name := "moveWithin", fn := fun _ => fun
  | [d1, d2, d3] => { results := [.lit (.bool true)], args := [d1, d2, d3] }
  | _ => none }
def moveWithinRow : OpenClaim := { program := "ytckikigjleckeaa", sum := "1afdd25757d13918ef185c461ced1c5eeab4741a6559ddb41a4ffb3e16ca96aa", func := "bureau/bureaulaw12.MoveWithin", spec := "moveWithin", inPlace := ["internal/bytealg.CountString", "internal/bytealg.IndexByteString", "internal/bytealg.IndexString"], unfollowed := true, recurses := true, named := ["internal/bytealg.MaxLen"], apart := false }
def MoveWithinSaid : Prop := moveWithinRow.holds Try.pinned (OpenSpec.ofChange moveWithinSpec)

/-- ITS FALSE NEIGHBOUR: 'it returns false'. Refute it at one input. -/
def moveWithinWrong : ChangeSpec := { name := "moveWithin", fn := fun _ => fun
  | [d1, d2, d3] => { results := [.lit (.bool false)], args := [d1, d2, d3] }
  | _ => none }
def MoveWithinWrongFalsely : Prop := moveWithinRow.holds Try.pinned (OpenSpec.ofChange moveWithinWrong)

/-- 'bureaulaw12.MoveTwice': WHATEVER THE INPUT: true; the input reads as it did. -/
def moveTwiceSpec : ChangeSpec := { name := "moveTwice", fn := fun _ => fun
  | [d1, d2, d3] => { results := [.lit (.bool true)], args := [d1, d2, d3] }
  | _ => none }
def moveTwiceRow : OpenClaim := { program := "ytckikigjleckeaa", sum := "1afdd25757d13918ef185c461ced1c5eeab4741a6559ddb41a4ffb3e16ca96aa", func := "bureau/bureaulaw12.MoveTwice", spec := "moveTwice", inPlace := ["internal/bytealg.CountString", "internal/bytealg.IndexByteString", "internal/bytealg.IndexString"], unfollowed := true, recurses := true, named := ["internal/bytealg.MaxLen"], apart := false }
def MoveTwiceSaid : Prop := moveTwiceRow.holds Try.pinned (OpenSpec.ofChange moveTwiceSpec)

/-- ITS FALSE NEIGHBOUR: 'it returns false'. Refute it at one input. -/
def moveTwiceWrong : ChangeSpec := { name := "moveTwice", fn := fun _ => fun
  | [d1, d2, d3] => { results := [.lit (.bool false)], args := [d1, d2, d3] }
  | _ => none }
def MoveTwiceWrongFalsely : Prop := moveTwiceRow.holds Try.pinned (OpenSpec.ofChange moveTwiceWrong)

/-- 'bureaulaw12.MoveFinds': WHATEVER THE INPUT: true; the input reads as it did. -/
def moveFindsSpec : ChangeSpec := { name := "moveFinds", fn := fun _ => fun
  | [d1, d2, d3] => { results := [.lit (.bool true)], args := [d1, d2, d3] }
  | _ => none }
def moveFindsRow : OpenClaim := { program := "ytckikigjleckeaa", sum := "1afdd25757d13918ef185c461ced1c5eeab4741a6559ddb41a4ffb3e16ca96aa", func := "bureau/bureaulaw12.MoveFinds", spec := "moveFinds", inPlace := ["internal/bytealg.CountString", "internal/bytealg.IndexByteString", "internal/bytealg.IndexString"], unfollowed := true, recurses := true, named := ["internal/bytealg.MaxLen"], apart := false }
def MoveFindsSaid : Prop := moveFindsRow.holds Try.pinned (OpenSpec.ofChange moveFindsSpec)

/-- ITS FALSE NEIGHBOUR: 'it returns false'. Refute it at one input. -/
def moveFindsWrong : ChangeSpec := { name := "moveFinds", fn := fun _ => fun
  | [d1, d2, d3] => { results := [.lit (.bool false)], args := [d1, d2, d3] }
  | _ => none }
def MoveFindsWrongFalsely : Prop := moveFindsRow.holds Try.pinned (OpenSpec.ofChange moveFindsWrong)

/-- 'bureaulaw12.MoveLines': WHATEVER THE INPUT: true; the input reads as it did. -/
def moveLinesSpec : ChangeSpec := { name := "moveLines", fn := fun _ => fun
  | [d1, d2, d3] => { results := [.lit (.bool true)], args := [d1, d2, d3] }
  | _ => none }
def moveLinesRow : OpenClaim := { program := "ytckikigjleckeaa", sum := "1afdd25757d13918ef185c461ced1c5eeab4741a6559ddb41a4ffb3e16ca96aa", func := "bureau/bureaulaw12.MoveLines", spec := "moveLines", inPlace := ["internal/bytealg.CountString", "internal/bytealg.IndexByteString", "internal/bytealg.IndexString"], unfollowed := true, recurses := true, named := ["internal/bytealg.MaxLen"], apart := false }
def MoveLinesSaid : Prop := moveLinesRow.holds Try.pinned (OpenSpec.ofChange moveLinesSpec)

/-- ITS FALSE NEIGHBOUR: 'it returns false'. Refute it at one input. -/
def moveLinesWrong : ChangeSpec := { name := "moveLines", fn := fun _ => fun
  | [d1, d2, d3] => { results := [.lit (.bool false)], args := [d1, d2, d3] }
  | _ => none }
def MoveLinesWrongFalsely : Prop := moveLinesRow.holds Try.pinned (OpenSpec.ofChange moveLinesWrong)

/-- 'bureautop.WholeWords': WHATEVER THE INPUT: true; the input reads as it did. -/
def wholeWordsSpec : ChangeSpec := { name := "wholeWords", fn := fun _ => fun
  | [d] => { results := [.lit (.bool true)], args := [d] }
  | _ => none }
def wholeWordsRow : OpenClaim := { program := "ytckikigjleckeaa", sum := "1afdd25757d13918ef185c461ced1c5eeab4741a6559ddb41a4ffb3e16ca96aa", func := "bureau/bureautop.WholeWords", spec := "wholeWords", inPlace := ["internal/bytealg.CountString", "internal/bytealg.IndexByteString", "internal/bytealg.IndexString"], unfollowed := true, recurses := true, named := ["internal/bytealg.MaxLen"], apart := false }
def WholeWordsSaid : Prop := wholeWordsRow.holds Try.pinned (OpenSpec.ofChange wholeWordsSpec)

/-- ITS FALSE NEIGHBOUR: 'it returns false'. Refute it at one input. -/
def wholeWordsWrong : ChangeSpec := { name := "wholeWords", fn := fun _ => fun
  | [d] => { results := [.lit (.bool false)], args := [d] }
  | _ => none }
def WholeWordsWrongFalsely : Prop := wholeWordsRow.holds Try.pinned (OpenSpec.ofChange wholeWordsWrong)

/- THE SECOND FORM. 'bulk': how many values and letters a reading holds, each counted each time it is reached (what is shared counts as often as it is met; a slice's spare places count too). A statement '..UptoSaid' is the law's where the arguments, and the package variables that the reading takes, are together of bulk at most 1048576: NARROWER than '..Said'. Prove '..Said' where nothing that the law and all that it calls make is longer than what came in: it says more and counts as full. Else prove '..UptoSaid'. A law counts once. -/
mutual
def uptoBulk {H : Type} : DataW H → Nat
  | .lit (.string bytes) => bytes.length + 1
  | .lit _ => 1
  | .nil => 1
  | .ptr d => uptoBulk d + 1
  | .slice elems spare => uptoBulkAll elems + uptoBulkAll spare + 1
  | .agg parts => uptoBulkAll parts + 1
  | .iface _ d => uptoBulk d + 1
  | .map entries => uptoBulkEntries entries + 1
  | .held _ => 1
def uptoBulkAll {H : Type} : List (DataW H) → Nat
  | [] => 0
  | d :: r => uptoBulk d + uptoBulkAll r
def uptoBulkEntries {H : Type} : List (Lit × DataW H) → Nat
  | [] => 0
  | x :: r => uptoBulkEntry x + uptoBulkEntries r
def uptoBulkEntry {H : Type} : Lit × DataW H → Nat
  | (.string bytes, d) => bytes.length + uptoBulk d + 1
  | (_, d) => uptoBulk d + 1
 end
def uptoSmall : (H : Type) → List (DataW H) → Bool := fun _ ds => decide (uptoBulkAll ds ≤ 1048576)
def OpenSpec.upto (s : _root_.Go.ChangeSpec) : _root_.Go.OpenSpec := { _root_.Go.OpenSpec.ofChange s with cond := some uptoSmall }

/-- 'bureaulaw12.MoveAll', WHERE WHAT IT READS IS OF BULK AT MOST 1048576: true; the input reads as it did. -/
def moveAllUptoRow : OpenClaim := { program := "ytckikigjleckeaa", sum := "1afdd25757d13918ef185c461ced1c5eeab4741a6559ddb41a4ffb3e16ca96aa", func := "bureau/bureaulaw12.MoveAll", spec := "moveAll", inPlace := ["internal/bytealg.CountString", "internal/bytealg.IndexByteString", "internal/bytealg.IndexString"], unfollowed := true, recurses := true, named := ["internal/bytealg.MaxLen"], apart := false, narrowed := true }
def MoveAllUptoSaid : Prop := moveAllUptoRow.holds Try.pinned (OpenSpec.upto moveAllSpec)

/-- 'bureaulaw12.MoveWithin', WHERE WHAT IT READS IS OF BULK AT MOST 1048576: true; the input reads as it did. -/
def moveWithinUptoRow : OpenClaim := { program := "ytckikigjleckeaa", sum := "1afdd25757d13918ef185c461ced1c5eeab4741a6559ddb41a4ffb3e16ca96aa", func := "bureau/bureaulaw12.MoveWithin", spec := "moveWithin", inPlace := ["internal/bytealg.CountString", "internal/bytealg.IndexByteString", "internal/bytealg.IndexString"], unfollowed := true, recurses := true, named := ["internal/bytealg.MaxLen"], apart := false, narrowed := true }
def MoveWithinUptoSaid : Prop := moveWithinUptoRow.holds Try.pinned (OpenSpec.upto moveWithinSpec)

/-- 'bureaulaw12.MoveTwice', WHERE WHAT IT READS IS OF BULK AT MOST 1048576: true; the input reads as it did. -/
def moveTwiceUptoRow : OpenClaim := { program := "ytckikigjleckeaa", sum := "1afdd25757d13918ef185c461ced1c5eeab4741a6559ddb41a4ffb3e16ca96aa", func := "bureau/bureaulaw12.MoveTwice", spec := "moveTwice", inPlace := ["internal/bytealg.CountString", "internal/bytealg.IndexByteString", "internal/bytealg.IndexString"], unfollowed := true, recurses := true, named := ["internal/bytealg.MaxLen"], apart := false, narrowed := true }
def MoveTwiceUptoSaid : Prop := moveTwiceUptoRow.holds Try.pinned (OpenSpec.upto moveTwiceSpec)

/-- 'bureaulaw12.MoveFinds', WHERE WHAT IT READS IS OF BULK AT MOST 1048576: true; the input reads as it did. -/
def moveFindsUptoRow : OpenClaim := { program := "ytckikigjleckeaa", sum := "1afdd25757d13918ef185c461ced1c5eeab4741a6559ddb41a4ffb3e16ca96aa", func := "bureau/bureaulaw12.MoveFinds", spec := "moveFinds", inPlace := ["internal/bytealg.CountString", "internal/bytealg.IndexByteString", "internal/bytealg.IndexString"], unfollowed := true, recurses := true, named := ["internal/bytealg.MaxLen"], apart := false, narrowed := true }
def MoveFindsUptoSaid : Prop := moveFindsUptoRow.holds Try.pinned (OpenSpec.upto moveFindsSpec)

/-- 'bureaulaw12.MoveLines', WHERE WHAT IT READS IS OF BULK AT MOST 1048576: true; the input reads as it did. -/
def moveLinesUptoRow : OpenClaim := { program := "ytckikigjleckeaa", sum := "1afdd25757d13918ef185c461ced1c5eeab4741a6559ddb41a4ffb3e16ca96aa", func := "bureau/bureaulaw12.MoveLines", spec := "moveLines", inPlace := ["internal/bytealg.CountString", "internal/bytealg.IndexByteString", "internal/bytealg.IndexString"], unfollowed := true, recurses := true, named := ["internal/bytealg.MaxLen"], apart := false, narrowed := true }
def MoveLinesUptoSaid : Prop := moveLinesUptoRow.holds Try.pinned (OpenSpec.upto moveLinesSpec)

/-- 'bureautop.WholeWords', WHERE WHAT IT READS IS OF BULK AT MOST 1048576: true; the input reads as it did. -/
def wholeWordsUptoRow : OpenClaim := { program := "ytckikigjleckeaa", sum := "1afdd25757d13918ef185c461ced1c5eeab4741a6559ddb41a4ffb3e16ca96aa", func := "bureau/bureautop.WholeWords", spec := "wholeWords", inPlace := ["internal/bytealg.CountString", "internal/bytealg.IndexByteString", "internal/bytealg.IndexString"], unfollowed := true, recurses := true, named := ["internal/bytealg.MaxLen"], apart := false, narrowed := true }
def WholeWordsUptoSaid : Prop := wholeWordsUptoRow.holds Try.pinned (OpenSpec.upto wholeWordsSpec)

end Rows
end Go.Proofs.Ytckikigjleckeaa
