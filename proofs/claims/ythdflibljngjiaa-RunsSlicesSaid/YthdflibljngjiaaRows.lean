/-
  No cell of these rows narrows 'for every input' (looked for: loops, veiled, ifaces, maps, wideKeys, modest, calm, conditions, laid).
  DERIVED. THE GIVEN ROWS OF THIS SEAT. 8 by the template 'for every input the law returns true; each argument reads behind the call as it read before'; 0 by the template 'total and deterministic' (their statements: YthdflibljngjiaaTotals.lean).
  GIVEN WITH THE SEED: the statements are not yours to turn. If you find one false, say at which input.
  Laid BY PROGRAM, IN A SANDBOX (cutbox-rows.mjs): the forced cells as the released guide's own fill.sh prints them over the translation 744be358d2ff24e4… (all of the seat's roots in one cut). By AI agents, Wed Nov 11 2026. No macro, syntax, notation, axiom, sorry.
-/
import Derived.Test.YthdflibljngjiaaChecked
import GoSem.Claim
import GoSem.ClaimJoined
import GoSem.ClaimMapViews
import Derived.JoinedTies
import Derived.KernelRfl
namespace Go.Proofs.Ythdflibljngjiaa
/- THE CELL 'sum', in the pinned program and in every row, IS THE sha256 OF THE DUMP (.gsa) THAT YthdflibljngjiaaProg.lean LOADS. Nothing in Lean hashes anything: it is a label: what it is worth is what the hold of that sum in a sandbox is worth. -/
noncomputable def Try.pinned : Pinned := { name := "ythdflibljngjiaa", sum := "744be358d2ff24e47a85d5635a986fb1edfde9dc7b0166787bcf83fa6748df7e", checked := Try.checked }
namespace Rows
def none {H : Type} : Left H := { results := [], args := [] }

/-- 'bureaulaw03.RunsNormals': WHATEVER THE INPUT: true; the input reads as it did. -/
def runsNormalsSpec : ChangeSpec := { name := "runsNormals", fn := fun _ => fun
  | [d] => { results := [.lit (.bool true)], args := [d] }
  | _ => none }
def runsNormalsRow : OpenClaim := { program := "ythdflibljngjiaa", sum := "744be358d2ff24e47a85d5635a986fb1edfde9dc7b0166787bcf83fa6748df7e", func := "bureau/bureaulaw03.RunsNormals", spec := "runsNormals", unfollowed := true, recurses := true, apart := false }
def RunsNormalsSaid : Prop := runsNormalsRow.holds Try.pinned (OpenSpec.ofChange runsNormalsSpec)

/-- ITS FALSE NEIGHBOUR: 'it returns false'. Refute it at one input. -/
def runsNormalsWrong : ChangeSpec := { name := "runsNormals", fn := fun _ => fun
  | [d] => { results := [.lit (.bool false)], args := [d] }
  | _ => none }
def RunsNormalsWrongFalsely : Prop := runsNormalsRow.holds Try.pinned (OpenSpec.ofChange runsNormalsWrong)

/-- 'bureaulaw03.RunsAsks': WHATEVER THE INPUT: true; the input reads as it did. -/
def runsAsksSpec : ChangeSpec := { name := "runsAsks", fn := fun _ => fun
  | [d1, d2] => { results := [.lit (.bool true)], args := [d1, d2] }
  | _ => none }
def runsAsksRow : OpenClaim := { program := "ythdflibljngjiaa", sum := "744be358d2ff24e47a85d5635a986fb1edfde9dc7b0166787bcf83fa6748df7e", func := "bureau/bureaulaw03.RunsAsks", spec := "runsAsks", unfollowed := true, recurses := true, apart := false }
def RunsAsksSaid : Prop := runsAsksRow.holds Try.pinned (OpenSpec.ofChange runsAsksSpec)

/-- ITS FALSE NEIGHBOUR: 'it returns false'. Refute it at one input. -/
def runsAsksWrong : ChangeSpec := { name := "runsAsks", fn := fun _ => fun
  | [d1, d2] => { results := [.lit (.bool false)], args := [d1, d2] }
  | _ => none }
def RunsAsksWrongFalsely : Prop := runsAsksRow.holds Try.pinned (OpenSpec.ofChange runsAsksWrong)

/-- 'bureaulaw03.RunsSlices': WHATEVER THE INPUT: true; the input reads as it did. -/
def runsSlicesSpec : ChangeSpec := { name := "runsSlices", fn := fun _ => fun
  | [d1, d2, d3] => { results := [.lit (.bool true)], args := [d1, d2, d3] }
  | _ => none }
def runsSlicesRow : OpenClaim := { program := "ythdflibljngjiaa", sum := "744be358d2ff24e47a85d5635a986fb1edfde9dc7b0166787bcf83fa6748df7e", func := "bureau/bureaulaw03.RunsSlices", spec := "runsSlices", unfollowed := true, recurses := true, apart := false }
def RunsSlicesSaid : Prop := runsSlicesRow.holds Try.pinned (OpenSpec.ofChange runsSlicesSpec)

/-- ITS FALSE NEIGHBOUR: 'it returns false'. Refute it at one input. -/
def runsSlicesWrong : ChangeSpec := { name := "runsSlices", fn := fun _ => fun
  | [d1, d2, d3] => { results := [.lit (.bool false)], args := [d1, d2, d3] }
  | _ => none }
def RunsSlicesWrongFalsely : Prop := runsSlicesRow.holds Try.pinned (OpenSpec.ofChange runsSlicesWrong)

/-- 'bureaulaw03.RunsCats': WHATEVER THE INPUT: true; the input reads as it did. -/
def runsCatsSpec : ChangeSpec := { name := "runsCats", fn := fun _ => fun
  | [d1, d2] => { results := [.lit (.bool true)], args := [d1, d2] }
  | _ => none }
def runsCatsRow : OpenClaim := { program := "ythdflibljngjiaa", sum := "744be358d2ff24e47a85d5635a986fb1edfde9dc7b0166787bcf83fa6748df7e", func := "bureau/bureaulaw03.RunsCats", spec := "runsCats", unfollowed := true, recurses := true, apart := false }
def RunsCatsSaid : Prop := runsCatsRow.holds Try.pinned (OpenSpec.ofChange runsCatsSpec)

/-- ITS FALSE NEIGHBOUR: 'it returns false'. Refute it at one input. -/
def runsCatsWrong : ChangeSpec := { name := "runsCats", fn := fun _ => fun
  | [d1, d2] => { results := [.lit (.bool false)], args := [d1, d2] }
  | _ => none }
def RunsCatsWrongFalsely : Prop := runsCatsRow.holds Try.pinned (OpenSpec.ofChange runsCatsWrong)

/-- 'bureaulaw03.RunsSplices': WHATEVER THE INPUT: true; the input reads as it did. -/
def runsSplicesSpec : ChangeSpec := { name := "runsSplices", fn := fun _ => fun
  | [d1, d2, d3] => { results := [.lit (.bool true)], args := [d1, d2, d3] }
  | _ => none }
def runsSplicesRow : OpenClaim := { program := "ythdflibljngjiaa", sum := "744be358d2ff24e47a85d5635a986fb1edfde9dc7b0166787bcf83fa6748df7e", func := "bureau/bureaulaw03.RunsSplices", spec := "runsSplices", unfollowed := true, recurses := true, apart := false }
def RunsSplicesSaid : Prop := runsSplicesRow.holds Try.pinned (OpenSpec.ofChange runsSplicesSpec)

/-- ITS FALSE NEIGHBOUR: 'it returns false'. Refute it at one input. -/
def runsSplicesWrong : ChangeSpec := { name := "runsSplices", fn := fun _ => fun
  | [d1, d2, d3] => { results := [.lit (.bool false)], args := [d1, d2, d3] }
  | _ => none }
def RunsSplicesWrongFalsely : Prop := runsSplicesRow.holds Try.pinned (OpenSpec.ofChange runsSplicesWrong)

/-- 'bureaulaw03.RunsRaises': WHATEVER THE INPUT: true; the input reads as it did. -/
def runsRaisesSpec : ChangeSpec := { name := "runsRaises", fn := fun _ => fun
  | [d1, d2, d3] => { results := [.lit (.bool true)], args := [d1, d2, d3] }
  | _ => none }
def runsRaisesRow : OpenClaim := { program := "ythdflibljngjiaa", sum := "744be358d2ff24e47a85d5635a986fb1edfde9dc7b0166787bcf83fa6748df7e", func := "bureau/bureaulaw03.RunsRaises", spec := "runsRaises", unfollowed := true, recurses := true, apart := false }
def RunsRaisesSaid : Prop := runsRaisesRow.holds Try.pinned (OpenSpec.ofChange runsRaisesSpec)

/-- ITS FALSE NEIGHBOUR: 'it returns false'. Refute it at one input. -/
def runsRaisesWrong : ChangeSpec := { name := "runsRaises", fn := fun _ => fun
  | [d1, d2, d3] => { results := [.lit (.bool false)], args := [d1, d2, d3] }
  | _ => none }
def RunsRaisesWrongFalsely : Prop := runsRaisesRow.holds Try.pinned (OpenSpec.ofChange runsRaisesWrong)

/-- 'bureaulaw03.RunsParts': WHATEVER THE INPUT: true; the input reads as it did. -/
def runsPartsSpec : ChangeSpec := { name := "runsParts", fn := fun _ => fun
  | [d1, d2] => { results := [.lit (.bool true)], args := [d1, d2] }
  | _ => none }
def runsPartsRow : OpenClaim := { program := "ythdflibljngjiaa", sum := "744be358d2ff24e47a85d5635a986fb1edfde9dc7b0166787bcf83fa6748df7e", func := "bureau/bureaulaw03.RunsParts", spec := "runsParts", unfollowed := true, recurses := true, apart := false }
def RunsPartsSaid : Prop := runsPartsRow.holds Try.pinned (OpenSpec.ofChange runsPartsSpec)

/-- ITS FALSE NEIGHBOUR: 'it returns false'. Refute it at one input. -/
def runsPartsWrong : ChangeSpec := { name := "runsParts", fn := fun _ => fun
  | [d1, d2] => { results := [.lit (.bool false)], args := [d1, d2] }
  | _ => none }
def RunsPartsWrongFalsely : Prop := runsPartsRow.holds Try.pinned (OpenSpec.ofChange runsPartsWrong)

/-- 'bureaulaw03.RunsUndone': WHATEVER THE INPUT: true; the input reads as it did. -/
def runsUndoneSpec : ChangeSpec := { name := "runsUndone", fn := fun _ => fun
  | [d1, d2, d3] => { results := [.lit (.bool true)], args := [d1, d2, d3] }
  | _ => none }
def runsUndoneRow : OpenClaim := { program := "ythdflibljngjiaa", sum := "744be358d2ff24e47a85d5635a986fb1edfde9dc7b0166787bcf83fa6748df7e", func := "bureau/bureaulaw03.RunsUndone", spec := "runsUndone", unfollowed := true, recurses := true, apart := false }
def RunsUndoneSaid : Prop := runsUndoneRow.holds Try.pinned (OpenSpec.ofChange runsUndoneSpec)

/-- ITS FALSE NEIGHBOUR: 'it returns false'. Refute it at one input. -/
def runsUndoneWrong : ChangeSpec := { name := "runsUndone", fn := fun _ => fun
  | [d1, d2, d3] => { results := [.lit (.bool false)], args := [d1, d2, d3] }
  | _ => none }
def RunsUndoneWrongFalsely : Prop := runsUndoneRow.holds Try.pinned (OpenSpec.ofChange runsUndoneWrong)

/- THE SECOND FORM. 'bulk': how many values and letters a reading holds, each counted each time it is reached (what is shared counts as often as it is met; a slice's spare places count too). A statement '..UptoSaid' is the law's where the arguments, and the package variables that the reading takes, are together of bulk at most 1048576: NARROWER than '..Said'. Prove '..Said' where nothing that the law and all that it calls make is longer than what came in: it says more and counts as full. Else prove '..UptoSaid'. A law counts once. -/
mutual
def uptoBulk {H : Type} : DataW H → Nat
  | .lit (.string bytes) => bytes.length + 1
  | .lit _ => 1
  | .nil => 1
  | .ptr d => uptoBulk d + 1
  | .slice elems spare => uptoBulkAll elems + uptoBulkAll spare + 1
  | .agg parts => uptoBulkAll parts + 1
  | .iface _ d => uptoBulk d + 1
  | .map entries => uptoBulkEntries entries + 1
  | .held _ => 1
def uptoBulkAll {H : Type} : List (DataW H) → Nat
  | [] => 0
  | d :: r => uptoBulk d + uptoBulkAll r
def uptoBulkEntries {H : Type} : List (Lit × DataW H) → Nat
  | [] => 0
  | x :: r => uptoBulkEntry x + uptoBulkEntries r
def uptoBulkEntry {H : Type} : Lit × DataW H → Nat
  | (.string bytes, d) => bytes.length + uptoBulk d + 1
  | (_, d) => uptoBulk d + 1
 end
def uptoSmall : (H : Type) → List (DataW H) → Bool := fun _ ds => decide (uptoBulkAll ds ≤ 1048576)
def OpenSpec.upto (s : _root_.Go.ChangeSpec) : _root_.Go.OpenSpec := { _root_.Go.OpenSpec.ofChange s with cond := some uptoSmall }

/-- 'bureaulaw03.RunsNormals', WHERE WHAT IT READS IS OF BULK AT MOST 1048576: true; the input reads as it did. -/
def runsNormalsUptoRow : OpenClaim := { program := "ythdflibljngjiaa", sum := "744be358d2ff24e47a85d5635a986fb1edfde9dc7b0166787bcf83fa6748df7e", func := "bureau/bureaulaw03.RunsNormals", spec := "runsNormals", unfollowed := true, recurses := true, apart := false, narrowed := true }
def RunsNormalsUptoSaid : Prop := runsNormalsUptoRow.holds Try.pinned (OpenSpec.upto runsNormalsSpec)

/-- 'bureaulaw03.RunsAsks', WHERE WHAT IT READS IS OF BULK AT MOST 1048576: true; the input reads as it did. -/
def runsAsksUptoRow : OpenClaim := { program := "ythdflibljngjiaa", sum := "744be358d2ff24e47a85d5635a986fb1edfde9dc7b0166787bcf83fa6748df7e", func := "bureau/bureaulaw03.RunsAsks", spec := "runsAsks", unfollowed := true, recurses := true, apart := false, narrowed := true }
def RunsAsksUptoSaid : Prop := runsAsksUptoRow.holds Try.pinned (OpenSpec.upto runsAsksSpec)

/-- 'bureaulaw03.RunsSlices', WHERE WHAT IT READS IS OF BULK AT MOST 1048576: true; the input reads as it did. -/
def runsSlicesUptoRow : OpenClaim := { program := "ythdflibljngjiaa", sum := "744be358d2ff24e47a85d5635a986fb1edfde9dc7b0166787bcf83fa6748df7e", func := "bureau/bureaulaw03.RunsSlices", spec := "runsSlices", unfollowed := true, recurses := true, apart := false, narrowed := true }
def RunsSlicesUptoSaid : Prop := runsSlicesUptoRow.holds Try.pinned (OpenSpec.upto runsSlicesSpec)

/-- 'bureaulaw03.RunsCats', WHERE WHAT IT READS IS OF BULK AT MOST 1048576: true; the input reads as it did. -/
def runsCatsUptoRow : OpenClaim := { program := "ythdflibljngjiaa", sum := "744be358d2ff24e47a85d5635a986fb1edfde9dc7b0166787bcf83fa6748df7e", func := "bureau/bureaulaw03.RunsCats", spec := "runsCats", unfollowed := true, recurses := true, apart := false, narrowed := true }
def RunsCatsUptoSaid : Prop := runsCatsUptoRow.holds Try.pinned (OpenSpec.upto runsCatsSpec)

/-- 'bureaulaw03.RunsSplices', WHERE WHAT IT READS IS OF BULK AT MOST 1048576: true; the input reads as it did. -/
def runsSplicesUptoRow : OpenClaim := { program := "ythdflibljngjiaa", sum := "744be358d2ff24e47a85d5635a986fb1edfde9dc7b0166787bcf83fa6748df7e", func := "bureau/bureaulaw03.RunsSplices", spec := "runsSplices", unfollowed := true, recurses := true, apart := false, narrowed := true }
def RunsSplicesUptoSaid : Prop := runsSplicesUptoRow.holds Try.pinned (OpenSpec.upto runsSplicesSpec)

/-- 'bureaulaw03.RunsRaises', WHERE WHAT IT READS IS OF BULK AT MOST 1048576: true; the input reads as it did. -/
def runsRaisesUptoRow : OpenClaim := { program := "ythdflibljngjiaa", sum := "744be358d2ff24e47a85d5635a986fb1edfde9dc7b0166787bcf83fa6748df7e", func := "bureau/bureaulaw03.RunsRaises", spec := "runsRaises", unfollowed := true, recurses := true, apart := false, narrowed := true }
def RunsRaisesUptoSaid : Prop := runsRaisesUptoRow.holds Try.pinned (OpenSpec.upto runsRaisesSpec)

/-- 'bureaulaw03.RunsParts', WHERE WHAT IT READS IS OF BULK AT MOST 1048576: true; the input reads as it did. -/
def runsPartsUptoRow : OpenClaim := { program := "ythdflibljngjiaa", sum := "744be358d2ff24e47a85d5635a986fb1edfde9dc7b0166787bcf83fa6748df7e", func := "bureau/bureaulaw03.RunsParts", spec := "runsParts", unfollowed := true, recurses := true, apart := false, narrowed := true }
def RunsPartsUptoSaid : Prop := runsPartsUptoRow.holds Try.pinned (OpenSpec.upto runsPartsSpec)

/-- 'bureaulaw03.RunsUndone', WHERE WHAT IT READS IS OF BULK AT MOST 1048576: true; the input reads as it did. -/
def runsUndoneUptoRow : OpenClaim := { program := "ythdflibljngjiaa", sum := "744be358d2ff24e47a85d5635a986fb1edfde9dc7b0166787bcf83fa6748df7e", func := "bureau/bureaulaw03.RunsUndone", spec := "runsUndone", unfollowed := true, recurses := true, apart := false, narrowed := true }
def RunsUndoneUptoSaid : Prop := runsUndoneUptoRow.holds Try.pinned (OpenSpec.upto runsUndoneSpec)

end Rows
end Go.Proofs.Ythdflibljngjiaa
