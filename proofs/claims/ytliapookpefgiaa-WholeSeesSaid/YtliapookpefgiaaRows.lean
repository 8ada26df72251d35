/-
  No cell of these rows narrows 'for every input' (looked for: loops, veiled, ifaces, maps, wideKeys, modest, calm, conditions, laid).
  DERIVED. THE GIVEN ROWS OF THIS SEAT. 9 by the template 'for every input the law returns true; each argument reads behind the call as it read before'; 0 by the template 'total and deterministic' (their statements: YtliapookpefgiaaTotals.lean).
  GIVEN WITH THE SEED: the statements are not yours to turn. If you find one false, say at which input.
  Laid BY PROGRAM, IN A SANDBOX (cutbox-rows.mjs): the forced cells as the released guide's own fill.sh prints them over the translation 7faa359502c2b679… (all of the seat's roots in one cut). By AI agents, Wed Nov 11 2026. No macro, syntax, notation, axiom, sorry.
-/
import Derived.Test.YtliapookpefgiaaChecked
import GoSem.Claim
import GoSem.ClaimJoined
import GoSem.ClaimMapViews
import Derived.JoinedTies
import Derived.KernelRfl
namespace Go.Proofs.Ytliapookpefgiaa
/- THE CELL 'sum', in the pinned program and in every row, IS THE sha256 OF THE DUMP (.gsa) THAT YtliapookpefgiaaProg.lean LOADS. Nothing in Lean hashes anything: it is a label: what it is worth is what the hold of that sum in a sandbox is worth. -/
noncomputable def Try.pinned : Pinned := { name := "ytliapookpefgiaa", sum := "7faa359502c2b6793a32cf4f7bc302490f101276079d64f16a535582f1001019", checked := Try.checked }
namespace Rows
def none {H : Type} : Left H := { results := [], args := [] }

/-- 'bureaulaw04.StripMakes': WHATEVER THE INPUT: true; the input reads as it did. -/
def stripMakesSpec : ChangeSpec := { name := "stripMakes", fn := fun _ => fun
  | [d1, d2, d3] => { results := [.lit (.bool true)], args := [d1, d2, d3] }
  | _ => none }
def stripMakesRow : OpenClaim := { program := "ytliapookpefgiaa", sum := "7faa359502c2b6793a32cf4f7bc302490f101276079d64f16a535582f1001019", func := "bureau/bureaulaw04.StripMakes", spec := "stripMakes", unfollowed := true, recurses := true, apart := false }
def StripMakesSaid : Prop := stripMakesRow.holds Try.pinned (OpenSpec.ofChange stripMakesSpec)

/-- ITS FALSE NEIGHBOUR: 'it returns false'. Refute it at one input. -/
def stripMakesWrong : ChangeSpec := { name := "stripMakes", fn := fun _ => fun
  | [d1, d2, d3] => { results := [.lit (.bool false)], args := [d1, d2, d3] }
  | _ => none }
def StripMakesWrongFalsely : Prop := stripMakesRow.holds Try.pinned (OpenSpec.ofChange stripMakesWrong)

/-- 'bureaulaw04.StripCuts': WHATEVER THE INPUT: true; the input reads as it did. -/
def stripCutsSpec : ChangeSpec := { name := "stripCuts", fn := fun _ => fun
  | [d1, d2, d3] => { results := [.lit (.bool true)], args := [d1, d2, d3] }
  | _ => none }
def stripCutsRow : OpenClaim := { program := "ytliapookpefgiaa", sum := "7faa359502c2b6793a32cf4f7bc302490f101276079d64f16a535582f1001019", func := "bureau/bureaulaw04.StripCuts", spec := "stripCuts", unfollowed := true, recurses := true, apart := false }
def StripCutsSaid : Prop := stripCutsRow.holds Try.pinned (OpenSpec.ofChange stripCutsSpec)

/-- ITS FALSE NEIGHBOUR: 'it returns false'. Refute it at one input. -/
def stripCutsWrong : ChangeSpec := { name := "stripCuts", fn := fun _ => fun
  | [d1, d2, d3] => { results := [.lit (.bool false)], args := [d1, d2, d3] }
  | _ => none }
def StripCutsWrongFalsely : Prop := stripCutsRow.holds Try.pinned (OpenSpec.ofChange stripCutsWrong)

/-- 'bureaulaw04.StripCats': WHATEVER THE INPUT: true; the input reads as it did. -/
def stripCatsSpec : ChangeSpec := { name := "stripCats", fn := fun _ => fun
  | [d1, d2, d3] => { results := [.lit (.bool true)], args := [d1, d2, d3] }
  | _ => none }
def stripCatsRow : OpenClaim := { program := "ytliapookpefgiaa", sum := "7faa359502c2b6793a32cf4f7bc302490f101276079d64f16a535582f1001019", func := "bureau/bureaulaw04.StripCats", spec := "stripCats", unfollowed := true, recurses := true, apart := false }
def StripCatsSaid : Prop := stripCatsRow.holds Try.pinned (OpenSpec.ofChange stripCatsSpec)

/-- ITS FALSE NEIGHBOUR: 'it returns false'. Refute it at one input. -/
def stripCatsWrong : ChangeSpec := { name := "stripCats", fn := fun _ => fun
  | [d1, d2, d3] => { results := [.lit (.bool false)], args := [d1, d2, d3] }
  | _ => none }
def StripCatsWrongFalsely : Prop := stripCatsRow.holds Try.pinned (OpenSpec.ofChange stripCatsWrong)

/-- 'bureaulaw04.StripSplices': WHATEVER THE INPUT: true; the input reads as it did. -/
def stripSplicesSpec : ChangeSpec := { name := "stripSplices", fn := fun _ => fun
  | [d1, d2, d3] => { results := [.lit (.bool true)], args := [d1, d2, d3] }
  | _ => none }
def stripSplicesRow : OpenClaim := { program := "ytliapookpefgiaa", sum := "7faa359502c2b6793a32cf4f7bc302490f101276079d64f16a535582f1001019", func := "bureau/bureaulaw04.StripSplices", spec := "stripSplices", unfollowed := true, recurses := true, apart := false }
def StripSplicesSaid : Prop := stripSplicesRow.holds Try.pinned (OpenSpec.ofChange stripSplicesSpec)

/-- ITS FALSE NEIGHBOUR: 'it returns false'. Refute it at one input. -/
def stripSplicesWrong : ChangeSpec := { name := "stripSplices", fn := fun _ => fun
  | [d1, d2, d3] => { results := [.lit (.bool false)], args := [d1, d2, d3] }
  | _ => none }
def StripSplicesWrongFalsely : Prop := stripSplicesRow.holds Try.pinned (OpenSpec.ofChange stripSplicesWrong)

/-- 'bureaulaw04.StripViews': WHATEVER THE INPUT: true; the input reads as it did. -/
def stripViewsSpec : ChangeSpec := { name := "stripViews", fn := fun _ => fun
  | [d1, d2, d3] => { results := [.lit (.bool true)], args := [d1, d2, d3] }
  | _ => none }
def stripViewsRow : OpenClaim := { program := "ytliapookpefgiaa", sum := "7faa359502c2b6793a32cf4f7bc302490f101276079d64f16a535582f1001019", func := "bureau/bureaulaw04.StripViews", spec := "stripViews", unfollowed := true, recurses := true, apart := false }
def StripViewsSaid : Prop := stripViewsRow.holds Try.pinned (OpenSpec.ofChange stripViewsSpec)

/-- ITS FALSE NEIGHBOUR: 'it returns false'. Refute it at one input. -/
def stripViewsWrong : ChangeSpec := { name := "stripViews", fn := fun _ => fun
  | [d1, d2, d3] => { results := [.lit (.bool false)], args := [d1, d2, d3] }
  | _ => none }
def StripViewsWrongFalsely : Prop := stripViewsRow.holds Try.pinned (OpenSpec.ofChange stripViewsWrong)

/-- 'bureaulaw04.StripHides': WHATEVER THE INPUT: true; the input reads as it did. -/
def stripHidesSpec : ChangeSpec := { name := "stripHides", fn := fun _ => fun
  | [d1, d2] => { results := [.lit (.bool true)], args := [d1, d2] }
  | _ => none }
def stripHidesRow : OpenClaim := { program := "ytliapookpefgiaa", sum := "7faa359502c2b6793a32cf4f7bc302490f101276079d64f16a535582f1001019", func := "bureau/bureaulaw04.StripHides", spec := "stripHides", unfollowed := true, recurses := true, apart := false }
def StripHidesSaid : Prop := stripHidesRow.holds Try.pinned (OpenSpec.ofChange stripHidesSpec)

/-- ITS FALSE NEIGHBOUR: 'it returns false'. Refute it at one input. -/
def stripHidesWrong : ChangeSpec := { name := "stripHides", fn := fun _ => fun
  | [d1, d2] => { results := [.lit (.bool false)], args := [d1, d2] }
  | _ => none }
def StripHidesWrongFalsely : Prop := stripHidesRow.holds Try.pinned (OpenSpec.ofChange stripHidesWrong)

/-- 'bureaulaw04.StripHigher': WHATEVER THE INPUT: true; the input reads as it did. -/
def stripHigherSpec : ChangeSpec := { name := "stripHigher", fn := fun _ => fun
  | [d1, d2, d3] => { results := [.lit (.bool true)], args := [d1, d2, d3] }
  | _ => none }
def stripHigherRow : OpenClaim := { program := "ytliapookpefgiaa", sum := "7faa359502c2b6793a32cf4f7bc302490f101276079d64f16a535582f1001019", func := "bureau/bureaulaw04.StripHigher", spec := "stripHigher", unfollowed := true, recurses := true, apart := false }
def StripHigherSaid : Prop := stripHigherRow.holds Try.pinned (OpenSpec.ofChange stripHigherSpec)

/-- ITS FALSE NEIGHBOUR: 'it returns false'. Refute it at one input. -/
def stripHigherWrong : ChangeSpec := { name := "stripHigher", fn := fun _ => fun
  | [d1, d2, d3] => { results := [.lit (.bool false)], args := [d1, d2, d3] }
  | _ => none }
def StripHigherWrongFalsely : Prop := stripHigherRow.holds Try.pinned (OpenSpec.ofChange stripHigherWrong)

/-- 'bureaulaw04.StripParts': WHATEVER THE INPUT: true; the input reads as it did. -/
def stripPartsSpec : ChangeSpec := { name := "stripParts", fn := fun _ => fun
  | [d1, d2] => { results := [.lit (.bool true)], args := [d1, d2] }
  | _ => none }
def stripPartsRow : OpenClaim := { program := "ytliapookpefgiaa", sum := "7faa359502c2b6793a32cf4f7bc302490f101276079d64f16a535582f1001019", func := "bureau/bureaulaw04.StripParts", spec := "stripParts", unfollowed := true, recurses := true, apart := false }
def StripPartsSaid : Prop := stripPartsRow.holds Try.pinned (OpenSpec.ofChange stripPartsSpec)

/-- ITS FALSE NEIGHBOUR: 'it returns false'. Refute it at one input. -/
def stripPartsWrong : ChangeSpec := { name := "stripParts", fn := fun _ => fun
  | [d1, d2] => { results := [.lit (.bool false)], args := [d1, d2] }
  | _ => none }
def StripPartsWrongFalsely : Prop := stripPartsRow.holds Try.pinned (OpenSpec.ofChange stripPartsWrong)

/-- 'bureautop.WholeSees': WHATEVER THE INPUT: true; the input reads as it did. -/
def wholeSeesSpec : ChangeSpec := { name := "wholeSees", fn := fun _ => fun
  | [d1, d2] => { results := [.lit (.bool true)], args := [d1, d2] }
  | _ => none }
def wholeSeesRow : OpenClaim := { program := "ytliapookpefgiaa", sum := "7faa359502c2b6793a32cf4f7bc302490f101276079d64f16a535582f1001019", func := "bureau/bureautop.WholeSees", spec := "wholeSees", unfollowed := true, recurses := true, apart := false }
def WholeSeesSaid : Prop := wholeSeesRow.holds Try.pinned (OpenSpec.ofChange wholeSeesSpec)

/-- ITS FALSE NEIGHBOUR: 'it returns false'. Refute it at one input. -/
def wholeSeesWrong : ChangeSpec := { name := "wholeSees", fn := fun _ => fun
  | [d1, d2] => { results := [.lit (.bool false)], args := [d1, d2] }
  | _ => none }
def WholeSeesWrongFalsely : Prop := wholeSeesRow.holds Try.pinned (OpenSpec.ofChange wholeSeesWrong)

/- THE SECOND FORM. 'bulk': how many values and letters a reading holds, each counted each time it is reached (what is shared counts as often as it is met; a slice's spare places count too). A statement '..UptoSaid' is the law's where the arguments, and the package variables that the reading takes, are together of bulk at most 1048576: NARROWER than '..Said'. Prove '..Said' where nothing that the law and all that it calls make is longer than what came in: it says more and counts as full. Else prove '..UptoSaid'. A law counts once. -/
mutual
def uptoBulk {H : Type} : DataW H → Nat
  | .lit (.string bytes) => bytes.length + 1
  | .lit _ => 1
  | .nil => 1
  | .ptr d => uptoBulk d + 1
  | .slice elems spare => uptoBulkAll elems + uptoBulkAll spare + 1
  | .agg parts => uptoBulkAll parts + 1
  | .iface _ d => uptoBulk d + 1
  | .map entries => uptoBulkEntries entries + 1
  | .held _ => 1
def uptoBulkAll {H : Type} : List (DataW H) → Nat
  | [] => 0
  | d :: r => uptoBulk d + uptoBulkAll r
def uptoBulkEntries {H : Type} : List (Lit × DataW H) → Nat
  | [] => 0
  | x :: r => uptoBulkEntry x + uptoBulkEntries r
def uptoBulkEntry {H : Type} : Lit × DataW H → Nat
  | (.string bytes, d) => bytes.length + uptoBulk d + 1
  | (_, d) => uptoBulk d + 1
 end
def uptoSmall : (H : Type) → List (DataW H) → Bool := fun _ ds => decide (uptoBulkAll ds ≤ 1048576)
def OpenSpec.upto (s : _root_.Go.ChangeSpec) : _root_.Go.OpenSpec := { _root_.Go.OpenSpec.ofChange s with cond := some uptoSmall }

/-- 'bureaulaw04.StripMakes', WHERE WHAT IT READS IS OF BULK AT MOST 1048576: true; the input reads as it did. -/
def stripMakesUptoRow : OpenClaim := { program := "ytliapookpefgiaa", sum := "7faa359502c2b6793a32cf4f7bc302490f101276079d64f16a535582f1001019", func := "bureau/bureaulaw04.StripMakes", spec := "stripMakes", unfollowed := true, recurses := true, apart := false, narrowed := true }
def StripMakesUptoSaid : Prop := stripMakesUptoRow.holds Try.pinned (OpenSpec.upto stripMakesSpec)

/-- 'bureaulaw04.StripCuts', WHERE WHAT IT READS IS OF BULK AT MOST 1048576: true; the input reads as it did. -/
def stripCutsUptoRow : OpenClaim := { program := "ytliapookpefgiaa", sum := "7faa359502c2b6793a32cf4f7bc302490f101276079d64f16a535582f1001019", func := "bureau/bureaulaw04.StripCuts", spec := "stripCuts", unfollowed := true, recurses := true, apart := false, narrowed := true }
def StripCutsUptoSaid : Prop := stripCutsUptoRow.holds Try.pinned (OpenSpec.upto stripCutsSpec)

/-- 'bureaulaw04.StripCats', WHERE WHAT IT READS IS OF BULK AT MOST 1048576: true; the input reads as it did. -/
def stripCatsUptoRow : OpenClaim := { program := "ytliapookpefgiaa", sum := "7faa359502c2b6793a32cf4f7bc302490f101276079d64f16a535582f1001019", func := "bureau/bureaulaw04.StripCats", spec := "stripCats", unfollowed := true, recurses := true, apart := false, narrowed := true }
def StripCatsUptoSaid : Prop := stripCatsUptoRow.holds Try.pinned (OpenSpec.upto stripCatsSpec)

/-- 'bureaulaw04.StripSplices', WHERE WHAT IT READS IS OF BULK AT MOST 1048576: true; the input reads as it did. -/
def stripSplicesUptoRow : OpenClaim := { program := "ytliapookpefgiaa", sum := "7faa359502c2b6793a32cf4f7bc302490f101276079d64f16a535582f1001019", func := "bureau/bureaulaw04.StripSplices", spec := "stripSplices", unfollowed := true, recurses := true, apart := false, narrowed := true }
def StripSplicesUptoSaid : Prop := stripSplicesUptoRow.holds Try.pinned (OpenSpec.upto stripSplicesSpec)

/-- 'bureaulaw04.StripViews', WHERE WHAT IT READS IS OF BULK AT MOST 1048576: true; the input reads as it did. -/
def stripViewsUptoRow : OpenClaim := { program := "ytliapookpefgiaa", sum := "7faa359502c2b6793a32cf4f7bc302490f101276079d64f16a535582f1001019", func := "bureau/bureaulaw04.StripViews", spec := "stripViews", unfollowed := true, recurses := true, apart := false, narrowed := true }
def StripViewsUptoSaid : Prop := stripViewsUptoRow.holds Try.pinned (OpenSpec.upto stripViewsSpec)

/-- 'bureaulaw04.StripHides', WHERE WHAT IT READS IS OF BULK AT MOST 1048576: true; the input reads as it did. -/
def stripHidesUptoRow : OpenClaim := { program := "ytliapookpefgiaa", sum := "7faa359502c2b6793a32cf4f7bc302490f101276079d64f16a535582f1001019", func := "bureau/bureaulaw04.StripHides", spec := "stripHides", unfollowed := true, recurses := true, apart := false, narrowed := true }
def StripHidesUptoSaid : Prop := stripHidesUptoRow.holds Try.pinned (OpenSpec.upto stripHidesSpec)

/-- 'bureaulaw04.StripHigher', WHERE WHAT IT READS IS OF BULK AT MOST 1048576: true; the input reads as it did. -/
def stripHigherUptoRow : OpenClaim := { program := "ytliapookpefgiaa", sum := "7faa359502c2b6793a32cf4f7bc302490f101276079d64f16a535582f1001019", func := "bureau/bureaulaw04.StripHigher", spec := "stripHigher", unfollowed := true, recurses := true, apart := false, narrowed := true }
def StripHigherUptoSaid : Prop := stripHigherUptoRow.holds Try.pinned (OpenSpec.upto stripHigherSpec)

/-- 'bureaulaw04.StripParts', WHERE WHAT IT READS IS OF BULK AT MOST 1048576: true; the input reads as it did. -/
def stripPartsUptoRow : OpenClaim := { program := "ytliapookpefgiaa", sum := "7faa359502c2b6793a32cf4f7bc302490f101276079d64f16a535582f1001019", func := "bureau/bureaulaw04.StripParts", spec := "stripParts", unfollowed := true, recurses := true, apart := false, narrowed := true }
def StripPartsUptoSaid : Prop := stripPartsUptoRow.holds Try.pinned (OpenSpec.upto stripPartsSpec)

/-- 'bureautop.WholeSees', WHERE WHAT IT READS IS OF BULK AT MOST 1048576: true; the input reads as it did. -/
def wholeSeesUptoRow : OpenClaim := { program := "ytliapookpefgiaa", sum := "7faa359502c2b6793a32cf4f7bc302490f101276079d64f16a535582f1001019", func := "bureau/bureautop.WholeSees", spec := "wholeSees", unfollowed := true, recurses := true, apart := false, narrowed := true }
def WholeSeesUptoSaid : Prop := wholeSeesUptoRow.holds Try.pinned (OpenSpec.upto wholeSeesSpec)

end Rows
end Go.Proofs.Ytliapookpefgiaa
