/-
  No cell of these rows narrows 'for every input' (looked for: loops, veiled, ifaces, maps, wideKeys, modest, calm, conditions, laid).
  DERIVED. THE GIVEN ROWS OF THIS SEAT. 6 by the template 'for every input the law returns true; each argument reads behind the call as it read before'; 0 by the template 'total and deterministic' (their statements: YtbfhogldjojlgaaTotals.lean).
  GIVEN WITH THE SEED: the statements are not yours to turn. If you find one false, say at which input.
  Laid BY PROGRAM, IN A SANDBOX (cutbox-rows.mjs): the forced cells as the released guide's own fill.sh prints them over the translation 3e65b7ea8d40b50c… (all of the seat's roots in one cut). By AI agents, Wed Nov 11 2026. No macro, syntax, notation, axiom, sorry.
-/
import Derived.Test.YtbfhogldjojlgaaChecked
import GoSem.Claim
import GoSem.ClaimJoined
import GoSem.ClaimMapViews
import Derived.JoinedTies
import Derived.KernelRfl
namespace Go.Proofs.Ytbfhogldjojlgaa
/- THE CELL 'sum', in the pinned program and in every row, IS THE sha256 OF THE DUMP (.gsa) THAT YtbfhogldjojlgaaProg.lean LOADS. Nothing in Lean hashes anything: it is a label: what it is worth is what the hold of that sum in a sandbox is worth. -/
noncomputable def Try.pinned : Pinned := { name := "ytbfhogldjojlgaa", sum := "3e65b7ea8d40b50c58527fed7c21217bf337197600eb815f3935680865ca5e6e", checked := Try.checked }
namespace Rows
def none {H : Type} : Left H := { results := [], args := [] }

/-- 'bureaulaw02.GlyphSigns': WHATEVER THE INPUT: true; the input reads as it did. -/
def glyphSignsSpec : ChangeSpec := { name := "glyphSigns", fn := fun _ => fun
  | [d] => { results := [.lit (.bool true)], args := [d] }
  | _ => none }
def glyphSignsRow : OpenClaim := { program := "ytbfhogldjojlgaa", sum := "3e65b7ea8d40b50c58527fed7c21217bf337197600eb815f3935680865ca5e6e", func := "bureau/bureaulaw02.GlyphSigns", spec := "glyphSigns", apart := false }
def GlyphSignsSaid : Prop := glyphSignsRow.holds Try.pinned (OpenSpec.ofChange glyphSignsSpec)

/-- ITS FALSE NEIGHBOUR: 'it returns false'. Refute it at one input. -/
def glyphSignsWrong : ChangeSpec := { name := "glyphSigns", fn := fun _ => fun
  | [d] => { results := [.lit (.bool false)], args := [d] }
  | _ => none }
def GlyphSignsWrongFalsely : Prop := glyphSignsRow.holds Try.pinned (OpenSpec.ofChange glyphSignsWrong)

/-- 'bureaulaw02.GlyphMoves': WHATEVER THE INPUT: true; the input reads as it did. -/
def glyphMovesSpec : ChangeSpec := { name := "glyphMoves", fn := fun _ => fun
  | [d1, d2] => { results := [.lit (.bool true)], args := [d1, d2] }
  | _ => none }
def glyphMovesRow : OpenClaim := { program := "ytbfhogldjojlgaa", sum := "3e65b7ea8d40b50c58527fed7c21217bf337197600eb815f3935680865ca5e6e", func := "bureau/bureaulaw02.GlyphMoves", spec := "glyphMoves", apart := false }
def GlyphMovesSaid : Prop := glyphMovesRow.holds Try.pinned (OpenSpec.ofChange glyphMovesSpec)

/-- ITS FALSE NEIGHBOUR: 'it returns false'. Refute it at one input. -/
def glyphMovesWrong : ChangeSpec := { name := "glyphMoves", fn := fun _ => fun
  | [d1, d2] => { results := [.lit (.bool false)], args := [d1, d2] }
  | _ => none }
def GlyphMovesWrongFalsely : Prop := glyphMovesRow.holds Try.pinned (OpenSpec.ofChange glyphMovesWrong)

/-- 'bureaulaw02.GlyphEncodes': WHATEVER THE INPUT: true; the input reads as it did. -/
def glyphEncodesSpec : ChangeSpec := { name := "glyphEncodes", fn := fun _ => fun
  | [d] => { results := [.lit (.bool true)], args := [d] }
  | _ => none }
def glyphEncodesRow : OpenClaim := { program := "ytbfhogldjojlgaa", sum := "3e65b7ea8d40b50c58527fed7c21217bf337197600eb815f3935680865ca5e6e", func := "bureau/bureaulaw02.GlyphEncodes", spec := "glyphEncodes", apart := false }
def GlyphEncodesSaid : Prop := glyphEncodesRow.holds Try.pinned (OpenSpec.ofChange glyphEncodesSpec)

/-- ITS FALSE NEIGHBOUR: 'it returns false'. Refute it at one input. -/
def glyphEncodesWrong : ChangeSpec := { name := "glyphEncodes", fn := fun _ => fun
  | [d] => { results := [.lit (.bool false)], args := [d] }
  | _ => none }
def GlyphEncodesWrongFalsely : Prop := glyphEncodesRow.holds Try.pinned (OpenSpec.ofChange glyphEncodesWrong)

/-- 'bureaulaw02.GlyphCovers': WHATEVER THE INPUT: true; the input reads as it did. -/
def glyphCoversSpec : ChangeSpec := { name := "glyphCovers", fn := fun _ => fun
  | [d] => { results := [.lit (.bool true)], args := [d] }
  | _ => none }
def glyphCoversRow : OpenClaim := { program := "ytbfhogldjojlgaa", sum := "3e65b7ea8d40b50c58527fed7c21217bf337197600eb815f3935680865ca5e6e", func := "bureau/bureaulaw02.GlyphCovers", spec := "glyphCovers", apart := false }
def GlyphCoversSaid : Prop := glyphCoversRow.holds Try.pinned (OpenSpec.ofChange glyphCoversSpec)

/-- ITS FALSE NEIGHBOUR: 'it returns false'. Refute it at one input. -/
def glyphCoversWrong : ChangeSpec := { name := "glyphCovers", fn := fun _ => fun
  | [d] => { results := [.lit (.bool false)], args := [d] }
  | _ => none }
def GlyphCoversWrongFalsely : Prop := glyphCoversRow.holds Try.pinned (OpenSpec.ofChange glyphCoversWrong)

/-- 'bureaulaw02.GlyphJoins': WHATEVER THE INPUT: true; the input reads as it did. -/
def glyphJoinsSpec : ChangeSpec := { name := "glyphJoins", fn := fun _ => fun
  | [d1, d2] => { results := [.lit (.bool true)], args := [d1, d2] }
  | _ => none }
def glyphJoinsRow : OpenClaim := { program := "ytbfhogldjojlgaa", sum := "3e65b7ea8d40b50c58527fed7c21217bf337197600eb815f3935680865ca5e6e", func := "bureau/bureaulaw02.GlyphJoins", spec := "glyphJoins", apart := false }
def GlyphJoinsSaid : Prop := glyphJoinsRow.holds Try.pinned (OpenSpec.ofChange glyphJoinsSpec)

/-- ITS FALSE NEIGHBOUR: 'it returns false'. Refute it at one input. -/
def glyphJoinsWrong : ChangeSpec := { name := "glyphJoins", fn := fun _ => fun
  | [d1, d2] => { results := [.lit (.bool false)], args := [d1, d2] }
  | _ => none }
def GlyphJoinsWrongFalsely : Prop := glyphJoinsRow.holds Try.pinned (OpenSpec.ofChange glyphJoinsWrong)

/-- 'bureaulaw02.GlyphBack': WHATEVER THE INPUT: true; the input reads as it did. -/
def glyphBackSpec : ChangeSpec := { name := "glyphBack", fn := fun _ => fun
  | [d] => { results := [.lit (.bool true)], args := [d] }
  | _ => none }
def glyphBackRow : OpenClaim := { program := "ytbfhogldjojlgaa", sum := "3e65b7ea8d40b50c58527fed7c21217bf337197600eb815f3935680865ca5e6e", func := "bureau/bureaulaw02.GlyphBack", spec := "glyphBack", apart := false }
def GlyphBackSaid : Prop := glyphBackRow.holds Try.pinned (OpenSpec.ofChange glyphBackSpec)

/-- ITS FALSE NEIGHBOUR: 'it returns false'. Refute it at one input. -/
def glyphBackWrong : ChangeSpec := { name := "glyphBack", fn := fun _ => fun
  | [d] => { results := [.lit (.bool false)], args := [d] }
  | _ => none }
def GlyphBackWrongFalsely : Prop := glyphBackRow.holds Try.pinned (OpenSpec.ofChange glyphBackWrong)

/- THE SECOND FORM. 'bulk': how many values and letters a reading holds, each counted each time it is reached (what is shared counts as often as it is met; a slice's spare places count too). A statement '..UptoSaid' is the law's where the arguments, and the package variables that the reading takes, are together of bulk at most 1048576: NARROWER than '..Said'. Prove '..Said' where nothing that the law and all that it calls make is longer than what came in: it says more and counts as full. Else prove '..UptoSaid'. A law counts once. -/
mutual
def uptoBulk {H : Type} : DataW H → Nat
  | .lit (.string bytes) => bytes.length + 1
  | .lit _ => 1
  | .nil => 1
  | .ptr d => uptoBulk d + 1
  | .slice elems spare => uptoBulkAll elems + uptoBulkAll spare + 1
  | .agg parts => uptoBulkAll parts + 1
  | .iface _ d => uptoBulk d + 1
  | .map entries => uptoBulkEntries entries + 1
  | .held _ => 1
def uptoBulkAll {H : Type} : List (DataW H) → Nat
  | [] => 0
  | d :: r => uptoBulk d + uptoBulkAll r
def uptoBulkEntries {H : Type} : List (Lit × DataW H) → Nat
  | [] => 0
  | x :: r => uptoBulkEntry x + uptoBulkEntries r
def uptoBulkEntry {H : Type} : Lit × DataW H → Nat
  | (.string bytes, d) => bytes.length + uptoBulk d + 1
  | (_, d) => uptoBulk d + 1
 end
def uptoSmall : (H : Type) → List (DataW H) → Bool := fun _ ds => decide (uptoBulkAll ds ≤ 1048576)
def OpenSpec.upto (s : _root_.Go.ChangeSpec) : _root_.Go.OpenSpec := { _root_.Go.OpenSpec.ofChange s with cond := some uptoSmall }

/-- 'bureaulaw02.GlyphSigns', WHERE WHAT IT READS IS OF BULK AT MOST 1048576: true; the input reads as it did. -/
def glyphSignsUptoRow : OpenClaim := { program := "ytbfhogldjojlgaa", sum := "3e65b7ea8d40b50c58527fed7c21217bf337197600eb815f3935680865ca5e6e", func := "bureau/bureaulaw02.GlyphSigns", spec := "glyphSigns", apart := false, narrowed := true }
def GlyphSignsUptoSaid : Prop := glyphSignsUptoRow.holds Try.pinned (OpenSpec.upto glyphSignsSpec)

/-- 'bureaulaw02.GlyphMoves', WHERE WHAT IT READS IS OF BULK AT MOST 1048576: true; the input reads as it did. -/
def glyphMovesUptoRow : OpenClaim := { program := "ytbfhogldjojlgaa", sum := "3e65b7ea8d40b50c58527fed7c21217bf337197600eb815f3935680865ca5e6e", func := "bureau/bureaulaw02.GlyphMoves", spec := "glyphMoves", apart := false, narrowed := true }
def GlyphMovesUptoSaid : Prop := glyphMovesUptoRow.holds Try.pinned (OpenSpec.upto glyphMovesSpec)

/-- 'bureaulaw02.GlyphEncodes', WHERE WHAT IT READS IS OF BULK AT MOST 1048576: true; the input reads as it did. -/
def glyphEncodesUptoRow : OpenClaim := { program := "ytbfhogldjojlgaa", sum := "3e65b7ea8d40b50c58527fed7c21217bf337197600eb815f3935680865ca5e6e", func := "bureau/bureaulaw02.GlyphEncodes", spec := "glyphEncodes", apart := false, narrowed := true }
def GlyphEncodesUptoSaid : Prop := glyphEncodesUptoRow.holds Try.pinned (OpenSpec.upto glyphEncodesSpec)

/-- 'bureaulaw02.GlyphCovers', WHERE WHAT IT READS IS OF BULK AT MOST 1048576: true; the input reads as it did. -/
def glyphCoversUptoRow : OpenClaim := { program := "ytbfhogldjojlgaa", sum := "3e65b7ea8d40b50c58527fed7c21217bf337197600eb815f3935680865ca5e6e", func := "bureau/bureaulaw02.GlyphCovers", spec := "glyphCovers", apart := false, narrowed := true }
def GlyphCoversUptoSaid : Prop := glyphCoversUptoRow.holds Try.pinned (OpenSpec.upto glyphCoversSpec)

/-- 'bureaulaw02.GlyphJoins', WHERE WHAT IT READS IS OF BULK AT MOST 1048576: true; the input reads as it did. -/
def glyphJoinsUptoRow : OpenClaim := { program := "ytbfhogldjojlgaa", sum := "3e65b7ea8d40b50c58527fed7c21217bf337197600eb815f3935680865ca5e6e", func := "bureau/bureaulaw02.GlyphJoins", spec := "glyphJoins", apart := false, narrowed := true }
def GlyphJoinsUptoSaid : Prop := glyphJoinsUptoRow.holds Try.pinned (OpenSpec.upto glyphJoinsSpec)

/-- 'bureaulaw02.GlyphBack', WHERE WHAT IT READS IS OF BULK AT MOST 1048576: true; the input reads as it did. -/
def glyphBackUptoRow : OpenClaim := { program := "ytbfhogldjojlgaa", sum := "3e65b7ea8d40b50c58527fed7c21217bf337197600eb815f3935680865ca5e6e", func := "bureau/bureaulaw02.GlyphBack", spec := "glyphBack", apart := false, narrowed := true }
def GlyphBackUptoSaid : Prop := glyphBackUptoRow.holds Try.pinned (OpenSpec.upto glyphBackSpec)

end Rows
end Go.Proofs.Ytbfhogldjojlgaa
