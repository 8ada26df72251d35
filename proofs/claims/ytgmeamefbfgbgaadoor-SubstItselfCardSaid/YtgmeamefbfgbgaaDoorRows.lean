/-
  NARROWER THAN 'FOR EVERY INPUT', by the rows' own cells (each row's printed sentence says how): SubstDoes: laid · SubstCounts: laid · SubstNone: laid · SubstItself: laid · SubstHides: laid · WholeSwaps: laid.
  DERIVED. THE GIVEN ROWS OF THIS SEAT. 6 by the template 'for every input the law returns true; each argument reads behind the call as it read before'; 0 by the template 'total and deterministic' (their statements: YtgmeamefbfgbgaaDoorTotals.lean).
  GIVEN WITH THE SEED: the statements are not yours to turn. If you find one false, say at which input.
  Laid BY PROGRAM, IN A SANDBOX (cutbox-rows.mjs): the forced cells as the released guide's own fill.sh prints them over the translation cbc91e44cdb61ca7… (all of the seat's roots in one cut). By AI agents, Wed Nov 11 2026. No macro, syntax, notation, axiom, sorry.
-/
import Derived.Test.YtgmeamefbfgbgaaDoorChecked
import GoSem.PinnedTables
import GoSem.Claim
import GoSem.ClaimJoined
import GoSem.ClaimMapViews
import Derived.JoinedTies
import Derived.KernelRfl
namespace Go.Proofs.YtgmeamefbfgbgaaDoor
/- THE CELL 'sum', in the pinned program and in every row, IS THE sha256 OF THE DUMP (.gsa) THAT YtgmeamefbfgbgaaDoorProg.lean LOADS. Nothing in Lean hashes anything: it is a label: what it is worth is what the hold of that sum in a sandbox is worth. -/
noncomputable def Tryd.pinned : Pinned := { name := "ytgmeamefbfgbgaadoor", sum := "cbc91e44cdb61ca7e7d40a22db8e3c414143ea1475c2b1c1b2f260d5a70a0065", checked := Tryd.checked }
namespace Rows
def none {H : Type} : Left H := { results := [], args := [] }

/- WHAT THE LISTED PACKAGE-LEVEL VARIABLES READ AS WHEN THE CALL BEGINS. Each datum BY PROGRAM (the guide's laid-datum.mjs) off the statement by which the dump's own 'gosem.cut.vars' lays the variable. In a bare row this is a premise. The card (YtgmeamefbfgbgaaDoorCards.lean) ties it to the program's text. -/
def laid_unicode_utf8_acceptRanges {H : Type} : DataW H := .agg [.agg [.lit (.int .u8 128), .lit (.int .u8 191)], .agg [.lit (.int .u8 160), .lit (.int .u8 191)], .agg [.lit (.int .u8 128), .lit (.int .u8 159)], .agg [.lit (.int .u8 144), .lit (.int .u8 191)], .agg [.lit (.int .u8 128), .lit (.int .u8 143)], .agg [.lit (.int .u8 0), .lit (.int .u8 0)], .agg [.lit (.int .u8 0), .lit (.int .u8 0)], .agg [.lit (.int .u8 0), .lit (.int .u8 0)], .agg [.lit (.int .u8 0), .lit (.int .u8 0)], .agg [.lit (.int .u8 0), .lit (.int .u8 0)], .agg [.lit (.int .u8 0), .lit (.int .u8 0)], .agg [.lit (.int .u8 0), .lit (.int .u8 0)], .agg [.lit (.int .u8 0), .lit (.int .u8 0)], .agg [.lit (.int .u8 0), .lit (.int .u8 0)], .agg [.lit (.int .u8 0), .lit (.int .u8 0)], .agg [.lit (.int .u8 0), .lit (.int .u8 0)]]
/-- One of Go's own tables, pinned by name: the form's constant. -/
def laid_unicode_utf8_first : DataW Unit := Go.Pinned.utf8First

/-- 'bureaulaw15.SubstDoes': WHATEVER THE INPUT: true; the input reads as it did. -/
def substDoesSpec : ChangeSpec := { name := "substDoes", fn := fun _ => fun
  | [d1, d2, d3] => { results := [.lit (.bool true)], args := [d1, d2, d3] }
  | _ => none }
def substDoesRow : OpenClaim := { program := "ytgmeamefbfgbgaadoor", sum := "cbc91e44cdb61ca7e7d40a22db8e3c414143ea1475c2b1c1b2f260d5a70a0065", func := "bureau/bureaulaw15.SubstDoes", spec := "substDoes", inPlace := ["internal/bytealg.CountString", "internal/bytealg.IndexByteString", "internal/bytealg.IndexString", "internal/abi.NoEscape"], unfollowed := true, recurses := true, named := ["internal/bytealg.MaxLen", "unicode/utf8.first", "unicode/utf8.acceptRanges"], apart := false, laid := [("unicode/utf8.acceptRanges", laid_unicode_utf8_acceptRanges), ("unicode/utf8.first", laid_unicode_utf8_first)] }
def SubstDoesSaid : Prop := substDoesRow.holds Tryd.pinned (OpenSpec.ofChange substDoesSpec)

/-- ITS FALSE NEIGHBOUR: 'it returns false'. Refute it at one input. -/
def substDoesWrong : ChangeSpec := { name := "substDoes", fn := fun _ => fun
  | [d1, d2, d3] => { results := [.lit (.bool false)], args := [d1, d2, d3] }
  | _ => none }
def SubstDoesWrongFalsely : Prop := substDoesRow.holds Tryd.pinned (OpenSpec.ofChange substDoesWrong)

/-- 'bureaulaw15.SubstCounts': WHATEVER THE INPUT: true; the input reads as it did. -/
def substCountsSpec : ChangeSpec := { name := "substCounts", fn := fun _ => fun
  | [d1, d2, d3] => { results := [.lit (.bool true)], args := [d1, d2, d3] }
  | _ => none }
def substCountsRow : OpenClaim := { program := "ytgmeamefbfgbgaadoor", sum := "cbc91e44cdb61ca7e7d40a22db8e3c414143ea1475c2b1c1b2f260d5a70a0065", func := "bureau/bureaulaw15.SubstCounts", spec := "substCounts", inPlace := ["internal/bytealg.CountString", "internal/bytealg.IndexByteString", "internal/bytealg.IndexString", "internal/abi.NoEscape"], unfollowed := true, recurses := true, named := ["internal/bytealg.MaxLen", "unicode/utf8.first", "unicode/utf8.acceptRanges"], apart := false, laid := [("unicode/utf8.acceptRanges", laid_unicode_utf8_acceptRanges), ("unicode/utf8.first", laid_unicode_utf8_first)] }
def SubstCountsSaid : Prop := substCountsRow.holds Tryd.pinned (OpenSpec.ofChange substCountsSpec)

/-- ITS FALSE NEIGHBOUR: 'it returns false'. Refute it at one input. -/
def substCountsWrong : ChangeSpec := { name := "substCounts", fn := fun _ => fun
  | [d1, d2, d3] => { results := [.lit (.bool false)], args := [d1, d2, d3] }
  | _ => none }
def SubstCountsWrongFalsely : Prop := substCountsRow.holds Tryd.pinned (OpenSpec.ofChange substCountsWrong)

/-- 'bureaulaw15.SubstNone': WHATEVER THE INPUT: true; the input reads as it did. -/
def substNoneSpec : ChangeSpec := { name := "substNone", fn := fun _ => fun
  | [d1, d2, d3] => { results := [.lit (.bool true)], args := [d1, d2, d3] }
  | _ => none }
def substNoneRow : OpenClaim := { program := "ytgmeamefbfgbgaadoor", sum := "cbc91e44cdb61ca7e7d40a22db8e3c414143ea1475c2b1c1b2f260d5a70a0065", func := "bureau/bureaulaw15.SubstNone", spec := "substNone", inPlace := ["internal/bytealg.CountString", "internal/bytealg.IndexByteString", "internal/bytealg.IndexString", "internal/abi.NoEscape"], unfollowed := true, recurses := true, named := ["internal/bytealg.MaxLen", "unicode/utf8.first", "unicode/utf8.acceptRanges"], apart := false, laid := [("unicode/utf8.acceptRanges", laid_unicode_utf8_acceptRanges), ("unicode/utf8.first", laid_unicode_utf8_first)] }
def SubstNoneSaid : Prop := substNoneRow.holds Tryd.pinned (OpenSpec.ofChange substNoneSpec)

/-- ITS FALSE NEIGHBOUR: 'it returns false'. Refute it at one input. -/
def substNoneWrong : ChangeSpec := { name := "substNone", fn := fun _ => fun
  | [d1, d2, d3] => { results := [.lit (.bool false)], args := [d1, d2, d3] }
  | _ => none }
def SubstNoneWrongFalsely : Prop := substNoneRow.holds Tryd.pinned (OpenSpec.ofChange substNoneWrong)

/-- 'bureaulaw15.SubstItself': WHATEVER THE INPUT: true; the input reads as it did. -/
def substItselfSpec : ChangeSpec := { name := "substItself", fn := fun _ => fun
  | [d1, d2, d3] => { results := [.lit (.bool true)], args := [d1, d2, d3] }
  | _ => none }
def substItselfRow : OpenClaim := { program := "ytgmeamefbfgbgaadoor", sum := "cbc91e44cdb61ca7e7d40a22db8e3c414143ea1475c2b1c1b2f260d5a70a0065", func := "bureau/bureaulaw15.SubstItself", spec := "substItself", inPlace := ["internal/bytealg.CountString", "internal/bytealg.IndexByteString", "internal/bytealg.IndexString", "internal/abi.NoEscape"], unfollowed := true, recurses := true, named := ["internal/bytealg.MaxLen", "unicode/utf8.first", "unicode/utf8.acceptRanges"], apart := false, laid := [("unicode/utf8.acceptRanges", laid_unicode_utf8_acceptRanges), ("unicode/utf8.first", laid_unicode_utf8_first)] }
def SubstItselfSaid : Prop := substItselfRow.holds Tryd.pinned (OpenSpec.ofChange substItselfSpec)

/-- ITS FALSE NEIGHBOUR: 'it returns false'. Refute it at one input. -/
def substItselfWrong : ChangeSpec := { name := "substItself", fn := fun _ => fun
  | [d1, d2, d3] => { results := [.lit (.bool false)], args := [d1, d2, d3] }
  | _ => none }
def SubstItselfWrongFalsely : Prop := substItselfRow.holds Tryd.pinned (OpenSpec.ofChange substItselfWrong)

/-- 'bureaulaw15.SubstHides': WHATEVER THE INPUT: true; the input reads as it did. -/
def substHidesSpec : ChangeSpec := { name := "substHides", fn := fun _ => fun
  | [d1, d2, d3] => { results := [.lit (.bool true)], args := [d1, d2, d3] }
  | _ => none }
def substHidesRow : OpenClaim := { program := "ytgmeamefbfgbgaadoor", sum := "cbc91e44cdb61ca7e7d40a22db8e3c414143ea1475c2b1c1b2f260d5a70a0065", func := "bureau/bureaulaw15.SubstHides", spec := "substHides", inPlace := ["internal/bytealg.CountString", "internal/bytealg.IndexByteString", "internal/bytealg.IndexString", "internal/abi.NoEscape"], unfollowed := true, recurses := true, named := ["internal/bytealg.MaxLen", "unicode/utf8.first", "unicode/utf8.acceptRanges"], apart := false, laid := [("unicode/utf8.acceptRanges", laid_unicode_utf8_acceptRanges), ("unicode/utf8.first", laid_unicode_utf8_first)] }
def SubstHidesSaid : Prop := substHidesRow.holds Tryd.pinned (OpenSpec.ofChange substHidesSpec)

/-- ITS FALSE NEIGHBOUR: 'it returns false'. Refute it at one input. -/
def substHidesWrong : ChangeSpec := { name := "substHides", fn := fun _ => fun
  | [d1, d2, d3] => { results := [.lit (.bool false)], args := [d1, d2, d3] }
  | _ => none }
def SubstHidesWrongFalsely : Prop := substHidesRow.holds Tryd.pinned (OpenSpec.ofChange substHidesWrong)

/-- 'bureautop.WholeSwaps': WHATEVER THE INPUT: true; the input reads as it did. -/
def wholeSwapsSpec : ChangeSpec := { name := "wholeSwaps", fn := fun _ => fun
  | [d1, d2, d3] => { results := [.lit (.bool true)], args := [d1, d2, d3] }
  | _ => none }
def wholeSwapsRow : OpenClaim := { program := "ytgmeamefbfgbgaadoor", sum := "cbc91e44cdb61ca7e7d40a22db8e3c414143ea1475c2b1c1b2f260d5a70a0065", func := "bureau/bureautop.WholeSwaps", spec := "wholeSwaps", inPlace := ["internal/bytealg.CountString", "internal/bytealg.IndexByteString", "internal/bytealg.IndexString", "internal/abi.NoEscape"], unfollowed := true, recurses := true, named := ["internal/bytealg.MaxLen", "unicode/utf8.first", "unicode/utf8.acceptRanges"], apart := false, laid := [("unicode/utf8.acceptRanges", laid_unicode_utf8_acceptRanges), ("unicode/utf8.first", laid_unicode_utf8_first)] }
def WholeSwapsSaid : Prop := wholeSwapsRow.holds Tryd.pinned (OpenSpec.ofChange wholeSwapsSpec)

/-- ITS FALSE NEIGHBOUR: 'it returns false'. Refute it at one input. -/
def wholeSwapsWrong : ChangeSpec := { name := "wholeSwaps", fn := fun _ => fun
  | [d1, d2, d3] => { results := [.lit (.bool false)], args := [d1, d2, d3] }
  | _ => none }
def WholeSwapsWrongFalsely : Prop := wholeSwapsRow.holds Tryd.pinned (OpenSpec.ofChange wholeSwapsWrong)

/- THE SECOND FORM. 'bulk': how many values and letters a reading holds, each counted each time it is reached (what is shared counts as often as it is met; a slice's spare places count too). A statement '..UptoSaid' is the law's where the arguments, and the package variables that the reading takes, are together of bulk at most 1048576: NARROWER than '..Said'. Prove '..Said' where nothing that the law and all that it calls make is longer than what came in: it says more and counts as full. Else prove '..UptoSaid'. A law counts once. -/
mutual
def uptoBulk {H : Type} : DataW H → Nat
  | .lit (.string bytes) => bytes.length + 1
  | .lit _ => 1
  | .nil => 1
  | .ptr d => uptoBulk d + 1
  | .slice elems spare => uptoBulkAll elems + uptoBulkAll spare + 1
  | .agg parts => uptoBulkAll parts + 1
  | .iface _ d => uptoBulk d + 1
  | .map entries => uptoBulkEntries entries + 1
  | .held _ => 1
def uptoBulkAll {H : Type} : List (DataW H) → Nat
  | [] => 0
  | d :: r => uptoBulk d + uptoBulkAll r
def uptoBulkEntries {H : Type} : List (Lit × DataW H) → Nat
  | [] => 0
  | x :: r => uptoBulkEntry x + uptoBulkEntries r
def uptoBulkEntry {H : Type} : Lit × DataW H → Nat
  | (.string bytes, d) => bytes.length + uptoBulk d + 1
  | (_, d) => uptoBulk d + 1
 end
def uptoSmall : (H : Type) → List (DataW H) → Bool := fun _ ds => decide (uptoBulkAll ds ≤ 1048576)
def OpenSpec.upto (s : _root_.Go.ChangeSpec) : _root_.Go.OpenSpec := { _root_.Go.OpenSpec.ofChange s with cond := some uptoSmall }

/-- 'bureaulaw15.SubstDoes', WHERE WHAT IT READS IS OF BULK AT MOST 1048576: true; the input reads as it did. -/
def substDoesUptoRow : OpenClaim := { program := "ytgmeamefbfgbgaadoor", sum := "cbc91e44cdb61ca7e7d40a22db8e3c414143ea1475c2b1c1b2f260d5a70a0065", func := "bureau/bureaulaw15.SubstDoes", spec := "substDoes", inPlace := ["internal/bytealg.CountString", "internal/bytealg.IndexByteString", "internal/bytealg.IndexString", "internal/abi.NoEscape"], unfollowed := true, recurses := true, named := ["internal/bytealg.MaxLen", "unicode/utf8.first", "unicode/utf8.acceptRanges"], apart := false, laid := [("unicode/utf8.acceptRanges", laid_unicode_utf8_acceptRanges), ("unicode/utf8.first", laid_unicode_utf8_first)], narrowed := true }
def SubstDoesUptoSaid : Prop := substDoesUptoRow.holds Tryd.pinned (OpenSpec.upto substDoesSpec)

/-- 'bureaulaw15.SubstCounts', WHERE WHAT IT READS IS OF BULK AT MOST 1048576: true; the input reads as it did. -/
def substCountsUptoRow : OpenClaim := { program := "ytgmeamefbfgbgaadoor", sum := "cbc91e44cdb61ca7e7d40a22db8e3c414143ea1475c2b1c1b2f260d5a70a0065", func := "bureau/bureaulaw15.SubstCounts", spec := "substCounts", inPlace := ["internal/bytealg.CountString", "internal/bytealg.IndexByteString", "internal/bytealg.IndexString", "internal/abi.NoEscape"], unfollowed := true, recurses := true, named := ["internal/bytealg.MaxLen", "unicode/utf8.first", "unicode/utf8.acceptRanges"], apart := false, laid := [("unicode/utf8.acceptRanges", laid_unicode_utf8_acceptRanges), ("unicode/utf8.first", laid_unicode_utf8_first)], narrowed := true }
def SubstCountsUptoSaid : Prop := substCountsUptoRow.holds Tryd.pinned (OpenSpec.upto substCountsSpec)

/-- 'bureaulaw15.SubstNone', WHERE WHAT IT READS IS OF BULK AT MOST 1048576: true; the input reads as it did. -/
def substNoneUptoRow : OpenClaim := { program := "ytgmeamefbfgbgaadoor", sum := "cbc91e44cdb61ca7e7d40a22db8e3c414143ea1475c2b1c1b2f260d5a70a0065", func := "bureau/bureaulaw15.SubstNone", spec := "substNone", inPlace := ["internal/bytealg.CountString", "internal/bytealg.IndexByteString", "internal/bytealg.IndexString", "internal/abi.NoEscape"], unfollowed := true, recurses := true, named := ["internal/bytealg.MaxLen", "unicode/utf8.first", "unicode/utf8.acceptRanges"], apart := false, laid := [("unicode/utf8.acceptRanges", laid_unicode_utf8_acceptRanges), ("unicode/utf8.first", laid_unicode_utf8_first)], narrowed := true }
def SubstNoneUptoSaid : Prop := substNoneUptoRow.holds Tryd.pinned (OpenSpec.upto substNoneSpec)

/-- 'bureaulaw15.SubstItself', WHERE WHAT IT READS IS OF BULK AT MOST 1048576: true; the input reads as it did. -/
def substItselfUptoRow : OpenClaim := { program := "ytgmeamefbfgbgaadoor", sum := "cbc91e44cdb61ca7e7d40a22db8e3c414143ea1475c2b1c1b2f260d5a70a0065", func := "bureau/bureaulaw15.SubstItself", spec := "substItself", inPlace := ["internal/bytealg.CountString", "internal/bytealg.IndexByteString", "internal/bytealg.IndexString", "internal/abi.NoEscape"], unfollowed := true, recurses := true, named := ["internal/bytealg.MaxLen", "unicode/utf8.first", "unicode/utf8.acceptRanges"], apart := false, laid := [("unicode/utf8.acceptRanges", laid_unicode_utf8_acceptRanges), ("unicode/utf8.first", laid_unicode_utf8_first)], narrowed := true }
def SubstItselfUptoSaid : Prop := substItselfUptoRow.holds Tryd.pinned (OpenSpec.upto substItselfSpec)

/-- 'bureaulaw15.SubstHides', WHERE WHAT IT READS IS OF BULK AT MOST 1048576: true; the input reads as it did. -/
def substHidesUptoRow : OpenClaim := { program := "ytgmeamefbfgbgaadoor", sum := "cbc91e44cdb61ca7e7d40a22db8e3c414143ea1475c2b1c1b2f260d5a70a0065", func := "bureau/bureaulaw15.SubstHides", spec := "substHides", inPlace := ["internal/bytealg.CountString", "internal/bytealg.IndexByteString", "internal/bytealg.IndexString", "internal/abi.NoEscape"], unfollowed := true, recurses := true, named := ["internal/bytealg.MaxLen", "unicode/utf8.first", "unicode/utf8.acceptRanges"], apart := false, laid := [("unicode/utf8.acceptRanges", laid_unicode_utf8_acceptRanges), ("unicode/utf8.first", laid_unicode_utf8_first)], narrowed := true }
def SubstHidesUptoSaid : Prop := substHidesUptoRow.holds Tryd.pinned (OpenSpec.upto substHidesSpec)

/-- 'bureautop.WholeSwaps', WHERE WHAT IT READS IS OF BULK AT MOST 1048576: true; the input reads as it did. -/
def wholeSwapsUptoRow : OpenClaim := { program := "ytgmeamefbfgbgaadoor", sum := "cbc91e44cdb61ca7e7d40a22db8e3c414143ea1475c2b1c1b2f260d5a70a0065", func := "bureau/bureautop.WholeSwaps", spec := "wholeSwaps", inPlace := ["internal/bytealg.CountString", "internal/bytealg.IndexByteString", "internal/bytealg.IndexString", "internal/abi.NoEscape"], unfollowed := true, recurses := true, named := ["internal/bytealg.MaxLen", "unicode/utf8.first", "unicode/utf8.acceptRanges"], apart := false, laid := [("unicode/utf8.acceptRanges", laid_unicode_utf8_acceptRanges), ("unicode/utf8.first", laid_unicode_utf8_first)], narrowed := true }
def WholeSwapsUptoSaid : Prop := wholeSwapsUptoRow.holds Tryd.pinned (OpenSpec.upto wholeSwapsSpec)

end Rows
end Go.Proofs.YtgmeamefbfgbgaaDoor
