/-
  No cell of these rows narrows 'for every input' (looked for: loops, veiled, ifaces, maps, wideKeys, modest, calm, conditions, laid).
  DERIVED. THE GIVEN ROWS OF THIS SEAT. 6 by the template 'for every input the law returns true; each argument reads behind the call as it read before'; 0 by the template 'total and deterministic' (their statements: YtmpliacojljchaaTotals.lean).
  GIVEN WITH THE SEED: the statements are not yours to turn. If you find one false, say at which input.
  Laid BY PROGRAM, IN A SANDBOX (cutbox-rows.mjs): the forced cells as the released guide's own fill.sh prints them over the translation 256c03ce655995d3… (all of the seat's roots in one cut). By AI agents, Wed Nov 11 2026. No macro, syntax, notation, axiom, sorry.
-/
import Derived.Test.YtmpliacojljchaaChecked
import GoSem.Claim
import GoSem.ClaimJoined
import GoSem.ClaimMapViews
import Derived.JoinedTies
import Derived.KernelRfl
namespace Go.Proofs.Ytmpliacojljchaa
/- THE CELL 'sum', in the pinned program and in every row, IS THE sha256 OF THE DUMP (.gsa) THAT YtmpliacojljchaaProg.lean LOADS. Nothing in Lean hashes anything: it is a label: what it is worth is what the hold of that sum in a sandbox is worth. -/
noncomputable def Try.pinned : Pinned := { name := "ytmpliacojljchaa", sum := "256c03ce655995d363943f15dc8c25a5973cf889e8e774de385480fdce40f6aa", checked := Try.checked }
namespace Rows
def none {H : Type} : Left H := { results := [], args := [] }

/-- 'bureaulaw07.EditMakes': WHATEVER THE INPUT: true; the input reads as it did. -/
def editMakesSpec : ChangeSpec := { name := "editMakes", fn := fun _ => fun
  | [d1, d2, d3] => { results := [.lit (.bool true)], args := [d1, d2, d3] }
  | _ => none }
def editMakesRow : OpenClaim := { program := "ytmpliacojljchaa", sum := "256c03ce655995d363943f15dc8c25a5973cf889e8e774de385480fdce40f6aa", func := "bureau/bureaulaw07.EditMakes", spec := "editMakes", unfollowed := true, recurses := true, apart := false }
def EditMakesSaid : Prop := editMakesRow.holds Try.pinned (OpenSpec.ofChange editMakesSpec)

/-- ITS FALSE NEIGHBOUR: 'it returns false'. Refute it at one input. -/
def editMakesWrong : ChangeSpec := { name := "editMakes", fn := fun _ => fun
  | [d1, d2, d3] => { results := [.lit (.bool false)], args := [d1, d2, d3] }
  | _ => none }
def EditMakesWrongFalsely : Prop := editMakesRow.holds Try.pinned (OpenSpec.ofChange editMakesWrong)

/-- 'bureaulaw07.EditFollows': WHATEVER THE INPUT: true; the input reads as it did. -/
def editFollowsSpec : ChangeSpec := { name := "editFollows", fn := fun _ => fun
  | [d1, d2] => { results := [.lit (.bool true)], args := [d1, d2] }
  | _ => none }
def editFollowsRow : OpenClaim := { program := "ytmpliacojljchaa", sum := "256c03ce655995d363943f15dc8c25a5973cf889e8e774de385480fdce40f6aa", func := "bureau/bureaulaw07.EditFollows", spec := "editFollows", unfollowed := true, recurses := true, apart := false }
def EditFollowsSaid : Prop := editFollowsRow.holds Try.pinned (OpenSpec.ofChange editFollowsSpec)

/-- ITS FALSE NEIGHBOUR: 'it returns false'. Refute it at one input. -/
def editFollowsWrong : ChangeSpec := { name := "editFollows", fn := fun _ => fun
  | [d1, d2] => { results := [.lit (.bool false)], args := [d1, d2] }
  | _ => none }
def EditFollowsWrongFalsely : Prop := editFollowsRow.holds Try.pinned (OpenSpec.ofChange editFollowsWrong)

/-- 'bureaulaw07.EditBack': WHATEVER THE INPUT: true; the input reads as it did. -/
def editBackSpec : ChangeSpec := { name := "editBack", fn := fun _ => fun
  | [d1, d2] => { results := [.lit (.bool true)], args := [d1, d2] }
  | _ => none }
def editBackRow : OpenClaim := { program := "ytmpliacojljchaa", sum := "256c03ce655995d363943f15dc8c25a5973cf889e8e774de385480fdce40f6aa", func := "bureau/bureaulaw07.EditBack", spec := "editBack", unfollowed := true, recurses := true, apart := false }
def EditBackSaid : Prop := editBackRow.holds Try.pinned (OpenSpec.ofChange editBackSpec)

/-- ITS FALSE NEIGHBOUR: 'it returns false'. Refute it at one input. -/
def editBackWrong : ChangeSpec := { name := "editBack", fn := fun _ => fun
  | [d1, d2] => { results := [.lit (.bool false)], args := [d1, d2] }
  | _ => none }
def EditBackWrongFalsely : Prop := editBackRow.holds Try.pinned (OpenSpec.ofChange editBackWrong)

/-- 'bureaulaw07.EditOnce': WHATEVER THE INPUT: true; the input reads as it did. -/
def editOnceSpec : ChangeSpec := { name := "editOnce", fn := fun _ => fun
  | [d1, d2, d3] => { results := [.lit (.bool true)], args := [d1, d2, d3] }
  | _ => none }
def editOnceRow : OpenClaim := { program := "ytmpliacojljchaa", sum := "256c03ce655995d363943f15dc8c25a5973cf889e8e774de385480fdce40f6aa", func := "bureau/bureaulaw07.EditOnce", spec := "editOnce", unfollowed := true, recurses := true, apart := false }
def EditOnceSaid : Prop := editOnceRow.holds Try.pinned (OpenSpec.ofChange editOnceSpec)

/-- ITS FALSE NEIGHBOUR: 'it returns false'. Refute it at one input. -/
def editOnceWrong : ChangeSpec := { name := "editOnce", fn := fun _ => fun
  | [d1, d2, d3] => { results := [.lit (.bool false)], args := [d1, d2, d3] }
  | _ => none }
def EditOnceWrongFalsely : Prop := editOnceRow.holds Try.pinned (OpenSpec.ofChange editOnceWrong)

/-- 'bureaulaw07.EditHides': WHATEVER THE INPUT: true; the input reads as it did. -/
def editHidesSpec : ChangeSpec := { name := "editHides", fn := fun _ => fun
  | [d1, d2] => { results := [.lit (.bool true)], args := [d1, d2] }
  | _ => none }
def editHidesRow : OpenClaim := { program := "ytmpliacojljchaa", sum := "256c03ce655995d363943f15dc8c25a5973cf889e8e774de385480fdce40f6aa", func := "bureau/bureaulaw07.EditHides", spec := "editHides", unfollowed := true, recurses := true, apart := false }
def EditHidesSaid : Prop := editHidesRow.holds Try.pinned (OpenSpec.ofChange editHidesSpec)

/-- ITS FALSE NEIGHBOUR: 'it returns false'. Refute it at one input. -/
def editHidesWrong : ChangeSpec := { name := "editHides", fn := fun _ => fun
  | [d1, d2] => { results := [.lit (.bool false)], args := [d1, d2] }
  | _ => none }
def EditHidesWrongFalsely : Prop := editHidesRow.holds Try.pinned (OpenSpec.ofChange editHidesWrong)

/-- 'bureautop.WholeReplays': WHATEVER THE INPUT: true; the input reads as it did. -/
def wholeReplaysSpec : ChangeSpec := { name := "wholeReplays", fn := fun _ => fun
  | [d1, d2] => { results := [.lit (.bool true)], args := [d1, d2] }
  | _ => none }
def wholeReplaysRow : OpenClaim := { program := "ytmpliacojljchaa", sum := "256c03ce655995d363943f15dc8c25a5973cf889e8e774de385480fdce40f6aa", func := "bureau/bureautop.WholeReplays", spec := "wholeReplays", unfollowed := true, recurses := true, apart := false }
def WholeReplaysSaid : Prop := wholeReplaysRow.holds Try.pinned (OpenSpec.ofChange wholeReplaysSpec)

/-- ITS FALSE NEIGHBOUR: 'it returns false'. Refute it at one input. -/
def wholeReplaysWrong : ChangeSpec := { name := "wholeReplays", fn := fun _ => fun
  | [d1, d2] => { results := [.lit (.bool false)], args := [d1, d2] }
  | _ => none }
def WholeReplaysWrongFalsely : Prop := wholeReplaysRow.holds Try.pinned (OpenSpec.ofChange wholeReplaysWrong)

/- THE SECOND FORM. 'bulk': how many values and letters a reading holds, each counted each time it is reached (what is shared counts as often as it is met; a slice's spare places count too). A statement '..UptoSaid' is the law's where the arguments, and the package variables that the reading takes, are together of bulk at most 1048576: NARROWER than '..Said'. Prove '..Said' where nothing that the law and all that it calls make is longer than what came in: it says more and counts as full. Else prove '..UptoSaid'. A law counts once. -/
mutual
def uptoBulk {H : Type} : DataW H → Nat
  | .lit (.string bytes) => bytes.length + 1
  | .lit _ => 1
  | .nil => 1
  | .ptr d => uptoBulk d + 1
  | .slice elems spare => uptoBulkAll elems + uptoBulkAll spare + 1
  | .agg parts => uptoBulkAll parts + 1
  | .iface _ d => uptoBulk d + 1
  | .map entries => uptoBulkEntries entries + 1
  | .held _ => 1
def uptoBulkAll {H : Type} : List (DataW H) → Nat
  | [] => 0
  | d :: r => uptoBulk d + uptoBulkAll r
def uptoBulkEntries {H : Type} : List (Lit × DataW H) → Nat
  | [] => 0
  | x :: r => uptoBulkEntry x + uptoBulkEntries r
def uptoBulkEntry {H : Type} : Lit × DataW H → Nat
  | (.string bytes, d) => bytes.length + uptoBulk d + 1
  | (_, d) => uptoBulk d + 1
 end
def uptoSmall : (H : Type) → List (DataW H) → Bool := fun _ ds => decide (uptoBulkAll ds ≤ 1048576)
def OpenSpec.upto (s : _root_.Go.ChangeSpec) : _root_.Go.OpenSpec := { _root_.Go.OpenSpec.ofChange s with cond := some uptoSmall }

/-- 'bureaulaw07.EditMakes', WHERE WHAT IT READS IS OF BULK AT MOST 1048576: true; the input reads as it did. -/
def editMakesUptoRow : OpenClaim := { program := "ytmpliacojljchaa", sum := "256c03ce655995d363943f15dc8c25a5973cf889e8e774de385480fdce40f6aa", func := "bureau/bureaulaw07.EditMakes", spec := "editMakes", unfollowed := true, recurses := true, apart := false, narrowed := true }
def EditMakesUptoSaid : Prop := editMakesUptoRow.holds Try.pinned (OpenSpec.upto editMakesSpec)

/-- 'bureaulaw07.EditFollows', WHERE WHAT IT READS IS OF BULK AT MOST 1048576: true; the input reads as it did. -/
def editFollowsUptoRow : OpenClaim := { program := "ytmpliacojljchaa", sum := "256c03ce655995d363943f15dc8c25a5973cf889e8e774de385480fdce40f6aa", func := "bureau/bureaulaw07.EditFollows", spec := "editFollows", unfollowed := true, recurses := true, apart := false, narrowed := true }
def EditFollowsUptoSaid : Prop := editFollowsUptoRow.holds Try.pinned (OpenSpec.upto editFollowsSpec)

/-- 'bureaulaw07.EditBack', WHERE WHAT IT READS IS OF BULK AT MOST 1048576: true; the input reads as it did. -/
def editBackUptoRow : OpenClaim := { program := "ytmpliacojljchaa", sum := "256c03ce655995d363943f15dc8c25a5973cf889e8e774de385480fdce40f6aa", func := "bureau/bureaulaw07.EditBack", spec := "editBack", unfollowed := true, recurses := true, apart := false, narrowed := true }
def EditBackUptoSaid : Prop := editBackUptoRow.holds Try.pinned (OpenSpec.upto editBackSpec)

/-- 'bureaulaw07.EditOnce', WHERE WHAT IT READS IS OF BULK AT MOST 1048576: true; the input reads as it did. -/
def editOnceUptoRow : OpenClaim := { program := "ytmpliacojljchaa", sum := "256c03ce655995d363943f15dc8c25a5973cf889e8e774de385480fdce40f6aa", func := "bureau/bureaulaw07.EditOnce", spec := "editOnce", unfollowed := true, recurses := true, apart := false, narrowed := true }
def EditOnceUptoSaid : Prop := editOnceUptoRow.holds Try.pinned (OpenSpec.upto editOnceSpec)

/-- 'bureaulaw07.EditHides', WHERE WHAT IT READS IS OF BULK AT MOST 1048576: true; the input reads as it did. -/
def editHidesUptoRow : OpenClaim := { program := "ytmpliacojljchaa", sum := "256c03ce655995d363943f15dc8c25a5973cf889e8e774de385480fdce40f6aa", func := "bureau/bureaulaw07.EditHides", spec := "editHides", unfollowed := true, recurses := true, apart := false, narrowed := true }
def EditHidesUptoSaid : Prop := editHidesUptoRow.holds Try.pinned (OpenSpec.upto editHidesSpec)

/-- 'bureautop.WholeReplays', WHERE WHAT IT READS IS OF BULK AT MOST 1048576: true; the input reads as it did. -/
def wholeReplaysUptoRow : OpenClaim := { program := "ytmpliacojljchaa", sum := "256c03ce655995d363943f15dc8c25a5973cf889e8e774de385480fdce40f6aa", func := "bureau/bureautop.WholeReplays", spec := "wholeReplays", unfollowed := true, recurses := true, apart := false, narrowed := true }
def WholeReplaysUptoSaid : Prop := wholeReplaysUptoRow.holds Try.pinned (OpenSpec.upto wholeReplaysSpec)

end Rows
end Go.Proofs.Ytmpliacojljchaa
