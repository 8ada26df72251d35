/-
  No cell of these rows narrows 'for every input' (looked for: loops, veiled, ifaces, maps, wideKeys, modest, calm, conditions, laid).
  DERIVED. THE GIVEN ROWS OF THIS SEAT. 5 by the template 'for every input the law returns true; each argument reads behind the call as it read before'; 0 by the template 'total and deterministic' (their statements: YtacpfkkbjibmgaaTotals.lean).
  GIVEN WITH THE SEED: the statements are not yours to turn. If you find one false, say at which input.
  Laid BY PROGRAM, IN A SANDBOX (cutbox-rows.mjs): the forced cells as the released guide's own fill.sh prints them over the translation 702dee47b7fc90a3… (all of the seat's roots in one cut). By AI agents, Wed Nov 11 2026. No macro, syntax, notation, axiom, sorry.
-/
import Derived.Test.YtacpfkkbjibmgaaChecked
import GoSem.Claim
import GoSem.ClaimJoined
import GoSem.ClaimMapViews
import Derived.JoinedTies
import Derived.KernelRfl
namespace Go.Proofs.Ytacpfkkbjibmgaa
/- THE CELL 'sum', in the pinned program and in every row, IS THE sha256 OF THE DUMP (.gsa) THAT YtacpfkkbjibmgaaProg.lean LOADS. Nothing in Lean hashes anything: it is a label: what it is worth is what the hold of that sum in a sandbox is worth. -/
noncomputable def Try.pinned : Pinned := { name := "ytacpfkkbjibmgaa", sum := "702dee47b7fc90a3d459000e45f512c2c1a725615e1429b68a17991bf4f14648", checked := Try.checked }
namespace Rows
def none {H : Type} : Left H := { results := [], args := [] }

/-- 'bureaulaw05.PieceActs': WHATEVER THE INPUT: true; the input reads as it did. -/
def pieceActsSpec : ChangeSpec := { name := "pieceActs", fn := fun _ => fun
  | [d1, d2] => { results := [.lit (.bool true)], args := [d1, d2] }
  | _ => none }
def pieceActsRow : OpenClaim := { program := "ytacpfkkbjibmgaa", sum := "702dee47b7fc90a3d459000e45f512c2c1a725615e1429b68a17991bf4f14648", func := "bureau/bureaulaw05.PieceActs", spec := "pieceActs", inPlace := ["slices.overlaps[bureau/piece.piece]"], apart := false }
def PieceActsSaid : Prop := pieceActsRow.holds Try.pinned (OpenSpec.ofChange pieceActsSpec)

/-- ITS FALSE NEIGHBOUR: 'it returns false'. Refute it at one input. -/
def pieceActsWrong : ChangeSpec := { name := "pieceActs", fn := fun _ => fun
  | [d1, d2] => { results := [.lit (.bool false)], args := [d1, d2] }
  | _ => none }
def PieceActsWrongFalsely : Prop := pieceActsRow.holds Try.pinned (OpenSpec.ofChange pieceActsWrong)

/-- 'bureaulaw05.PieceCopies': WHATEVER THE INPUT: true; the input reads as it did. -/
def pieceCopiesSpec : ChangeSpec := { name := "pieceCopies", fn := fun _ => fun
  | [d] => { results := [.lit (.bool true)], args := [d] }
  | _ => none }
def pieceCopiesRow : OpenClaim := { program := "ytacpfkkbjibmgaa", sum := "702dee47b7fc90a3d459000e45f512c2c1a725615e1429b68a17991bf4f14648", func := "bureau/bureaulaw05.PieceCopies", spec := "pieceCopies", inPlace := ["slices.overlaps[bureau/piece.piece]"], apart := false }
def PieceCopiesSaid : Prop := pieceCopiesRow.holds Try.pinned (OpenSpec.ofChange pieceCopiesSpec)

/-- ITS FALSE NEIGHBOUR: 'it returns false'. Refute it at one input. -/
def pieceCopiesWrong : ChangeSpec := { name := "pieceCopies", fn := fun _ => fun
  | [d] => { results := [.lit (.bool false)], args := [d] }
  | _ => none }
def PieceCopiesWrongFalsely : Prop := pieceCopiesRow.holds Try.pinned (OpenSpec.ofChange pieceCopiesWrong)

/-- 'bureaulaw05.PieceBounds': WHATEVER THE INPUT: true; the input reads as it did. -/
def pieceBoundsSpec : ChangeSpec := { name := "pieceBounds", fn := fun _ => fun
  | [d1, d2] => { results := [.lit (.bool true)], args := [d1, d2] }
  | _ => none }
def pieceBoundsRow : OpenClaim := { program := "ytacpfkkbjibmgaa", sum := "702dee47b7fc90a3d459000e45f512c2c1a725615e1429b68a17991bf4f14648", func := "bureau/bureaulaw05.PieceBounds", spec := "pieceBounds", inPlace := ["slices.overlaps[bureau/piece.piece]"], apart := false }
def PieceBoundsSaid : Prop := pieceBoundsRow.holds Try.pinned (OpenSpec.ofChange pieceBoundsSpec)

/-- ITS FALSE NEIGHBOUR: 'it returns false'. Refute it at one input. -/
def pieceBoundsWrong : ChangeSpec := { name := "pieceBounds", fn := fun _ => fun
  | [d1, d2] => { results := [.lit (.bool false)], args := [d1, d2] }
  | _ => none }
def PieceBoundsWrongFalsely : Prop := pieceBoundsRow.holds Try.pinned (OpenSpec.ofChange pieceBoundsWrong)

/-- 'bureaulaw05.PieceBack': WHATEVER THE INPUT: true; the input reads as it did. -/
def pieceBackSpec : ChangeSpec := { name := "pieceBack", fn := fun _ => fun
  | [d1, d2] => { results := [.lit (.bool true)], args := [d1, d2] }
  | _ => none }
def pieceBackRow : OpenClaim := { program := "ytacpfkkbjibmgaa", sum := "702dee47b7fc90a3d459000e45f512c2c1a725615e1429b68a17991bf4f14648", func := "bureau/bureaulaw05.PieceBack", spec := "pieceBack", inPlace := ["slices.overlaps[bureau/piece.piece]"], apart := false }
def PieceBackSaid : Prop := pieceBackRow.holds Try.pinned (OpenSpec.ofChange pieceBackSpec)

/-- ITS FALSE NEIGHBOUR: 'it returns false'. Refute it at one input. -/
def pieceBackWrong : ChangeSpec := { name := "pieceBack", fn := fun _ => fun
  | [d1, d2] => { results := [.lit (.bool false)], args := [d1, d2] }
  | _ => none }
def PieceBackWrongFalsely : Prop := pieceBackRow.holds Try.pinned (OpenSpec.ofChange pieceBackWrong)

/-- 'bureaulaw05.PieceNobody': WHATEVER THE INPUT: true; the input reads as it did. -/
def pieceNobodySpec : ChangeSpec := { name := "pieceNobody", fn := fun _ => fun
  | [d] => { results := [.lit (.bool true)], args := [d] }
  | _ => none }
def pieceNobodyRow : OpenClaim := { program := "ytacpfkkbjibmgaa", sum := "702dee47b7fc90a3d459000e45f512c2c1a725615e1429b68a17991bf4f14648", func := "bureau/bureaulaw05.PieceNobody", spec := "pieceNobody", inPlace := ["slices.overlaps[bureau/piece.piece]"], apart := false }
def PieceNobodySaid : Prop := pieceNobodyRow.holds Try.pinned (OpenSpec.ofChange pieceNobodySpec)

/-- ITS FALSE NEIGHBOUR: 'it returns false'. Refute it at one input. -/
def pieceNobodyWrong : ChangeSpec := { name := "pieceNobody", fn := fun _ => fun
  | [d] => { results := [.lit (.bool false)], args := [d] }
  | _ => none }
def PieceNobodyWrongFalsely : Prop := pieceNobodyRow.holds Try.pinned (OpenSpec.ofChange pieceNobodyWrong)

/- THE SECOND FORM. 'bulk': how many values and letters a reading holds, each counted each time it is reached (what is shared counts as often as it is met; a slice's spare places count too). A statement '..UptoSaid' is the law's where the arguments, and the package variables that the reading takes, are together of bulk at most 1048576: NARROWER than '..Said'. Prove '..Said' where nothing that the law and all that it calls make is longer than what came in: it says more and counts as full. Else prove '..UptoSaid'. A law counts once. -/
mutual
def uptoBulk {H : Type} : DataW H → Nat
  | .lit (.string bytes) => bytes.length + 1
  | .lit _ => 1
  | .nil => 1
  | .ptr d => uptoBulk d + 1
  | .slice elems spare => uptoBulkAll elems + uptoBulkAll spare + 1
  | .agg parts => uptoBulkAll parts + 1
  | .iface _ d => uptoBulk d + 1
  | .map entries => uptoBulkEntries entries + 1
  | .held _ => 1
def uptoBulkAll {H : Type} : List (DataW H) → Nat
  | [] => 0
  | d :: r => uptoBulk d + uptoBulkAll r
def uptoBulkEntries {H : Type} : List (Lit × DataW H) → Nat
  | [] => 0
  | x :: r => uptoBulkEntry x + uptoBulkEntries r
def uptoBulkEntry {H : Type} : Lit × DataW H → Nat
  | (.string bytes, d) => bytes.length + uptoBulk d + 1
  | (_, d) => uptoBulk d + 1
 end
def uptoSmall : (H : Type) → List (DataW H) → Bool := fun _ ds => decide (uptoBulkAll ds ≤ 1048576)
def OpenSpec.upto (s : _root_.Go.ChangeSpec) : _root_.Go.OpenSpec := { _root_.Go.OpenSpec.ofChange s with cond := some uptoSmall }

/-- 'bureaulaw05.PieceActs', WHERE WHAT IT READS IS OF BULK AT MOST 1048576: true; the input reads as it did. -/
def pieceActsUptoRow : OpenClaim := { program := "ytacpfkkbjibmgaa", sum := "702dee47b7fc90a3d459000e45f512c2c1a725615e1429b68a17991bf4f14648", func := "bureau/bureaulaw05.PieceActs", spec := "pieceActs", inPlace := ["slices.overlaps[bureau/piece.piece]"], apart := false, narrowed := true }
def PieceActsUptoSaid : Prop := pieceActsUptoRow.holds Try.pinned (OpenSpec.upto pieceActsSpec)

/-- 'bureaulaw05.PieceCopies', WHERE WHAT IT READS IS OF BULK AT MOST 1048576: true; the input reads as it did. -/
def pieceCopiesUptoRow : OpenClaim := { program := "ytacpfkkbjibmgaa", sum := "702dee47b7fc90a3d459000e45f512c2c1a725615e1429b68a17991bf4f14648", func := "bureau/bureaulaw05.PieceCopies", spec := "pieceCopies", inPlace := ["slices.overlaps[bureau/piece.piece]"], apart := false, narrowed := true }
def PieceCopiesUptoSaid : Prop := pieceCopiesUptoRow.holds Try.pinned (OpenSpec.upto pieceCopiesSpec)

/-- 'bureaulaw05.PieceBounds', WHERE WHAT IT READS IS OF BULK AT MOST 1048576: true; the input reads as it did. -/
def pieceBoundsUptoRow : OpenClaim := { program := "ytacpfkkbjibmgaa", sum := "702dee47b7fc90a3d459000e45f512c2c1a725615e1429b68a17991bf4f14648", func := "bureau/bureaulaw05.PieceBounds", spec := "pieceBounds", inPlace := ["slices.overlaps[bureau/piece.piece]"], apart := false, narrowed := true }
def PieceBoundsUptoSaid : Prop := pieceBoundsUptoRow.holds Try.pinned (OpenSpec.upto pieceBoundsSpec)

/-- 'bureaulaw05.PieceBack', WHERE WHAT IT READS IS OF BULK AT MOST 1048576: true; the input reads as it did. -/
def pieceBackUptoRow : OpenClaim := { program := "ytacpfkkbjibmgaa", sum := "702dee47b7fc90a3d459000e45f512c2c1a725615e1429b68a17991bf4f14648", func := "bureau/bureaulaw05.PieceBack", spec := "pieceBack", inPlace := ["slices.overlaps[bureau/piece.piece]"], apart := false, narrowed := true }
def PieceBackUptoSaid : Prop := pieceBackUptoRow.holds Try.pinned (OpenSpec.upto pieceBackSpec)

/-- 'bureaulaw05.PieceNobody', WHERE WHAT IT READS IS OF BULK AT MOST 1048576: true; the input reads as it did. -/
def pieceNobodyUptoRow : OpenClaim := { program := "ytacpfkkbjibmgaa", sum := "702dee47b7fc90a3d459000e45f512c2c1a725615e1429b68a17991bf4f14648", func := "bureau/bureaulaw05.PieceNobody", spec := "pieceNobody", inPlace := ["slices.overlaps[bureau/piece.piece]"], apart := false, narrowed := true }
def PieceNobodyUptoSaid : Prop := pieceNobodyUptoRow.holds Try.pinned (OpenSpec.upto pieceNobodySpec)

end Rows
end Go.Proofs.Ytacpfkkbjibmgaa
