/-
  DERIVED. GIVEN WITH THE SEED: THE CARDS: each row of YtgmeamefbfgbgaaDoorRows.lean that lists a variable, with what it lists TIED to the program's text (the seventh form; the later family's looks); each row that meets fmt, with fmt's text TOLD by the authors' own Lean function (tested against real Go, not proved from fmt's source: count such statements apart). THE CARD IS WHAT COUNTS. Prove the row's statement (the work); the ties are given (YtgmeamefbfgbgaaDoorTie.lean); close each card by the builder's one call (the guide's Derived/Test/ToyasCard.lean, 'card_holds'). Laid BY PROGRAM, IN A SANDBOX (cutbox-door.mjs). By AI agents, Wed Nov 11 2026. No macro, syntax, notation, axiom, sorry.
-/
import Derived.Test.YtgmeamefbfgbgaaDoorRows
import GoSem.ClaimSeven
namespace Go.Proofs.YtgmeamefbfgbgaaDoor
namespace Rows

/-- THE TIED CARD OF 'bureaulaw15.SubstDoes'. -/
def substDoesCard : Claim7 := { stood := { row := substDoesRow, standIns := [], harness := (true, "88f49b9129f07e4e66d5f826c1f4e1b0132699dfe1f82ca99d4bed95bd1137d1"), looks := false }, kinds := [], alts := [], laidByText := true, laidKinds := [.data, .pinned], laidTests := true, laidLooks := .later }
def SubstDoesCardSaid : Prop := Claim7.holds Tryd.pinned (.plain (OpenSpec.ofChange substDoesSpec)) substDoesCard

/-- THE TIED CARD OF 'bureaulaw15.SubstCounts'. -/
def substCountsCard : Claim7 := { stood := { row := substCountsRow, standIns := [], harness := (true, "88f49b9129f07e4e66d5f826c1f4e1b0132699dfe1f82ca99d4bed95bd1137d1"), looks := false }, kinds := [], alts := [], laidByText := true, laidKinds := [.data, .pinned], laidTests := true, laidLooks := .later }
def SubstCountsCardSaid : Prop := Claim7.holds Tryd.pinned (.plain (OpenSpec.ofChange substCountsSpec)) substCountsCard

/-- THE TIED CARD OF 'bureaulaw15.SubstNone'. -/
def substNoneCard : Claim7 := { stood := { row := substNoneRow, standIns := [], harness := (true, "88f49b9129f07e4e66d5f826c1f4e1b0132699dfe1f82ca99d4bed95bd1137d1"), looks := false }, kinds := [], alts := [], laidByText := true, laidKinds := [.data, .pinned], laidTests := true, laidLooks := .later }
def SubstNoneCardSaid : Prop := Claim7.holds Tryd.pinned (.plain (OpenSpec.ofChange substNoneSpec)) substNoneCard

/-- THE TIED CARD OF 'bureaulaw15.SubstItself'. -/
def substItselfCard : Claim7 := { stood := { row := substItselfRow, standIns := [], harness := (true, "88f49b9129f07e4e66d5f826c1f4e1b0132699dfe1f82ca99d4bed95bd1137d1"), looks := false }, kinds := [], alts := [], laidByText := true, laidKinds := [.data, .pinned], laidTests := true, laidLooks := .later }
def SubstItselfCardSaid : Prop := Claim7.holds Tryd.pinned (.plain (OpenSpec.ofChange substItselfSpec)) substItselfCard

/-- THE TIED CARD OF 'bureaulaw15.SubstHides'. -/
def substHidesCard : Claim7 := { stood := { row := substHidesRow, standIns := [], harness := (true, "88f49b9129f07e4e66d5f826c1f4e1b0132699dfe1f82ca99d4bed95bd1137d1"), looks := false }, kinds := [], alts := [], laidByText := true, laidKinds := [.data, .pinned], laidTests := true, laidLooks := .later }
def SubstHidesCardSaid : Prop := Claim7.holds Tryd.pinned (.plain (OpenSpec.ofChange substHidesSpec)) substHidesCard

/-- THE TIED CARD OF 'bureautop.WholeSwaps'. -/
def wholeSwapsCard : Claim7 := { stood := { row := wholeSwapsRow, standIns := [], harness := (true, "88f49b9129f07e4e66d5f826c1f4e1b0132699dfe1f82ca99d4bed95bd1137d1"), looks := false }, kinds := [], alts := [], laidByText := true, laidKinds := [.data, .pinned], laidTests := true, laidLooks := .later }
def WholeSwapsCardSaid : Prop := Claim7.holds Tryd.pinned (.plain (OpenSpec.ofChange wholeSwapsSpec)) wholeSwapsCard

/-- THE SECOND FORM's CARD OF 'bureaulaw15.SubstDoes'. -/
def substDoesUptoCard : Claim7 := { stood := { row := substDoesUptoRow, standIns := [], harness := (true, "88f49b9129f07e4e66d5f826c1f4e1b0132699dfe1f82ca99d4bed95bd1137d1"), looks := false }, kinds := [], alts := [], laidByText := true, laidKinds := [.data, .pinned], laidTests := true, laidLooks := .later }
def SubstDoesUptoCardSaid : Prop := Claim7.holds Tryd.pinned (.plain (OpenSpec.upto substDoesSpec)) substDoesUptoCard

/-- THE SECOND FORM's CARD OF 'bureaulaw15.SubstCounts'. -/
def substCountsUptoCard : Claim7 := { stood := { row := substCountsUptoRow, standIns := [], harness := (true, "88f49b9129f07e4e66d5f826c1f4e1b0132699dfe1f82ca99d4bed95bd1137d1"), looks := false }, kinds := [], alts := [], laidByText := true, laidKinds := [.data, .pinned], laidTests := true, laidLooks := .later }
def SubstCountsUptoCardSaid : Prop := Claim7.holds Tryd.pinned (.plain (OpenSpec.upto substCountsSpec)) substCountsUptoCard

/-- THE SECOND FORM's CARD OF 'bureaulaw15.SubstNone'. -/
def substNoneUptoCard : Claim7 := { stood := { row := substNoneUptoRow, standIns := [], harness := (true, "88f49b9129f07e4e66d5f826c1f4e1b0132699dfe1f82ca99d4bed95bd1137d1"), looks := false }, kinds := [], alts := [], laidByText := true, laidKinds := [.data, .pinned], laidTests := true, laidLooks := .later }
def SubstNoneUptoCardSaid : Prop := Claim7.holds Tryd.pinned (.plain (OpenSpec.upto substNoneSpec)) substNoneUptoCard

/-- THE SECOND FORM's CARD OF 'bureaulaw15.SubstItself'. -/
def substItselfUptoCard : Claim7 := { stood := { row := substItselfUptoRow, standIns := [], harness := (true, "88f49b9129f07e4e66d5f826c1f4e1b0132699dfe1f82ca99d4bed95bd1137d1"), looks := false }, kinds := [], alts := [], laidByText := true, laidKinds := [.data, .pinned], laidTests := true, laidLooks := .later }
def SubstItselfUptoCardSaid : Prop := Claim7.holds Tryd.pinned (.plain (OpenSpec.upto substItselfSpec)) substItselfUptoCard

/-- THE SECOND FORM's CARD OF 'bureaulaw15.SubstHides'. -/
def substHidesUptoCard : Claim7 := { stood := { row := substHidesUptoRow, standIns := [], harness := (true, "88f49b9129f07e4e66d5f826c1f4e1b0132699dfe1f82ca99d4bed95bd1137d1"), looks := false }, kinds := [], alts := [], laidByText := true, laidKinds := [.data, .pinned], laidTests := true, laidLooks := .later }
def SubstHidesUptoCardSaid : Prop := Claim7.holds Tryd.pinned (.plain (OpenSpec.upto substHidesSpec)) substHidesUptoCard

/-- THE SECOND FORM's CARD OF 'bureautop.WholeSwaps'. -/
def wholeSwapsUptoCard : Claim7 := { stood := { row := wholeSwapsUptoRow, standIns := [], harness := (true, "88f49b9129f07e4e66d5f826c1f4e1b0132699dfe1f82ca99d4bed95bd1137d1"), looks := false }, kinds := [], alts := [], laidByText := true, laidKinds := [.data, .pinned], laidTests := true, laidLooks := .later }
def WholeSwapsUptoCardSaid : Prop := Claim7.holds Tryd.pinned (.plain (OpenSpec.upto wholeSwapsSpec)) wholeSwapsUptoCard
end Rows
end Go.Proofs.YtgmeamefbfgbgaaDoor
