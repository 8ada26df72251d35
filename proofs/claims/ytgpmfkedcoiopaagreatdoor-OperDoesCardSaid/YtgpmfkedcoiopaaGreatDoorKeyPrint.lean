/-
  The document's Print: layer 10.
-/
import Derived.Test.YtgpmfkedcoiopaaGreatDoorKeyRef
namespace Go.Proofs.YtgpmfkedcoiopaaGreatDoor
open Go.RowKit

/-- a text and a number -/
def GivesSN (w : World) (r : List UInt8 × Nat) (e : Ending) (w' : World) : Prop := e = .returned (.tuple #[.string ⟨r.1.toArray⟩, .int .i64 (r.2 : Nat)]) ∧ Below w.heap.size w w'
end Go.Proofs.YtgpmfkedcoiopaaGreatDoor
