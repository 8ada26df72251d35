/-
  The document's Print: layer 10.
-/
import Derived.Test.YtgpmfkedcoiopaaGreatDoorKeyRef
namespace Go.Proofs.YtgpmfkedcoiopaaGreatDoor
open Go.RowKit

theorem bytes_app (a b : List UInt8) : ({ data := a.toArray } : ByteArray) ++ { data := b.toArray } = { data := (a ++ b).toArray } := by
  apply ByteArray.ext
  rw [ByteArray.data_append]
  simp
/-- a text and a number -/
def GivesSN (w : World) (r : List UInt8 × Nat) (e : Ending) (w' : World) : Prop := e = .returned (.tuple #[.string ⟨r.1.toArray⟩, .int .i64 (r.2 : Nat)]) ∧ Below w.heap.size w w'
end Go.Proofs.YtgpmfkedcoiopaaGreatDoor
