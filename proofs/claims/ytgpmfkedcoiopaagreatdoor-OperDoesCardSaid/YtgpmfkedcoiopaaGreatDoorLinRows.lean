/-
  Contracts of the document's own answers, layer 6: Lines.
-/
import Derived.Test.YtgpmfkedcoiopaaGreatDoorM06r
namespace Go.Proofs.YtgpmfkedcoiopaaGreatDoor
open Go.RowKit

def strv (l : List UInt8) : Value := .string ⟨l.toArray⟩
theorem text_slice (S : List UInt8) (a b : Nat) (h : a ≤ b) : ({ data := S.toArray } : ByteArray).extract a b = ⟨((S.drop a).take (b - a)).toArray⟩ := by
  have := text_mid S a (b - a)
  rwa [show a + (b - a) = b by omega] at this

end Go.Proofs.YtgpmfkedcoiopaaGreatDoor
