/-
  Contracts of the document's own answers, layer 10: May, Written, begins, Same, Print.
-/
import Derived.Test.YtgpmfkedcoiopaaGreatDoorKeyMath
import Derived.Test.YtgpmfkedcoiopaaGreatDoorM02u
import Derived.BigQuiet
import Derived.Deep.QuietTactic
import Derived.Deep.DeepCutAuto
namespace Go.Proofs.YtgpmfkedcoiopaaGreatDoor
open Go.RowKit

theorem text_front (s : List UInt8) (k : Nat) : ({ data := s.toArray } : ByteArray).extract 0 k = ⟨(s.take k).toArray⟩ := by
  apply ByteArray.ext
  rw [ByteArray.data_extract]
  apply Array.ext'
  simp
end Go.Proofs.YtgpmfkedcoiopaaGreatDoor
