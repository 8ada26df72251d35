/-
  Contracts of the document's own answers, layer 2: May, Bytes, number.
-/
import Derived.Test.YtbfedakncdodcaaRows
import Derived.Test.YtbfedakncdodcaaUtfSigns
namespace Go.Proofs.Ytbfedakncdodcaa
open Go.RowKit

def mayB (r : Int) : Bool := decide (0 ≤ r) && decide (r ≤ 1114111) && (decide (r < 55296) || decide (57343 < r))
theorem mayB_may (r : Nat) : mayB (r : Int) = true ↔ may r := by
  unfold mayB may
  simp
  omega
theorem ret_bool {a b : Bool} (h : a = b) : Ending.returned (.bool a) = .returned (.bool b) := by rw [h]

end Go.Proofs.Ytbfedakncdodcaa
