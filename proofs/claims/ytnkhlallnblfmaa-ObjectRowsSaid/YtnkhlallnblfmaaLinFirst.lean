/-
  Contracts of the document's own answers, layer 6: First.
-/
import Derived.Test.YtnkhlallnblfmaaLinSigns
namespace Go.Proofs.Ytnkhlallnblfmaa
open Go.RowKit

theorem firstL_of {S : List UInt8} {n : Int} {k j : Nat} (hk : broughtL S n = k) (hj : firstJ (signsL S k) = j) : firstL S n = begL S k + width ((signsL S k).take j) := by
  unfold firstL; rw [hk, hj]
theorem brought_lt (S : List UInt8) (n : Int) : broughtL S n < countL S := by have := countL_pos S; unfold broughtL; omega

end Go.Proofs.Ytnkhlallnblfmaa
