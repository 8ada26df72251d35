/-
  Contracts of the document's own answers, layer 2: one.
-/
import Derived.Test.YtbfedakncdodcaaGlyNumber
namespace Go.Proofs.Ytbfedakncdodcaa
open Go.RowKit

/-- a sign as the document's struct -/
def signV (a : Nat) (x : Nat × Nat) : Array Value := #[.int .i64 (a : Int), .int .i64 (x.2 : Int), .int .i64 (x.1 : Int), .bool (!broken x)]

theorem text_mid (S : List UInt8) (a n : Nat) : ({ data := S.toArray } : ByteArray).extract a (a + n) = ⟨((S.drop a).take n).toArray⟩ := by
  apply ByteArray.ext
  rw [ByteArray.data_extract]
  apply Array.ext'
  simp

theorem signV_size (a : Nat) (x : Nat × Nat) : (signV a x).size = 4 := rfl
theorem signV_one (a : Nat) (x : Nat × Nat) : (signV a x).all (·.oneCell') = true := by simp [signV, Value.oneCell']

end Go.Proofs.Ytbfedakncdodcaa
