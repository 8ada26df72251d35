/-
  The document's Print: layer 10.
-/
import Derived.Test.YtbfedakncdodcaaKeyRef
namespace Go.Proofs.Ytbfedakncdodcaa
open Go.RowKit

theorem wordsK_snoc (l : List Nat) (r : Nat) : wordsK (l ++ [r]) = wordsK l ++ writK r := by simp [wordsK]
theorem wordsK_len (l : List Nat) : (wordsK l).length ≤ l.length * 5 := by
  induction l with
  | nil => simp [wordsK]
  | cons r l ih =>
    have := writK_len r
    have e : wordsK (r :: l) = writK r ++ wordsK l := by simp [wordsK]
    rw [e, List.length_append, List.length_cons]
    omega
theorem bytes_app (a b : List UInt8) : ({ data := a.toArray } : ByteArray) ++ { data := b.toArray } = { data := (a ++ b).toArray } := by
  apply ByteArray.ext
  rw [ByteArray.data_append]
  simp
/-- a text and a number -/
def GivesSN (w : World) (r : List UInt8 × Nat) (e : Ending) (w' : World) : Prop := e = .returned (.tuple #[.string ⟨r.1.toArray⟩, .int .i64 (r.2 : Nat)]) ∧ Below w.heap.size w w'
end Go.Proofs.Ytbfedakncdodcaa
