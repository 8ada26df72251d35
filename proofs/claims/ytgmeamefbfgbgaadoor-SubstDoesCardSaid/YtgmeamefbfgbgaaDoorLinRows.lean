/-
  Contracts of the document's own answers, layer 6: Lines.
-/
import Derived.Test.YtgmeamefbfgbgaaDoorM06r
namespace Go.Proofs.YtgmeamefbfgbgaaDoor
open Go.RowKit

def strv (l : List UInt8) : Value := .string ⟨l.toArray⟩
theorem elt_str : Elt Tryd.prog 99 9 (.string ⟨#[]⟩) 1 16 := ⟨Tryd.underlying99, by kernel_rfl, rfl, by decide⟩
theorem lines_take {S : List UInt8} {n : Nat} (h : n < countL S) : (linesOf S).take (n + 1) = (linesOf S).take n ++ [lineL S n] := by
  have hl : n < (linesOf S).length := by rw [linesOf_count]; exact h
  have := lineL_get h
  rw [List.getElem?_eq_getElem hl] at this
  rw [List.take_succ_eq_append_getElem hl, Option.some.inj this]
theorem text_slice (S : List UInt8) (a b : Nat) (h : a ≤ b) : ({ data := S.toArray } : ByteArray).extract a b = ⟨((S.drop a).take (b - a)).toArray⟩ := by
  have := text_mid S a (b - a)
  rwa [show a + (b - a) = b by omega] at this

end Go.Proofs.YtgmeamefbfgbgaaDoor
