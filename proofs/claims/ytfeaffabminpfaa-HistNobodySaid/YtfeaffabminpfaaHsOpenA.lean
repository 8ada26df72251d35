/-
  One call as an argument: layer 8.
-/
import Derived.Test.YtfeaffabminpfaaHsOpen
namespace Go.Proofs.Ytfeaffabminpfaa
open Go.RowKit Go.ChangeShapes Go.WideShapes
set_option maxRecDepth 100000

section
variable {H : Type} {enc : TypeId × Value → H} {W : World}
theorem open_actE {r : Reach} {b0 : Nat} {v : Value} {d : DataW H} {ps : List MemPlace} (hval : Value.okWide Try.prog W r b0 36 v) (h : DataW.Trod enc Try.prog W 0 (fun _ => true) true 36 v d ps) :
    ∃ a : ActE, v = .agg a.cells.toArray ∧ ActEOk W a := by
  obtain ⟨f0, f1, f2, he, _⟩ := actE_fields
  obtain ⟨cs, rfl, _⟩ := okWide_struct he hval
  obtain ⟨fuel, hf⟩ := h
  obtain ⟨a, e, ha⟩ := actE_of_trod hf
  refine ⟨a, ?_, ha⟩
  have : cs.toList = a.cells := by simpa [Value.cells] using e
  rw [← this, Array.toArray_toList]
end
end Go.Proofs.Ytfeaffabminpfaa
