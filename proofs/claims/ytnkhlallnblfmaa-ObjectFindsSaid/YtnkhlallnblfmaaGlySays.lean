/-
  What package glyph's functions are to answer, as one bundle; its proof lies with the landed code's contracts. The law package's alive.
-/
import Derived.Test.YtnkhlallnblfmaaGlyWhich
import Derived.Test.YtnkhlallnblfmaaGlyEncode
namespace Go.Proofs.Ytnkhlallnblfmaa
open Go.RowKit

theorem chars_a9 : chars [97, 195, 169] = [(97, 1), (233, 2)] := by decide +kernel
theorem chars_a9f : (chars [97, 195, 169, 255]).length = 3 := by decide +kernel
theorem chars_f : ((chars [255]).all fun x => !broken x) = false := by decide +kernel
theorem which_one {i : Nat} (h : Which [(97, 1), (233, 2)] 2 i) : i = 1 := by
  refine h.unique ⟨by decide, ?_, ?_⟩
  · intro j hj
    obtain rfl : j = 0 := by omega
    simp [width]
  · intro _; simp [width]

end Go.Proofs.Ytnkhlallnblfmaa
