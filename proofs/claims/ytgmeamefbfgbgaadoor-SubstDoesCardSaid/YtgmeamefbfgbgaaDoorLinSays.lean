/-
  What package line's functions are to answer, as one bundle; its proof lies with the landed code's contracts. The law package's alive.
-/
import Derived.Test.YtgmeamefbfgbgaaDoorM06r
import Derived.Test.YtgmeamefbfgbgaaDoorLinRows
namespace Go.Proofs.YtgmeamefbfgbgaaDoor
open Go.RowKit

theorem al_whole : wholeL [97, 98, 10, 10, 32, 99] 1 2 = ((2, 6), 0) := by decide +kernel
theorem al_count : countL [97, 98, 10, 10, 32, 99] = 3 := by decide +kernel
theorem al_none : countL [] = 1 := by decide +kernel
theorem al_first : firstL [97, 98, 10, 10, 32, 99] 2 = 5 := by decide +kernel

end Go.Proofs.YtgmeamefbfgbgaaDoor
