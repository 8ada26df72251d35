/-
  Contracts of the landed package glyph: first, Align.
-/
import Derived.Test.YtgmeamefbfgbgaaDoorM02v
import Derived.Test.YtgmeamefbfgbgaaDoorM02u
namespace Go.Proofs.YtgmeamefbfgbgaaDoor
open Go.RowKit

end Go.Proofs.YtgmeamefbfgbgaaDoor
