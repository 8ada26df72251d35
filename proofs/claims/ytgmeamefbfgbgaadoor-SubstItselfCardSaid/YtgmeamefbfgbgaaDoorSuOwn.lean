/-
  The landed package subst answers as the document says, in each world in which the library's own variable holds a number.
-/
import Derived.Test.YtgmeamefbfgbgaaDoorSuDoer
import Derived.Shelf.Vars
namespace Go.Proofs.YtgmeamefbfgbgaaDoor
open Go.RowKit

/-- the library's own variable, of which nothing is known but its type -/
theorem maxW_open {W : World} (h : W.ShapedOpen Tryd.prog) : MaxW W :=
  Go.Proofs.cell_of_shapedOpen_int (zero := #[.int .i64 0]) (t := 3) h (of_decide_eq_true (by kernel_rfl)) (by kernel_rfl) rfl (by kernel_rfl) (by kernel_rfl) Tryd.underlying3
theorem substSays (w : World) (h : MaxW w) : SubstSays w where
  do_ := fun A c S l y a b pat rep ev w' hb hx _ _ hy _ _ hp hr => suDo_any A c S l y hy a b pat rep ev hp hr w' hx (h.below hb)
end Go.Proofs.YtgmeamefbfgbgaaDoor
