/-
  Contracts of the landed package line: Whole.
-/
import Derived.Test.YtckikigjleckeaaLinOwn
import Derived.Deep.RegionWith
namespace Go.Proofs.Ytckikigjleckeaa
open Go.RowKit

attribute [local irreducible] boundsL countL wholeL begL endL
end Go.Proofs.Ytckikigjleckeaa
