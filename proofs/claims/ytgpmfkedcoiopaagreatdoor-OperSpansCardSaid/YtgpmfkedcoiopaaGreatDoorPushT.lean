/-
  A row grows by one element, and where it then lies: layers 8 and on.
-/
import Derived.Test.YtgpmfkedcoiopaaGreatDoorTouch
import Derived.Maps.AppendAt
namespace Go.Proofs.YtgpmfkedcoiopaaGreatDoor
set_option maxRecDepth 100000
open Go.RowKit

end Go.Proofs.YtgpmfkedcoiopaaGreatDoor
