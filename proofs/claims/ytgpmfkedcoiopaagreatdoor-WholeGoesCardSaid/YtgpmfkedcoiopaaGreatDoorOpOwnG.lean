/-
  The landed Span and Do, in one: layer 14.
-/
import Derived.Test.YtgpmfkedcoiopaaGreatDoorOxDo
import Derived.Test.YtgpmfkedcoiopaaGreatDoorOxSpan
import Derived.Test.YtgpmfkedcoiopaaGreatDoorOpTop
namespace Go.Proofs.YtgpmfkedcoiopaaGreatDoor
open Go.RowKit

theorem operDS (w0 : World) : OperDS w0 where
  span := fun S p q k w _ hS _ _ _ => oxSpan_any S (by omega) p q k w
  do_ := fun A c S l y op f t b w _ h _ _ hy hop hf ht => oxDo_any A c S l y hy op f t hop hf ht b w h
end Go.Proofs.YtgpmfkedcoiopaaGreatDoor
