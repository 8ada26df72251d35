/-
  The landed oper, in one bundle: layer 14.
-/
import Derived.Test.YtgpmfkedcoiopaaGreatDoorOxPutp
import Derived.Test.YtgpmfkedcoiopaaGreatDoorOxSwap
import Derived.Test.YtgpmfkedcoiopaaGreatDoorOxSpan
import Derived.Test.YtgpmfkedcoiopaaGreatDoorM14e
namespace Go.Proofs.YtgpmfkedcoiopaaGreatDoor
open Go.RowKit

theorem operSays (w0 : World) : OperSays w0 where
  span := fun S p q k w _ hS _ _ _ => oxSpan_any S (by omega) p q k w
  do_ := fun A c S l y op f t b w _ h _ _ hy hop hf ht => oxDo_any A c S l y hy op f t hop hf ht b w h
  swap := fun A c S l y p n k w _ h _ _ hy _ _ hk => oxSwap_any A c S l y hy p n k hk w h
  put := fun A A2 c c2 S X l m y p b ah n w _ h hX _ _ _ _ hy _ _ => oxPut_any A A2 c c2 S X l m y hy p b ah n w h hX
end Go.Proofs.YtgpmfkedcoiopaaGreatDoor
