/-
  Arguments of layer 4: a list of texts.
-/
import Derived.Test.YtgpmfkedcoiopaaGreatDoorM04
namespace Go.Proofs.YtgpmfkedcoiopaaGreatDoor
open Go.RowKit Go.ChangeShapes Go.WideShapes
set_option maxRecDepth 100000

/-- a text as it lies in a list: its bytes, where its runs lie, and they -/
structure TextP where
  S : List UInt8
  A : Option Addr
  c : Nat
  l : List RunP
def flatX (ts : List TextP) : List Value := ts.flatMap fun r => [.string ⟨r.S.toArray⟩, .slice r.A r.l.length r.c]
section
variable {H : Type} {enc : TypeId × Value → H} {W : World}
end
end Go.Proofs.YtgpmfkedcoiopaaGreatDoor
