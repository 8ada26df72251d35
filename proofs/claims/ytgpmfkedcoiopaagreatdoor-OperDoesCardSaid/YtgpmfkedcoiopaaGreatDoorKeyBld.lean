/-
  A strings.Builder that the call itself made: WriteString, String.
-/
import Derived.Test.YtgpmfkedcoiopaaGreatDoorWords
import Derived.Test.YtgpmfkedcoiopaaGreatDoorRows
import Derived.Shelf.Strings.Builder1
namespace Go.Proofs.YtgpmfkedcoiopaaGreatDoor
open Go.RowKit

def bldString_ren : Go.Shelf.Ren := ⟨fun | 169 => 125 | n => n, fun | 70 => 172 | 9 => 9 | 0 => 0 | 72 => 174 | 37 => 131 | 127 => 221 | 3 => 3 | 5 => 5 | n => n, fun | n => n⟩
/-- the builder in block b holds the bytes l; its own memory begins at B -/
def BldIs (B b : Nat) (l : List UInt8) (w : World) : Prop := Lib.IsBuilder 174 5 B b (Lib.byteCells l) w
theorem BldIs.lt {B b : Nat} {l : List UInt8} {w : World} (h : BldIs B b l w) : b < w.heap.size := by
  rcases h with h | h <;> exact h.lt
theorem BldIs.below {B b : Nat} {l : List UInt8} {w w' : World} (h : BldIs B b l w) (hb : Below w.heap.size w w') : BldIs B b l w' := by
  have hl := h.lt
  rcases h with ⟨h1, v, h2, h3, h4⟩ | ⟨h1, v, h2, h3, h4⟩
  · exact .inl ⟨h1, v, (hb.block b hl).trans h2, own_keep h3 hb (Nat.le_refl _), h4⟩
  · exact .inr ⟨h1, v, (hb.block b hl).trans h2, own_keep h3 hb (Nat.le_refl _), h4⟩
end Go.Proofs.YtgpmfkedcoiopaaGreatDoor
