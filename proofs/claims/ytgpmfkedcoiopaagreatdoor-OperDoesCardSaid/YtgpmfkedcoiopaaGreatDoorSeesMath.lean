/-
  What a level sees of texts one behind the other, and of one that is raised above it: layer 4, as plain lists.
-/
import Derived.Test.YtgpmfkedcoiopaaGreatDoorM04s
import Derived.Laws.Bits64
namespace Go.Proofs.YtgpmfkedcoiopaaGreatDoor
set_option maxRecDepth 100000
open Go.RowKit

/-- all the categories that a level has not -/
def notN (y : Nat) : Nat := 18446744073709551615 - y
theorem catT_two {U S : List UInt8} {q l : List RunP} (hg : goodT U q = true) (hg2 : goodT S l = true) :
    catT U q S l = if U.length + S.length ≤ 4096 then ((U ++ S, pack (bytesOf q ++ bytesOf l)), 0) else (([], []), 3) := by
  obtain ⟨g1, g2, g3⟩ := goodT_size hg
  unfold catT
  rw [if_pos ⟨hg, hg2⟩]
  have hw : withinT U q (U.length : Nat) (U.length : Nat) = true := (withinT_iff _ _ _ _).2 ⟨hg, by omega, Int.le_refl _, Int.le_refl _⟩
  by_cases hb : U.length + S.length ≤ 4096
  · rw [if_pos hb, spliceT_ok hw hg2 (by omega), Int.toNat_natCast]
    rw [List.take_of_length_le (by omega : U.length ≤ U.length), List.drop_of_length_le (by omega : U.length ≤ U.length), List.take_of_length_le (by omega : (bytesOf q).length ≤ U.length), List.drop_of_length_le (by omega : (bytesOf q).length ≤ U.length)]
    rw [List.append_nil, List.append_nil]
  · rw [if_neg hb, spliceT_big hw hg2 (by omega)]
end Go.Proofs.YtgpmfkedcoiopaaGreatDoor
