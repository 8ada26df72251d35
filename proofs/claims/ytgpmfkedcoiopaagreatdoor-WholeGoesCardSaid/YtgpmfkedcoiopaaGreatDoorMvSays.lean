/-
  What package move answers (to be proved of the landed one); answers that the document fixes; where motions lead is a sign's beginning: layer 12.
-/
import Derived.Test.YtgpmfkedcoiopaaGreatDoorM12r
namespace Go.Proofs.YtgpmfkedcoiopaaGreatDoor
open Go.RowKit

/-- in every world that only has more than w0 -/
structure MoveSays (w0 : World) : Prop where
  to_ : ∀ (S : List UInt8) (p k g c : Int) (w : World), Below w0.heap.size w0 w → S.length ≤ 4096 → (-9223372036854775808 ≤ p ∧ p ≤ 9223372036854775807) → (-2147483648 ≤ k ∧ k ≤ 2147483647) → (-2147483648 ≤ g ∧ g ≤ 2147483647) → (-9223372036854775808 ≤ c ∧ c ≤ 9223372036854775807) →
    Calls Tryz.prog 36 #[.string ⟨S.toArray⟩, .int .i64 p, .agg #[.int .i32 k, .int .i32 g, .int .i64 c]] w (GivesIIB w (toM S p k g c))
theorem MoveSays.at {w0 w : World} (KS : MoveSays w0) (h : Below w0.heap.size w0 w) : MoveSays w where
  to_ := fun S p k g c w' b => KS.to_ S p k g c w' (h.trans (b.mono h.size))

end Go.Proofs.YtgpmfkedcoiopaaGreatDoor
