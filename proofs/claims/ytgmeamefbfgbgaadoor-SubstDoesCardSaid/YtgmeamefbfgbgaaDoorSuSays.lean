/-
  What package subst answers (to be proved of the landed one): layer 15.
-/
import Derived.Test.YtgmeamefbfgbgaaDoorSuSub
import Derived.Test.YtgmeamefbfgbgaaDoorM07e
namespace Go.Proofs.YtgmeamefbfgbgaaDoor
open Go.RowKit

/-- an edit, how many places, and the error -/
def GivesSu (w : World) (r : (EdP × Nat) × Nat) (e : Ending) (w' : World) : Prop :=
  ∃ A c A2 d, e = .returned (.tuple #[.agg #[.int .i64 r.1.1.a, .string ⟨r.1.1.S.toArray⟩, .slice A r.1.1.l.length c, .string ⟨r.1.1.X.toArray⟩, .slice A2 r.1.1.m.length d], .int .i64 (r.1.2 : Nat), .int .i64 (r.2 : Nat)]) ∧ Row w' w'.heap.size A (flatR r.1.1.l) ∧ Row w' w'.heap.size A2 (flatR r.1.1.m) ∧ Below w.heap.size w w'
/-- in every world that only has more than w0 -/
structure SubstSays (w0 : World) : Prop where
  do_ : ∀ (A : Option Addr) (c : Nat) (S : List UInt8) (l : List RunP) (y : Nat) (a b : Int) (pat rep : List UInt8) (every : Bool) (w : World), Below w0.heap.size w0 w → Txu w A S l → S.length ≤ 5000 → l.length ≤ 5000 → y < 18446744073709551616 → (-9223372036854775808 ≤ a ∧ a ≤ 9223372036854775807) → (-9223372036854775808 ≤ b ∧ b ≤ 9223372036854775807) → pat.length ≤ 5000 → rep.length ≤ 5000 →
    Calls Tryd.prog 11 #[.agg #[.string ⟨S.toArray⟩, .slice A l.length c], .int .u64 (y : Nat), .agg #[.int .i64 a, .int .i64 b, .string ⟨pat.toArray⟩, .string ⟨rep.toArray⟩, .bool every]] w (GivesSu w (subS S l y a b pat rep every))
theorem SubstSays.at {w0 w : World} (KS : SubstSays w0) (h : Below w0.heap.size w0 w) : SubstSays w where
  do_ := fun A c S l y a b pat rep ev w' hb => KS.do_ A c S l y a b pat rep ev w' (h.trans (hb.mono h.size))
end Go.Proofs.YtgmeamefbfgbgaaDoor
