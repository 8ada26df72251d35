/-
  The law's own 'Fits' of layer 14.
-/
import Derived.Test.YtgmeamefbfgbgaaDoorM07e
namespace Go.Proofs.YtgmeamefbfgbgaaDoor
open Go.RowKit

set_option maxHeartbeats 1000000 in
theorem lawFits14_any (A : Option Addr) (c : Nat) (S : List UInt8) (l : List RunP) (w : World) :
    Calls Tryd.prog 19 #[.agg #[.string ⟨S.toArray⟩, .slice A l.length c]] w fun e w' => e = .returned (.bool (decide (S.length ≤ 1024) && decide (l.length ≤ 5000))) ∧ Below w.heap.size w w' := by
  by_cases h1 : S.length ≤ 1024
  · have g1 : decide ((S.length : Int) ≤ 1024) = true := decide_eq_true (by omega)
    have HE : Hid ((decide (S.length ≤ 1024) && decide (l.length ≤ 5000)) = decide ((l.length : Int) ≤ 5000)) := by
      rw [Hid, decide_eq_true h1, Bool.true_and]
      exact decide_eq_decide.2 (by omega)
    go_enter Tryd.func19, Tryd.ntmps19
    go_wp2_with fail
    go_ret
    exact ⟨by rw [HE.out]; simp, (Below.refl _ _).alloc (Nat.le_refl _) _⟩
  · have g1 : decide ((S.length : Int) ≤ 1024) = false := decide_eq_false (by omega)
    have HE : Hid ((decide (S.length ≤ 1024) && decide (l.length ≤ 5000)) = false) := by rw [Hid, decide_eq_false h1]; rfl
    go_enter Tryd.func19, Tryd.ntmps19
    go_wp2_with fail
    go_ret
    exact ⟨by rw [HE.out]; rfl, (Below.refl _ _).alloc (Nat.le_refl _) _⟩
end Go.Proofs.YtgmeamefbfgbgaaDoor
