/-
  Contracts of the document's own answers, layer 1: Below, Place, Ints, Cats.
-/
import Derived.Test.YthdflibljngjiaaRefSets
import Derived.Deep.QuietTactic
import Derived.BigQuiet
namespace Go.Proofs.Ythdflibljngjiaa
open Go.RowKit

theorem subB_iff (a b : Nat) : subB a b = true ↔ ∀ i, a.testBit i = true → b.testBit i = true := by
  unfold subB
  rw [beq_iff_eq]
  constructor
  · intro h i hi
    have h' : a &&& b = a := by omega
    have : (a &&& b).testBit i = a.testBit i := by rw [h']
    simp at this
    exact this hi
  · intro h
    have : a &&& b = a := Nat.eq_of_testBit_eq (fun i => by simp; exact h i)
    rw [this]
theorem high_bit {x i : Nat} (hx : x < 18446744073709551616) (hi : 64 ≤ i) : x.testBit i = false :=
  Nat.testBit_lt_two_pow (Nat.lt_of_lt_of_le (show x < 2 ^ 64 from hx) (Nat.pow_le_pow_right (by decide) hi))
theorem subB_no {a b k : Nat} (h1 : a.testBit k = true) (h2 : b.testBit k = false) : subB a b = false := by
  cases h : subB a b with
  | false => rfl
  | true => rw [(subB_iff a b).1 h k h1] at h2; cases h2
theorem subB_all {a b : Nat} (ha : a < 18446744073709551616) (h : ∀ i, i < 64 → a.testBit i = true → b.testBit i = true) : subB a b = true :=
  (subB_iff a b).2 fun i hi => by
    by_cases hlt : i < 64
    · exact h i hlt hi
    · rw [high_bit ha (by omega)] at hi; cases hi
theorem ret_bool {a b : Bool} (h : a = b) : Ending.returned (.bool a) = .returned (.bool b) := by rw [h]

end Go.Proofs.Ythdflibljngjiaa
