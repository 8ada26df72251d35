/-
  A contract of the document's own answers, layer 2: Class.
-/
import Derived.Test.YtnkhlallnblfmaaGlyWhich
namespace Go.Proofs.Ytnkhlallnblfmaa
open Go.RowKit

/-- the class of a rune -/
def classL (r : Nat) : Nat := if r = 32 ∨ r = 9 then 0 else if r = 10 then 3 else if (48 ≤ r ∧ r ≤ 57) ∨ (97 ≤ r ∧ r ≤ 122) ∨ (65 ≤ r ∧ r ≤ 90) ∨ r = 95 then 1 else if 128 ≤ r ∧ r ≠ 65533 then 1 else 2

set_option maxRecDepth 10000000 in
set_option maxHeartbeats 4000000 in
theorem refClass_any (r : Nat) (hr : r ≤ 1114111) (w : World) : Calls Try.prog 28 #[.int .i64 (r : Nat)] w fun e w' => e = .returned (.int .i64 (classL r : Nat)) ∧ w = w' := by
  go_enter Try.func28, Try.ntmps28
  go_wp2
  all_goals
    (try simp only [beq_iff_eq, bne_iff_ne, beq_eq_false_iff_ne, bne_eq_false_iff_eq, ne_eq] at *)
    go_ret
    first
      | (exfalso; omega)
      | exact ⟨congrArg (fun n : Nat => Ending.returned (.int .i64 (n : Int))) (show (0 : Nat) = classL r by unfold classL; (repeat (first | rw [if_pos (by omega)] | rw [if_neg (by omega)]))), rfl⟩
      | exact ⟨congrArg (fun n : Nat => Ending.returned (.int .i64 (n : Int))) (show (3 : Nat) = classL r by unfold classL; (repeat (first | rw [if_pos (by omega)] | rw [if_neg (by omega)]))), rfl⟩
      | exact ⟨congrArg (fun n : Nat => Ending.returned (.int .i64 (n : Int))) (show (1 : Nat) = classL r by unfold classL; (repeat (first | rw [if_pos (by omega)] | rw [if_neg (by omega)]))), rfl⟩
      | exact ⟨congrArg (fun n : Nat => Ending.returned (.int .i64 (n : Int))) (show (2 : Nat) = classL r by unfold classL; (repeat (first | rw [if_pos (by omega)] | rw [if_neg (by omega)]))), rfl⟩
end Go.Proofs.Ytnkhlallnblfmaa
