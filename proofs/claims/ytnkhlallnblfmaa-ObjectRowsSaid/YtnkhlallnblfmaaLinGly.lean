/-
  A contract of the landed package glyph: Class.
-/
import Derived.Test.YtnkhlallnblfmaaLinClass
namespace Go.Proofs.Ytnkhlallnblfmaa
open Go.RowKit

set_option maxRecDepth 10000000 in
set_option maxHeartbeats 4000000 in
theorem glyClass_any (r : Nat) (hr : r ≤ 1114111) (w : World) : Calls Try.prog 40 #[.int .i32 (r : Nat)] w fun e w' => e = .returned (.int .i64 (classL r : Nat)) ∧ w = w' := by
  go_enter Try.func40, Try.ntmps40
  go_wp2
  all_goals
    (try simp only [beq_iff_eq, bne_iff_ne, beq_eq_false_iff_ne, bne_eq_false_iff_eq, ne_eq] at *)
    go_ret
    first
      | (exfalso; omega)
      | exact ⟨congrArg (fun n : Nat => Ending.returned (.int .i64 (n : Int))) (show (0 : Nat) = classL r by unfold classL; (repeat (first | rw [if_pos (by omega)] | rw [if_neg (by omega)]))), rfl⟩
      | exact ⟨congrArg (fun n : Nat => Ending.returned (.int .i64 (n : Int))) (show (3 : Nat) = classL r by unfold classL; (repeat (first | rw [if_pos (by omega)] | rw [if_neg (by omega)]))), rfl⟩
      | exact ⟨congrArg (fun n : Nat => Ending.returned (.int .i64 (n : Int))) (show (1 : Nat) = classL r by unfold classL; (repeat (first | rw [if_pos (by omega)] | rw [if_neg (by omega)]))), rfl⟩
      | exact ⟨congrArg (fun n : Nat => Ending.returned (.int .i64 (n : Int))) (show (2 : Nat) = classL r by unfold classL; (repeat (first | rw [if_pos (by omega)] | rw [if_neg (by omega)]))), rfl⟩
end Go.Proofs.Ytnkhlallnblfmaa
