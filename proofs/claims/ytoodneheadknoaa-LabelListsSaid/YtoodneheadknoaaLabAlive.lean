/-
  The contract of the law package's alive: true, whatever the world.
-/
import Derived.Test.YtoodneheadknoaaLabText
namespace Go.Proofs.Ytoodneheadknoaa
open Go.RowKit

theorem alive_label : ∃ l : Nat, ofTo [5, 0, 63, 5] = some l ∧ l < 18446744073709551616 ∧ printN l = [48, 46, 53, 46, 54, 51] :=
  ⟨2 ^ 63 + 33, by decide +kernel, by decide +kernel, by decide +kernel⟩

theorem row_new4 (w : World) (t : TypeId) (a b c d : Int) : Row (w.alloc (.cells #[.int .i64 a, .int .i64 b, .int .i64 c, .int .i64 d] t)) (w.heap.size + 1) (some ⟨w.heap.size, 0, none⟩) ([a, b, c, d].map intz) := by
  right
  refine ⟨_, rfl, by simp, ?_⟩
  intro j u hj
  match j, hj with
  | 0, hj => simp [intz] at hj; subst hj; simp [Addr.add]
  | 1, hj => simp [intz] at hj; subst hj; simp [Addr.add]
  | 2, hj => simp [intz] at hj; subst hj; simp [Addr.add]
  | 3, hj => simp [intz] at hj; subst hj; simp [Addr.add]
  | (j + 4), hj => simp at hj

set_option maxHeartbeats 400000 in
theorem alive_any (w : World) : Calls Try.prog 10 #[] w fun e w' => e = .returned (.bool true) ∧ Below w.heap.size w w' := by
  obtain ⟨l, HL0, hl, HP0⟩ := alive_label
  have HL := Lib.hid HL0
  have HP := Lib.hid HP0
  clear HL0 HP0
  go_enter Try.func10, Try.ntmps10
  go_wp2_with fail
  refine (of_any (some ⟨w.heap.size, 0, none⟩) 4 (w.heap.size + 1) [5, 0, 63, 5] (by simp; unfold maxLen; omega) _ (row_new4 w _ 5 0 63 5)).mono ?_
  rintro e w1 ⟨rfl, rfl⟩
  rw [HL.out]
  unfold ofEnd
  go_wp2_with fail
  refine (print_any l hl _).mono ?_
  rintro e w2 ⟨rfl, hb2⟩
  rw [HP.out]
  go_wp2_with fail
  refine (join_any 1 6 (by omega) (by omega) _).mono ?_
  rintro e w3 ⟨rfl, rfl⟩
  go_wp2_with fail
  refine (below_any 2 6 (by omega) (by omega) _).mono ?_
  rintro e w3 ⟨rfl, rfl⟩
  rw [show subB 2 6 = true from rfl]
  go_wp2_with fail
  refine (place_any none 0 w2.heap.size 0 [] (by simp) _ Row.nil).mono ?_
  rintro e w3 ⟨rfl, rfl⟩
  rw [show placeN [] 0 = -1 from rfl]
  go_wp2_with fail
  go_ret
  exact ⟨rfl, ((Below.refl _ _).alloc (Nat.le_refl _) _).trans (hb2.mono (by simp))⟩

end Go.Proofs.Ytoodneheadknoaa
