/-
  Contracts of the document's own answers, layer 10: May, Written, begins, Same, Print.
-/
import Derived.Test.YtgpmfkedcoiopaaGreatDoorKeyMath
import Derived.Test.YtgpmfkedcoiopaaGreatDoorM02u
import Derived.BigQuiet
import Derived.Deep.QuietTactic
import Derived.Deep.DeepCutAuto
namespace Go.Proofs.YtgpmfkedcoiopaaGreatDoor
open Go.RowKit

set_option maxRecDepth 4000000 in
set_option maxHeartbeats 1000000 in
theorem refKMay_any (r : Int) (w : World) : Calls Tryz.prog 70 #[.int .i64 r] w fun e w' => e = .returned (.bool (decide (keyK r))) ∧ w' = w := by
  by_cases h1 : 1 ≤ r
  · by_cases h2 : r ≤ 27
    · have HK : Hid (decide (keyK r) = true) := decide_eq_true (Or.inl ⟨h1, h2⟩)
      go_enter Tryz.func70, Tryz.ntmps70
      go_wp2_with fail
      go_ret
      exact ⟨ret_bool (by first | (rw [HK.out]; done) | (rw [HK.out]; simp; omega) | (rw [HK.out]; simp; done)), rfl⟩
    · by_cases h3 : 32 ≤ r
      · by_cases h4 : r = 127
        · subst h4
          have HK := Lib.hid (show decide (keyK 127) = false by decide)
          clear h1 h2 h3
          go_enter Tryz.func70, Tryz.ntmps70
          go_wp2_with fail
          go_ret
          exact ⟨ret_bool (by first | (rw [HK.out]; done) | (rw [HK.out]; simp; done)), rfl⟩
        · have e4 : (r != 127) = true := by simpa using h4
          have HK : Hid (decide (keyK r) = mayB r) := by
            show _ = _
            have h : keyK r ↔ (0 ≤ r ∧ r ≤ 1114111) ∧ (r < 55296 ∨ 57343 < r) := by unfold keyK; omega
            rw [Bool.eq_iff_iff, decide_eq_true_iff, h]
            simp [mayB]
          clear h4
          go_enter Tryz.func70, Tryz.ntmps70
          go_wp2_with (go_at_call 127; refine (refMay_any r _).mono ?_; rintro e w' ⟨rfl, hw⟩; subst w')
          go_ret
          exact ⟨ret_bool (by first | (rw [HK.out]; done) | (rw [HK.out]; simp; omega) | (rw [HK.out]; simp; done)), rfl⟩
      · have HK : Hid (decide (keyK r) = false) := decide_eq_false (by unfold keyK; omega)
        go_enter Tryz.func70, Tryz.ntmps70
        go_wp2_with fail
        go_ret
        exact ⟨ret_bool (by first | (rw [HK.out]; done) | (rw [HK.out]; simp; omega) | (rw [HK.out]; simp; done)), rfl⟩
  · have HK : Hid (decide (keyK r) = false) := decide_eq_false (by unfold keyK; omega)
    go_enter Tryz.func70, Tryz.ntmps70
    go_wp2_with fail
    go_ret
    exact ⟨ret_bool (by first | (rw [HK.out]; done) | (rw [HK.out]; simp; omega) | (rw [HK.out]; simp; done)), rfl⟩

theorem text_front (s : List UInt8) (k : Nat) : ({ data := s.toArray } : ByteArray).extract 0 k = ⟨(s.take k).toArray⟩ := by
  apply ByteArray.ext
  rw [ByteArray.data_extract]
  apply Array.ext'
  simp
end Go.Proofs.YtgpmfkedcoiopaaGreatDoor
