/-
  Names of registers, and their places: the landed functions: layer 9.
-/
import Derived.Test.YtcpijnoabipefaaRgMath
namespace Go.Proofs.Ytcpijnoabipefaa
open Go.RowKit

set_option maxHeartbeats 1000000 in
theorem rgUnnamed_any (n : Int) (w : World) : Calls Try.prog 21 #[.int .i32 n] w fun e w' => e = .returned (.bool (unN n)) ∧ w' = w := by
  by_cases h0 : n = 0
  · subst h0
    go_enter Try.func21, Try.ntmps21
    go_wp2_with fail
    go_ret
    exact ⟨rfl, rfl⟩
  · have e0 : (n == 0) = false := by simpa using h0
    by_cases h1 : n = 34
    · subst h1
      go_enter Try.func21, Try.ntmps21
      go_wp2_with fail
      go_ret
      exact ⟨rfl, rfl⟩
    · have e1 : (n == 34) = false := by simpa using h1
      have hu : unN n = false := by simp [unN, h0, h1]
      rw [hu]
      clear hu h0 h1
      go_enter Try.func21, Try.ntmps21
      go_wp2_with fail
      go_ret
      exact ⟨rfl, rfl⟩
set_option maxHeartbeats 1000000 in
theorem rgCapital_any (n : Int) (w : World) : Calls Try.prog 37 #[.int .i32 n] w fun e w' => e = .returned (.bool (capN n)) ∧ w' = w := by
  by_cases h0 : 65 ≤ n
  · by_cases h1 : n ≤ 90
    · have hu : capN n = true := by simp [capN, h0, h1]
      rw [hu]
      clear hu
      go_enter Try.func37, Try.ntmps37
      go_wp2_with fail
      go_ret
      exact ⟨by simp, rfl⟩
    · have hu : capN n = false := by simp [capN, h1]
      rw [hu]
      clear hu
      go_enter Try.func37, Try.ntmps37
      go_wp2_with fail
      go_ret
      exact ⟨by simp, rfl⟩
  · have hu : capN n = false := by simp [capN, h0]
    rw [hu]
    clear hu
    go_enter Try.func37, Try.ntmps37
    go_wp2_with fail
    go_ret
    exact ⟨by first | rfl | simp [h0], rfl⟩
set_option maxHeartbeats 1000000 in
theorem rgLetter_any (n : Int) (w : World) : Calls Try.prog 33 #[.int .i32 n] w fun e w' => e = .returned (.bool (letN n)) ∧ w' = w := by
  by_cases h0 : 97 ≤ n
  · by_cases h1 : n ≤ 122
    · have hu : letN n = true := by simp [letN, h0, h1]
      rw [hu]
      clear hu
      go_enter Try.func33, Try.ntmps33
      go_wp2_with fail
      go_ret
      exact ⟨by first | rfl | simp [h1], rfl⟩
    · have hu : letN n = capN n := by simp [letN, capN, h1]
      rw [hu]
      clear hu
      go_enter Try.func33, Try.ntmps33
      go_wp2_with (go_at_call 37; refine (rgCapital_any n _).mono ?_; rintro e w' ⟨rfl, rfl⟩)
      go_ret
      exact ⟨by first | rfl | simp [h1], rfl⟩
  · have hu : letN n = capN n := by simp [letN, capN, h0]
    rw [hu]
    clear hu
    go_enter Try.func33, Try.ntmps33
    go_wp2_with (go_at_call 37; refine (rgCapital_any n _).mono ?_; rintro e w' ⟨rfl, rfl⟩)
    go_ret
    exact ⟨by first | rfl | simp [h0], rfl⟩
set_option maxHeartbeats 2000000 in
theorem rgPlace_any (n : Int) (hn : -2147483648 ≤ n ∧ n ≤ 2147483647) (w : World) : Calls Try.prog 27 #[.int .i32 n] w fun e w' => e = .returned (.int .i64 (plN n)) ∧ w' = w := by
  by_cases h0 : unN n = true
  · have hp : plN n = 37 := if_pos h0
    rw [hp]
    go_enter Try.func27, Try.ntmps27
    go_wp2_with (go_at_call 21; refine (rgUnnamed_any n _).mono ?_; rw [h0]; rintro e w' ⟨rfl, rfl⟩)
    go_ret
    exact ⟨rfl, rfl⟩
  · have e0 : unN n = false := by simpa using h0
    by_cases h1 : capN n = true
    · have hp : plN n = n - 65 := by unfold plN; rw [if_neg h0, if_pos h1]
      have hr := of_decide_eq_true h1
      rw [hp]
      go_enter Try.func27, Try.ntmps27
      go_wp2_with (first
        | (go_at_call 21; refine (rgUnnamed_any n _).mono ?_; rw [e0]; rintro e w' ⟨rfl, rfl⟩)
        | (go_at_call 37; refine (rgCapital_any n _).mono ?_; rw [h1]; rintro e w' ⟨rfl, rfl⟩))
      go_ret
      exact ⟨rfl, rfl⟩
    · have e1 : capN n = false := by simpa using h1
      by_cases h2 : letN n = true
      · have hp : plN n = n - 97 := by unfold plN; rw [if_neg h0, if_neg h1, if_pos h2]
        have hr : 97 ≤ n ∧ n ≤ 122 := by
          have := of_decide_eq_true h2
          have h3 : ¬ (65 ≤ n ∧ n ≤ 90) := fun e => h1 (decide_eq_true e)
          omega
        rw [hp]
        go_enter Try.func27, Try.ntmps27
        go_wp2_with (first
          | (go_at_call 21; refine (rgUnnamed_any n _).mono ?_; rw [e0]; rintro e w' ⟨rfl, rfl⟩)
          | (go_at_call 37; refine (rgCapital_any n _).mono ?_; rw [e1]; rintro e w' ⟨rfl, rfl⟩)
          | (go_at_call 33; refine (rgLetter_any n _).mono ?_; rw [h2]; rintro e w' ⟨rfl, rfl⟩))
        go_ret
        exact ⟨rfl, rfl⟩
      · have e2 : letN n = false := by simpa using h2
        by_cases h3 : 48 ≤ n
        · by_cases h4 : n ≤ 57
          · have hp : plN n = 26 + (n - 48) := by unfold plN; rw [if_neg h0, if_neg h1, if_neg h2, if_pos ⟨h3, h4⟩]
            rw [hp]
            have d1 : decide (n ≤ 57) = true := decide_eq_true h4
            go_enter Try.func27, Try.ntmps27
            go_wp2_with (first
              | (go_at_call 21; refine (rgUnnamed_any n _).mono ?_; rw [e0]; rintro e w' ⟨rfl, rfl⟩)
              | (go_at_call 37; refine (rgCapital_any n _).mono ?_; rw [e1]; rintro e w' ⟨rfl, rfl⟩)
              | (go_at_call 33; refine (rgLetter_any n _).mono ?_; rw [e2]; rintro e w' ⟨rfl, rfl⟩))
            go_ret
            exact ⟨rfl, rfl⟩
          · have h5 : ¬ n = 45 := by omega
            have e5 : (n == 45) = false := by simpa using h5
            have hp : plN n = -1 := by unfold plN; rw [if_neg h0, if_neg h1, if_neg h2, if_neg (fun h => h4 h.2), if_neg h5]
            rw [hp]
            go_enter Try.func27, Try.ntmps27
            go_wp2_with (first
              | (go_at_call 21; refine (rgUnnamed_any n _).mono ?_; rw [e0]; rintro e w' ⟨rfl, rfl⟩)
              | (go_at_call 37; refine (rgCapital_any n _).mono ?_; rw [e1]; rintro e w' ⟨rfl, rfl⟩)
              | (go_at_call 33; refine (rgLetter_any n _).mono ?_; rw [e2]; rintro e w' ⟨rfl, rfl⟩))
            go_ret
            exact ⟨rfl, rfl⟩
        · by_cases h5 : n = 45
          · subst h5
            go_enter Try.func27, Try.ntmps27
            go_wp2_with (first
              | (go_at_call 21; refine (rgUnnamed_any _ _).mono ?_; rw [e0]; rintro e w' ⟨rfl, rfl⟩)
              | (go_at_call 37; refine (rgCapital_any _ _).mono ?_; rw [e1]; rintro e w' ⟨rfl, rfl⟩)
              | (go_at_call 33; refine (rgLetter_any _ _).mono ?_; rw [e2]; rintro e w' ⟨rfl, rfl⟩))
            go_ret
            exact ⟨rfl, rfl⟩
          · have e5 : (n == 45) = false := by simpa using h5
            have hp : plN n = -1 := by unfold plN; rw [if_neg h0, if_neg h1, if_neg h2, if_neg (fun h => h3 h.1), if_neg h5]
            rw [hp]
            go_enter Try.func27, Try.ntmps27
            go_wp2_with (first
              | (go_at_call 21; refine (rgUnnamed_any n _).mono ?_; rw [e0]; rintro e w' ⟨rfl, rfl⟩)
              | (go_at_call 37; refine (rgCapital_any n _).mono ?_; rw [e1]; rintro e w' ⟨rfl, rfl⟩)
              | (go_at_call 33; refine (rgLetter_any n _).mono ?_; rw [e2]; rintro e w' ⟨rfl, rfl⟩))
            go_ret
            exact ⟨rfl, rfl⟩
end Go.Proofs.Ytcpijnoabipefaa
