/-
  A count ahead of a motion: layer 11, as plain lists.
-/
import Derived.Test.YtnkhlallnblfmaaGrTold
namespace Go.Proofs.Ytnkhlallnblfmaa

/-- a number's digits, from so many on -/
def decG (n : Int) : List Int :=
  (if 10000 ≤ n then [48 + n / 10000 % 10] else []) ++ (if 1000 ≤ n then [48 + n / 1000 % 10] else []) ++ (if 100 ≤ n then [48 + n / 100 % 10] else []) ++ (if 10 ≤ n then [48 + n / 10 % 10] else []) ++ (if 1 ≤ n then [48 + n % 10] else [])
theorem run_more {v : Bool} {n d : Int} (hd : 0 ≤ d ∧ d ≤ 9) (l : List Int) (m : Nat) : runG v (.digits ⟨0, n, 0, 0, 0⟩) ((48 + d) :: l) m = runG v (.digits ⟨0, min (n * 10 + d) 999, 0, 0, 0⟩) l (m + 1) := by
  have q : digit0 (48 + d) := by unfold digit0; omega
  rw [runG_go (step_digit q), show 48 + d - 48 = d by omega]
theorem run_one {v : Bool} {d : Int} (hd : 1 ≤ d ∧ d ≤ 9) (l : List Int) (m : Nat) : runG v .start ((48 + d) :: l) m = runG v (.digits ⟨0, d, 0, 0, 0⟩) l (m + 1) := by
  have q : digit1 (48 + d) := by unfold digit1; omega
  have := step_first (v := v) (r := 0) q
  rw [show (baseG 0) = .start from rfl] at this
  rw [runG_go this, show 48 + d - 48 = d by omega]
theorem run_dec {v : Bool} {n : Int} (hn : 0 ≤ n ∧ n ≤ 65535) (l : List Int) : runG v .start (decG n ++ l) 0 = runG v (afterG 0 (min n 999)) l (decG n).length := by
  unfold decG afterG
  by_cases h5 : 10000 ≤ n
  · rw [if_pos h5, if_pos (show 1000 ≤ n by omega), if_pos (show 100 ≤ n by omega), if_pos (show 10 ≤ n by omega), if_pos (show 1 ≤ n by omega), if_pos (show 0 < min n 999 by omega)]
    simp only [List.cons_append, List.nil_append]
    rw [run_one (by omega), run_more (by omega), run_more (by omega), run_more (by omega), run_more (by omega)]
    have e : min (min (min (min (n / 10000 % 10 * 10 + n / 1000 % 10) 999 * 10 + n / 100 % 10) 999 * 10 + n / 10 % 10) 999 * 10 + n % 10) 999 = min n 999 := by omega
    rw [e]
    rfl
  · rw [if_neg h5]
    by_cases h4 : 1000 ≤ n
    · rw [if_pos h4, if_pos (show 100 ≤ n by omega), if_pos (show 10 ≤ n by omega), if_pos (show 1 ≤ n by omega), if_pos (show 0 < min n 999 by omega)]
      simp only [List.cons_append, List.nil_append]
      rw [run_one (by omega), run_more (by omega), run_more (by omega), run_more (by omega)]
      have e : min (min (min (n / 1000 % 10 * 10 + n / 100 % 10) 999 * 10 + n / 10 % 10) 999 * 10 + n % 10) 999 = min n 999 := by omega
      rw [e]
      rfl
    · rw [if_neg h4]
      by_cases h3 : 100 ≤ n
      · rw [if_pos h3, if_pos (show 10 ≤ n by omega), if_pos (show 1 ≤ n by omega), if_pos (show 0 < min n 999 by omega)]
        simp only [List.cons_append, List.nil_append]
        rw [run_one (by omega), run_more (by omega), run_more (by omega)]
        have e : min (min (n / 100 % 10 * 10 + n / 10 % 10) 999 * 10 + n % 10) 999 = min n 999 := by omega
        rw [e]
        rfl
      · rw [if_neg h3]
        by_cases h2 : 10 ≤ n
        · rw [if_pos h2, if_pos (show 1 ≤ n by omega), if_pos (show 0 < min n 999 by omega)]
          simp only [List.cons_append, List.nil_append]
          rw [run_one (by omega), run_more (by omega)]
          have e : min (n / 10 % 10 * 10 + n % 10) 999 = min n 999 := by omega
          rw [e]
          rfl
        · rw [if_neg h2]
          by_cases h1 : 1 ≤ n
          · rw [if_pos h1, if_pos (show 0 < min n 999 by omega)]
            simp only [List.cons_append, List.nil_append]
            rw [run_one (by omega)]
            have e : n % 10 = min n 999 := by omega
            rw [e]
            rfl
          · rw [if_neg h1, if_neg (show ¬ 0 < min n 999 by omega)]
            rfl
/-- the motions that the statement names -/
def plainG (k : Int) : Bool := inG k [104, 106, 107, 108, 119, 98, 101, 71, 36, 123, 125]
theorem plain_alone {v : Bool} {k : Int} (h : plainG k = true) : vkG v k = .alone ∧ k ≠ 48 := by
  have := inG_iff.1 h
  simp only [List.mem_cons, List.not_mem_nil, or_false] at this
  rcases this with rfl | rfl | rfl | rfl | rfl | rfl | rfl | rfl | rfl | rfl | rfl
  all_goals cases v <;> decide
theorem parseG_count {n k : Int} {v : Bool} (hn : 0 ≤ n ∧ n ≤ 65535) (hk : plainG k = true) : parseG (decG n ++ [k]) v = (⟨0, min n 999, k, 0, 0⟩, (decG n).length + 1, 1) := by
  obtain ⟨h1, h2⟩ := plain_alone (v := v) hk
  unfold parseG
  have hs := step_verb (r := 0) (n := min n 999) (show vkG v k ≠ .none_ by rw [h1]; decide) (fun _ => h2) (by omega)
  rw [run_dec hn, runG_done (c := ⟨0, min n 999, k, 0, 0⟩) (by rw [hs]; unfold verbG; rw [h1]; rfl)]
end Go.Proofs.Ytnkhlallnblfmaa
