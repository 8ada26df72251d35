/-
  A text without some whole lines: layer 6. No program here.
-/
import Derived.Test.YtlipkfaofmailaaLinLines
import Derived.Test.YtlipkfaofmailaaLinCol
namespace Go.Proofs.Ytlipkfaofmailaa
open Go.RowKit

/-- what lines are left -/
def leftL (S : List UInt8) (a b : Nat) : List (List UInt8) := if (linesOf S).take a ++ (linesOf S).drop (b + 1) = [] then [[]] else (linesOf S).take a ++ (linesOf S).drop (b + 1)
theorem beg_mono {S : List UInt8} {a b : Nat} (h : a ≤ b) (hb : b < countL S) : begL S a ≤ begL S b := by
  rcases Nat.lt_or_ge (begL S b) (begL S a) with hx | hx
  · have h1 := endsTo_mono S (show begL S b ≤ begL S a by omega)
    rw [beg_ends hb, beg_ends (by omega)] at h1
    obtain rfl : a = b := by omega
    exact Nat.le_refl _
  · exact hx
theorem cut_lines {S : List UInt8} {a b : Nat} (h1 : a ≤ b) (h2 : b < countL S) :
    ∃ F T, wholeL S a b = ((F, T), 0) ∧ F ≤ T ∧ T ≤ S.length ∧ linesOf (S.take F ++ S.drop T) = leftL S a b := by
  have hlen := linesOf_count S
  have hw := wholeL_good (S := S) (a := a) (b := b) ⟨by omega, by omega, by omega⟩
  rw [boundsL_nat (by omega)] at hw
  by_cases h3 : b + 1 < countL S
  · rw [if_pos (by omega), show ((b : Int) + 1) = ((b + 1 : Nat) : Int) by omega, boundsL_nat h3] at hw
    refine ⟨_, _, hw, beg_mono (by omega) h3, beg_le h3, ?_⟩
    have hd := lines_from h3
    have hne : (linesOf S).drop (b + 1) ≠ [] := by rw [← hd]; exact linesOf_ne _
    unfold leftL
    rw [if_neg (by simp [hne])]
    cases a with
    | zero => rw [beg_zero, List.take_zero, List.nil_append, List.take_zero, List.nil_append]; exact hd
    | succ a =>
      obtain ⟨g1, g2, g3⟩ := lines_drop (n := a) (S := S) (by omega)
      rw [beg_succ, g3, List.append_assoc, List.singleton_append, linesOf_app, g1, ← hd]
  · rw [if_neg (by omega)] at hw
    have hd : (linesOf S).drop (b + 1) = [] := List.drop_eq_nil_of_le (by omega)
    unfold leftL
    rw [hd, List.append_nil]
    cases a with
    | zero =>
      rw [if_neg (by omega)] at hw
      refine ⟨_, _, hw, Nat.zero_le _, Nat.le_refl _, ?_⟩
      simp [linesOf]
    | succ a =>
      rw [if_pos (by omega)] at hw
      obtain ⟨g1, g2, g3⟩ := lines_drop (n := a) (S := S) (by omega)
      have hbl := beg_le (S := S) (n := a + 1) (by omega)
      refine ⟨_, _, hw, by show begL S (a + 1) - 1 ≤ S.length; omega, Nat.le_refl _, ?_⟩
      have hne : (linesOf S).take (a + 1) ≠ [] := by rw [← g1]; exact linesOf_ne _
      rw [if_neg hne, List.drop_length, List.append_nil, beg_succ, ← g1]
      rfl
end Go.Proofs.Ytlipkfaofmailaa
