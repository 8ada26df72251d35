/-
  Contracts of the document's own answers, layer 6: Col.
-/
import Derived.Test.YtnkhlallnblfmaaLinStarts
namespace Go.Proofs.Ytnkhlallnblfmaa
open Go.RowKit

/-- the column of a place at which a sign begins -/
def colAt (S : List UInt8) (a : Nat) : Nat := ((startsL S (ofL S a)).filter (fun x => decide (x < a))).length

/-- the bytes that go with whole lines -/
def wholeL (S : List UInt8) (a b : Int) : (Nat × Nat) × Nat :=
  if 0 ≤ a ∧ a ≤ b ∧ b < (countL S : Int) then
    (if b + 1 < (countL S : Int) then (((boundsL S a).1.1, (boundsL S (b + 1)).1.1), 0) else if 0 < a then (((boundsL S a).1.1 - 1, S.length), 0) else ((0, S.length), 0))
  else ((0, 0), 2)
theorem wholeL_bad {S : List UInt8} {a b : Int} (h : ¬ (0 ≤ a ∧ a ≤ b ∧ b < (countL S : Int))) : wholeL S a b = ((0, 0), 2) := if_neg h
theorem wholeL_good {S : List UInt8} {a b : Int} (h : 0 ≤ a ∧ a ≤ b ∧ b < (countL S : Int)) : wholeL S a b = (if b + 1 < (countL S : Int) then (((boundsL S a).1.1, (boundsL S (b + 1)).1.1), 0) else if 0 < a then (((boundsL S a).1.1 - 1, S.length), 0) else ((0, S.length), 0)) := if_pos h
theorem boundsL_pos {S : List UInt8} {a : Int} (h : 0 < a) (h2 : a < (countL S : Int)) : 0 < (boundsL S a).1.1 ∧ (boundsL S a).1.1 ≤ S.length + 1 := by
  obtain ⟨m, rfl⟩ : ∃ m : Nat, a = ((m + 1 : Nat) : Int) := ⟨a.toNat - 1, by omega⟩
  have hm : m + 1 < countL S := by omega
  rw [boundsL_succ hm]
  have hl := endsL_len S
  refine ⟨by show 0 < _ + 1; omega, ?_⟩
  have hx := endsL_le S _ (List.getElem_mem (show m < (endsL S).length by omega))
  show List.getD _ _ _ + 1 ≤ _
  rw [List.getD_eq_getElem?_getD, List.getElem?_eq_getElem (by omega)]
  show (endsL S)[m] + 1 ≤ _
  omega

attribute [local irreducible] boundsL countL wholeL
end Go.Proofs.Ytnkhlallnblfmaa
