/-
  Contracts of the document's own answers, layer 6: starts, brought, last, Place.
-/
import Derived.Test.YtnkhlallnblfmaaLinBounds
import Derived.Test.YtnkhlallnblfmaaGlyMath
import Derived.Test.YtnkhlallnblfmaaGlyWhich
namespace Go.Proofs.Ytnkhlallnblfmaa
open Go.RowKit

def inLine (S : List UInt8) (n : Int) (x : Nat) : Bool := decide ((boundsL S n).1.1 ≤ x) && decide (x < (boundsL S n).1.2)
/-- where the signs of a line begin -/
def startsL (S : List UInt8) (n : Int) : List Nat := (startsAt 0 (chars S)).filter (inLine S n)
theorem filter_take {α : Type} (l : List α) (p : α → Bool) (k : Nat) (h : k < l.length) : (l.take (k + 1)).filter p = (l.take k).filter p ++ (if p l[k] = true then [l[k]] else []) := by
  rw [List.take_succ_eq_append_getElem h, List.filter_append]
  congr 1
  by_cases hp : p l[k] = true
  · rw [if_pos hp]; simp [hp]
  · rw [if_neg hp]; simp [hp]
theorem starts_le (S : List UInt8) : ∀ x ∈ startsAt 0 (chars S), x ≤ S.length := by
  intro x hx
  obtain ⟨k, hk, rfl⟩ := List.getElem_of_mem hx
  have hk' : k < (chars S).length := by rw [startsAt_len] at hk; exact hk
  rw [startsAt_get (chars S) k hk']
  have := width_le_take (chars S) k
  rw [width_chars] at this
  exact this

/-- a line's number, clamped -/
def broughtL (S : List UInt8) (n : Int) : Nat := min n.toNat (countL S - 1)
theorem countL_pos (S : List UInt8) : 0 < countL S := by unfold countL; omega
/-- a line's last sign -/
def lastL (S : List UInt8) (n : Int) : Nat := if startsL S n = [] then (boundsL S n).1.1 else (startsL S n).getD ((startsL S n).length - 1) 0
theorem startsL_len (S : List UInt8) (n : Int) : (startsL S n).length ≤ S.length := by
  have h := List.length_filter_le (inLine S n) (startsAt 0 (chars S))
  have h2 : (startsAt 0 (chars S)).length = (chars S).length := startsAt_len _ _
  have h3 := chars_len S
  unfold startsL
  omega
/-- the place of a column -/
def placeL (S : List UInt8) (n col : Int) : Nat := if col.toNat < (startsL S (broughtL S n)).length then (startsL S (broughtL S n)).getD col.toNat 0 else lastL S (broughtL S n)
end Go.Proofs.Ytnkhlallnblfmaa
