/-
  Lines of a byte string: layer 6.
-/
import Derived.Test.YtnkhlallnblfmaaGlyMoves
namespace Go.Proofs.Ytnkhlallnblfmaa
open Go.RowKit

/-- where the line ends stand, up to a place -/
def endsTo (S : List UInt8) : Nat → List Nat
  | 0 => []
  | k + 1 => endsTo S k ++ (if S[k]? = some 10 then [k] else [])
/-- the line ends, and the end of the text -/
def endsL (S : List UInt8) : List Nat := endsTo S S.length ++ [S.length]
def countL (S : List UInt8) : Nat := (endsTo S S.length).length + 1
def ofL (S : List UInt8) (at_ : Int) : Nat := (endsTo S (min S.length at_.toNat)).length
theorem endsTo_len (S : List UInt8) (k : Nat) : (endsTo S k).length ≤ k := by
  induction k with
  | zero => simp [endsTo]
  | succ k ih =>
    unfold endsTo
    rw [List.length_append]
    split
    · simp; omega
    · simp; omega
theorem endsTo_yes {S : List UInt8} {k : Nat} (h : k < S.length) (hb : S[k] = 10) : endsTo S (k + 1) = endsTo S k ++ [k] := by
  show endsTo S k ++ _ = _
  rw [if_pos (by rw [List.getElem?_eq_getElem h, hb])]
theorem endsTo_no {S : List UInt8} {k : Nat} (h : k < S.length) (hb : ¬ S[k] = 10) : endsTo S (k + 1) = endsTo S k := by
  show endsTo S k ++ _ = _
  rw [if_neg (by rw [List.getElem?_eq_getElem h]; simpa using hb), List.append_nil]
theorem endsL_len (S : List UInt8) : (endsL S).length = countL S := by simp [endsL, countL]
theorem countL_le (S : List UInt8) : countL S ≤ S.length + 1 := by have := endsTo_len S S.length; unfold countL; omega
theorem endsTo_lt (S : List UInt8) (k : Nat) : ∀ x ∈ endsTo S k, x < k := by
  induction k with
  | zero => intro x hx; simp [endsTo] at hx
  | succ k ih =>
    intro x hx
    unfold endsTo at hx
    rcases List.mem_append.1 hx with hx | hx
    · have := ih x hx; omega
    · split at hx
      · simp at hx; omega
      · simp at hx
theorem endsL_le (S : List UInt8) : ∀ x ∈ endsL S, x ≤ S.length := by
  intro x hx
  rcases List.mem_append.1 hx with hx | hx
  · have := endsTo_lt S S.length x hx; omega
  · simp at hx; omega
/-- where a line begins and ends, or the error -/
def boundsL (S : List UInt8) (n : Int) : (Nat × Nat) × Nat :=
  if 0 ≤ n ∧ n < (countL S : Int) then ((if n = 0 then 0 else (endsL S).getD (n.toNat - 1) 0 + 1, (endsL S).getD n.toNat 0), 0) else ((0, 0), 2)
end Go.Proofs.Ytnkhlallnblfmaa
