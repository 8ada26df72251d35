/-
  Contracts of the document's own answers, layer 2: Signs.
-/
import Derived.Test.YtbfedakncdodcaaGlySigns
namespace Go.Proofs.Ytbfedakncdodcaa
open Go.RowKit

/-- signs with their places -/
def offs (a : Nat) : List (Nat × Nat) → List (Nat × (Nat × Nat))
  | [] => []
  | x :: l => (a, x) :: offs (a + x.2) l
def flat (L : List (Nat × (Nat × Nat))) : List Value := L.flatMap fun p => (signV p.1 p.2).toList
theorem offs_snoc (a : Nat) (l : List (Nat × Nat)) (x : Nat × Nat) : offs a (l ++ [x]) = offs a l ++ [(a + width l, x)] := by
  induction l generalizing a with
  | nil => simp [offs, width]
  | cons y l ih => simp only [List.cons_append, offs, ih, width, List.map_cons, List.sum_cons]; rw [Nat.add_assoc]
theorem offs_len (a : Nat) (l : List (Nat × Nat)) : (offs a l).length = l.length := by
  induction l generalizing a with
  | nil => rfl
  | cons x l ih => simp [offs, ih]
theorem offs_fst (a : Nat) (l : List (Nat × Nat)) : (offs a l).map (·.1) = startsAt a l := by
  induction l generalizing a with
  | nil => rfl
  | cons x l ih => simp [offs, startsAt, ih]
theorem offs_snd (a : Nat) (l : List (Nat × Nat)) : (offs a l).map (·.2) = l := by
  induction l generalizing a with
  | nil => rfl
  | cons x l ih => simp [offs, ih]
theorem flat_snoc (L : List (Nat × (Nat × Nat))) (p : Nat × (Nat × Nat)) : flat (L ++ [p]) = flat L ++ (signV p.1 p.2).toList := by simp [flat]
theorem flat_len (L : List (Nat × (Nat × Nat))) : (flat L).length = L.length * 4 := by
  induction L with
  | nil => rfl
  | cons p L ih => simp only [flat, List.flatMap_cons, List.length_append, List.length_cons] at *; rw [ih]; simp [signV]; omega
theorem flat_get (L : List (Nat × (Nat × Nat))) (k j : Nat) (hk : k < L.length) (hj : j < 4) : (flat L)[k * 4 + j]? = (signV L[k].1 L[k].2)[j]? := by
  induction L generalizing k with
  | nil => simp at hk
  | cons p L ih =>
    have hl : (signV p.1 p.2).toList.length = 4 := rfl
    cases k with
    | zero =>
      simp only [flat, List.flatMap_cons, Nat.zero_mul, Nat.zero_add]
      rw [List.getElem?_append_left (by omega)]
      simp
    | succ k =>
      simp only [flat, List.flatMap_cons]
      rw [List.getElem?_append_right (by omega), hl, show (k + 1) * 4 + j - 4 = k * 4 + j by omega]
      have := ih k (by simpa using hk)
      simpa [flat] using this

end Go.Proofs.Ytbfedakncdodcaa
