/-
  Merged: MvWith, MvTwic, MvTwo, MvFin.
-/
import Derived.Test.YtgpmfkedcoiopaaGreatDoorM12r
/-
  Where motions lead is a sign's beginning, or the end: layer 12.
-/
namespace Go.Proofs.YtgpmfkedcoiopaaGreatDoor
open Go.RowKit

/-- a sign begins here, or the text ends -/
def Beg (S : List UInt8) (x : Nat) : Prop := ∃ i, i ≤ (chars S).length ∧ x = width ((chars S).take i)
theorem Beg.take (S : List UInt8) (i : Nat) : Beg S (width ((chars S).take i)) := by
  rcases Nat.le_total i (chars S).length with h | h
  · exact ⟨i, h, rfl⟩
  · exact ⟨(chars S).length, Nat.le_refl _, by rw [List.take_of_length_le h, List.take_of_length_le (Nat.le_refl _)]⟩
theorem Beg.le {S : List UInt8} {x : Nat} (h : Beg S x) : x ≤ S.length := by
  obtain ⟨i, _, rfl⟩ := h
  have := width_le_take (chars S) i
  rwa [width_chars] at this
theorem Beg.zero (S : List UInt8) : Beg S 0 := ⟨0, Nat.zero_le _, by simp [width]⟩
theorem Beg.last (S : List UInt8) : Beg S S.length := ⟨(chars S).length, Nat.le_refl _, by rw [List.take_of_length_le (Nat.le_refl _), width_chars]⟩
theorem Beg.alignM (S : List UInt8) (p : Int) : Beg S (alignM S p) := Beg.take S _
theorem Beg.nextM (S : List UInt8) (p : Int) : Beg S (nextM S p) := Beg.take S _
theorem Beg.prevM (S : List UInt8) (p : Int) : Beg S (prevM S p) := Beg.take S _
theorem Beg.line {S : List UInt8} {n : Nat} (h : n < countL S) (k : Nat) (hk : k ≤ (signsL S n).length) : Beg S (begL S n + width ((signsL S n).take k)) := by
  obtain ⟨A, C, h1, h2, _, _⟩ := line_signs h
  refine ⟨A.length + k, by rw [h1]; simp; omega, ?_⟩
  rw [h1, List.append_assoc, List.take_length_add_append, List.take_append_of_le_length hk, width_append, h2]
theorem Beg.begL {S : List UInt8} {n : Nat} (h : n < countL S) : Beg S (begL S n) := by
  have := Beg.line h 0 (Nat.zero_le _)
  simpa [width] using this
theorem Beg.endL {S : List UInt8} {n : Nat} (h : n < countL S) : Beg S (endL S n) := by
  obtain ⟨A, C, h1, h2, h3, _⟩ := line_signs h
  have := Beg.line h (signsL S n).length (Nat.le_refl _)
  rw [List.take_of_length_le (Nat.le_refl _)] at this
  rwa [← h2, h3] at this
theorem Beg.bounds {S : List UInt8} {n : Int} (h : 0 ≤ n ∧ n < (countL S : Int)) : Beg S (boundsL S n).1.1 ∧ Beg S (boundsL S n).1.2 := by
  obtain ⟨m, rfl⟩ : ∃ m : Nat, n = m := ⟨n.toNat, by omega⟩
  have hm : m < countL S := by omega
  rw [boundsL_nat hm]
  exact ⟨Beg.begL hm, Beg.endL hm⟩
theorem Beg.firstL (S : List UInt8) (n : Int) : Beg S (firstL S n) := by
  have hb := brought_lt S n
  refine Beg.line hb _ ?_
  unfold firstJ
  omega
theorem Beg.placeL (S : List UInt8) (n c : Int) : Beg S (placeL S n c) := by
  have hb := brought_lt S n
  rw [placeL_eq]
  exact Beg.line hb _ (by omega)
theorem Beg.places {S : List UInt8} {q : Nat → Bool} {k x : Nat} (h : x ∈ placesTo (chars S) q k) : Beg S x := by
  unfold placesTo at h
  obtain ⟨i, _, rfl⟩ := List.mem_map.1 h
  exact Beg.take S i
theorem Beg.behind {S : List UInt8} {l : List Nat} {a n d : Nat} (hl : ∀ x ∈ l, Beg S x) (hd : Beg S d) : Beg S ((behindM l a n).getD d) := by
  rcases h : behindM l a n with _ | x
  · exact hd
  · exact hl x (behindM_mem h).1
theorem Beg.ahead {S : List UInt8} {l : List Nat} {a n d : Nat} (hl : ∀ x ∈ l, Beg S x) (hd : Beg S d) : Beg S ((aheadM l a n).getD d) := by
  rcases h : aheadM l a n with _ | x
  · exact hd
  · exact hl x (aheadM_mem h).1
theorem Beg.of (S : List UInt8) (p : Int) : Beg S (boundsL S (ofL S p : Nat)).1.1 ∧ Beg S (boundsL S (ofL S p : Nat)).1.2 := Beg.bounds (by have := ofL_le S p; omega)
end Go.Proofs.YtgpmfkedcoiopaaGreatDoor

/-
  Two motions of one kind, one behind the other, as plain functions: layer 12.
-/
namespace Go.Proofs.YtgpmfkedcoiopaaGreatDoor
open Go.RowKit

/-- a list that rises -/
def Rises (l : List Nat) : Prop := l.Pairwise (· < ·)
/-- places rise -/
theorem width_lt {S : List UInt8} {i j : Nat} (h : i < j) (hj : j ≤ (chars S).length) : width ((chars S).take i) < width ((chars S).take j) := by
  have h1 := width_succ (chars S) i (by omega)
  have h2 := width_take_mono (chars S) (show i + 1 ≤ j by omega)
  have h3 := chars_wide (S := S) _ (List.getElem_mem (show i < (chars S).length by omega))
  omega
end Go.Proofs.YtgpmfkedcoiopaaGreatDoor

/-
  Two motions lead where one leads that goes as far as both; lines down, and up again: layer 12.
-/
namespace Go.Proofs.YtgpmfkedcoiopaaGreatDoor
open Go.RowKit

/-- the line of a place -/
theorem line_of {S : List UInt8} {a : Nat} (ha : a ≤ S.length) : ∃ q, ofL S (a : Nat) = q ∧ q < countL S ∧ begL S q ≤ a ∧ a ≤ endL S q := by
  obtain ⟨p1, p2, p3⟩ := place_line ha
  exact ⟨_, by unfold ofL; rw [Int.toNat_natCast, Nat.min_eq_right ha], p1, p2, p3⟩
end Go.Proofs.YtgpmfkedcoiopaaGreatDoor

/-
  Signs that are looked for, and those in between: layer 12.
-/
namespace Go.Proofs.YtgpmfkedcoiopaaGreatDoor
open Go.RowKit

/-- where sign number i begins -/
def atM (S : List UInt8) (i : Nat) : Nat := width ((chars S).take i)
def runeQ (S : List UInt8) (r : Int) (lo i : Nat) : Bool := decide (lo < i) && decide ((((chars S).getD i (0, 0)).1 : Int) = r)
/-- so many signs of that rune lie behind sign number lo, and ahead of number hi -/
def betw (S : List UInt8) (r : Int) (lo hi : Nat) : Nat := ((List.range hi).filter (runeQ S r lo)).length
theorem atM_lt {S : List UInt8} {i j : Nat} (_hi : i ≤ (chars S).length) (hj : j ≤ (chars S).length) : atM S i < atM S j ↔ i < j := by
  constructor
  · intro h
    rcases Nat.lt_or_ge i j with h' | h'
    · exact h'
    · have := width_take_mono (chars S) h'
      unfold atM at h
      omega
  · intro h
    exact width_lt h hj
theorem which_atM {S : List UInt8} {i : Nat} (hi : i ≤ (chars S).length) : whichM (chars S) (atM S i : Nat) = i := ((which_self hi).unique (which_is _ _)).symm
theorem nextM_atM {S : List UInt8} {i : Nat} (hi : i ≤ (chars S).length) : nextM S (atM S i : Nat) = atM S (i + 1) := by unfold nextM; rw [which_atM hi]; rfl
/-- what f and F say -/
structure FoundM (S : List UInt8) (p : Int) (r : Int) (n x : Nat) (fwd : Bool) : Prop where
  ex : ∃ lo hi, lo < hi ∧ hi ≤ (chars S).length ∧ betw S r lo hi + 1 = n ∧ (if fwd = true then atM S lo = alignM S p ∧ atM S hi = x ∧ hi < (chars S).length else atM S lo = x ∧ atM S hi = alignM S p) ∧
    (∃ i, i < (chars S).length ∧ atM S i = x ∧ (((chars S).getD i (0, 0)).1 : Int) = r) ∧ ofL S (x : Nat) = ofL S (alignM S p : Nat)
end Go.Proofs.YtgpmfkedcoiopaaGreatDoor
