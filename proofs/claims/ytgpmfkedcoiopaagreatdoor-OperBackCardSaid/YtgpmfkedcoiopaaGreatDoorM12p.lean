/-
  Merged: MvWith, MvTwic, MvTwo, MvFin.
-/
import Derived.Test.YtgpmfkedcoiopaaGreatDoorM12r
/-
  Where motions lead is a sign's beginning, or the end: layer 12.
-/
namespace Go.Proofs.YtgpmfkedcoiopaaGreatDoor
open Go.RowKit

/-- a sign begins here, or the text ends -/
def Beg (S : List UInt8) (x : Nat) : Prop := ∃ i, i ≤ (chars S).length ∧ x = width ((chars S).take i)
theorem Beg.take (S : List UInt8) (i : Nat) : Beg S (width ((chars S).take i)) := by
  rcases Nat.le_total i (chars S).length with h | h
  · exact ⟨i, h, rfl⟩
  · exact ⟨(chars S).length, Nat.le_refl _, by rw [List.take_of_length_le h, List.take_of_length_le (Nat.le_refl _)]⟩
theorem Beg.le {S : List UInt8} {x : Nat} (h : Beg S x) : x ≤ S.length := by
  obtain ⟨i, _, rfl⟩ := h
  have := width_le_take (chars S) i
  rwa [width_chars] at this
theorem Beg.zero (S : List UInt8) : Beg S 0 := ⟨0, Nat.zero_le _, by simp [width]⟩
theorem Beg.last (S : List UInt8) : Beg S S.length := ⟨(chars S).length, Nat.le_refl _, by rw [List.take_of_length_le (Nat.le_refl _), width_chars]⟩
theorem Beg.alignM (S : List UInt8) (p : Int) : Beg S (alignM S p) := Beg.take S _
theorem Beg.nextM (S : List UInt8) (p : Int) : Beg S (nextM S p) := Beg.take S _
theorem Beg.prevM (S : List UInt8) (p : Int) : Beg S (prevM S p) := Beg.take S _
theorem Beg.line {S : List UInt8} {n : Nat} (h : n < countL S) (k : Nat) (hk : k ≤ (signsL S n).length) : Beg S (begL S n + width ((signsL S n).take k)) := by
  obtain ⟨A, C, h1, h2, _, _⟩ := line_signs h
  refine ⟨A.length + k, by rw [h1]; simp; omega, ?_⟩
  rw [h1, List.append_assoc, List.take_length_add_append, List.take_append_of_le_length hk, width_append, h2]
theorem Beg.begL {S : List UInt8} {n : Nat} (h : n < countL S) : Beg S (begL S n) := by
  have := Beg.line h 0 (Nat.zero_le _)
  simpa [width] using this
theorem Beg.endL {S : List UInt8} {n : Nat} (h : n < countL S) : Beg S (endL S n) := by
  obtain ⟨A, C, h1, h2, h3, _⟩ := line_signs h
  have := Beg.line h (signsL S n).length (Nat.le_refl _)
  rw [List.take_of_length_le (Nat.le_refl _)] at this
  rwa [← h2, h3] at this
theorem Beg.bounds {S : List UInt8} {n : Int} (h : 0 ≤ n ∧ n < (countL S : Int)) : Beg S (boundsL S n).1.1 ∧ Beg S (boundsL S n).1.2 := by
  obtain ⟨m, rfl⟩ : ∃ m : Nat, n = m := ⟨n.toNat, by omega⟩
  have hm : m < countL S := by omega
  rw [boundsL_nat hm]
  exact ⟨Beg.begL hm, Beg.endL hm⟩
theorem Beg.firstL (S : List UInt8) (n : Int) : Beg S (firstL S n) := by
  have hb := brought_lt S n
  refine Beg.line hb _ ?_
  unfold firstJ
  omega
theorem Beg.placeL (S : List UInt8) (n c : Int) : Beg S (placeL S n c) := by
  have hb := brought_lt S n
  rw [placeL_eq]
  exact Beg.line hb _ (by omega)
theorem Beg.places {S : List UInt8} {q : Nat → Bool} {k x : Nat} (h : x ∈ placesTo (chars S) q k) : Beg S x := by
  unfold placesTo at h
  obtain ⟨i, _, rfl⟩ := List.mem_map.1 h
  exact Beg.take S i
theorem Beg.empt {S : List UInt8} {x : Nat} (h : x ∈ emptM S) : Beg S x := by
  unfold emptM emptTo pickTo at h
  obtain ⟨i, hi, rfl⟩ := List.mem_map.1 h
  have := List.mem_range.1 (List.mem_filter.1 hi).1
  exact (Beg.bounds (S := S) (n := (i : Int)) (by omega)).1
theorem Beg.behind {S : List UInt8} {l : List Nat} {a n d : Nat} (hl : ∀ x ∈ l, Beg S x) (hd : Beg S d) : Beg S ((behindM l a n).getD d) := by
  rcases h : behindM l a n with _ | x
  · exact hd
  · exact hl x (behindM_mem h).1
theorem Beg.ahead {S : List UInt8} {l : List Nat} {a n d : Nat} (hl : ∀ x ∈ l, Beg S x) (hd : Beg S d) : Beg S ((aheadM l a n).getD d) := by
  rcases h : aheadM l a n with _ | x
  · exact hd
  · exact hl x (aheadM_mem h).1
theorem Beg.of (S : List UInt8) (p : Int) : Beg S (boundsL S (ofL S p : Nat)).1.1 ∧ Beg S (boundsL S (ofL S p : Nat)).1.2 := Beg.bounds (by have := ofL_le S p; omega)
theorem sideM_beg {S : List UInt8} {a n x : Nat} {key : Int} (hn : 1 ≤ n) (h : sideM S a n key = some x) : Beg S x := by
  have hof := Beg.of S (a : Nat)
  unfold sideM at h
  split at h
  · injection h with h; subst h; exact Beg.ahead (fun x hx => Beg.places hx) hof.1
  · split at h
    · injection h with h; subst h; exact Beg.behind (fun x hx => Beg.places hx) hof.2
    · split at h
      · injection h with h; subst h; exact hof.1
      · split at h
        · injection h with h; subst h; exact Beg.firstL S _
        · split at h
          · next h2 => injection h with h; subst h; exact (Beg.bounds ⟨by omega, h2⟩).2
          · cases h
theorem wordsM_beg (S : List UInt8) (a n : Nat) (key : Int) : Beg S (wordsM S a n key) := by
  unfold wordsM
  split
  · exact Beg.behind (fun x hx => Beg.places hx) (Beg.last S)
  · split
    · exact Beg.ahead (fun x hx => Beg.places hx) (Beg.zero S)
    · split
      · exact Beg.behind (fun x hx => Beg.empt hx) (Beg.last S)
      · exact Beg.ahead (fun x hx => Beg.empt hx) (Beg.zero S)
theorem findsM_beg {S : List UInt8} {a n x : Nat} {key arg : Int} (h : findsM S a n key arg = some x) : Beg S x := by
  unfold findsM at h
  split at h
  · cases h
  · split at h
    · exact Beg.places (behindM_mem h).1
    · split at h
      · obtain ⟨y, _, rfl⟩ := Option.map_eq_some_iff.1 h; exact Beg.prevM S _
      · split at h
        · obtain ⟨y, _, rfl⟩ := Option.map_eq_some_iff.1 h; exact Beg.nextM S _
        · exact Beg.places (aheadM_mem h).1
theorem linesM_beg {S : List UInt8} {a n x : Nat} {key count : Int} (h : linesM S a n key count = some x) : Beg S x := by
  unfold linesM at h
  split at h
  · injection h with h
    subst h
    split
    · exact Beg.placeL S _ _
    · exact Beg.firstL S _
  · cases h
theorem exclM_some {a : Nat} {r : Option Nat} {x k : Nat} (h : exclM a r = some (x, k)) : r = some x ∧ k = 0 ∧ x ≠ a := by
  unfold exclM at h
  obtain ⟨y, rfl, h'⟩ := Option.bind_eq_some_iff.1 h
  split at h'
  · cases h'
  · next hy => injection h' with h'; injection h' with h1 h2; subst h1; exact ⟨rfl, h2.symm, hy⟩
theorem inclM_some {r : Option Nat} {x k : Nat} (h : inclM r = some (x, k)) : r = some x ∧ k = 1 := by
  unfold inclM at h
  obtain ⟨y, rfl, h'⟩ := Option.map_eq_some_iff.1 h
  injection h' with h1 h2
  subst h1
  exact ⟨rfl, h2.symm⟩
theorem many_pos (c : Int) : 1 ≤ manyM c ∧ manyM c ≤ 999 := by unfold manyM; omega
/-- where a motion leads -/
theorem toM_within {S : List UInt8} {p key arg c : Int} {x k : Nat} (h : toM S p key arg c = some (x, k)) : Beg S x ∧ k ≤ 2 ∧ (k = 0 → x ≠ alignM S p) := by
  have hn := (many_pos c).1
  unfold toM at h
  dsimp only at h
  split at h
  · obtain ⟨h1, h2, h3⟩ := exclM_some h; exact ⟨sideM_beg hn h1, by omega, fun _ => h3⟩
  · split at h
    · obtain ⟨h1, h2, h3⟩ := exclM_some h
      injection h1 with h1
      subst h1
      exact ⟨wordsM_beg S _ _ _, by omega, fun _ => h3⟩
    · split at h
      · split at h
        · injection h with h
          injection h with h1 h2
          subst h1 h2
          exact ⟨Beg.behind (fun x hx => Beg.places hx) (Beg.prevM S _), by omega, fun h => by cases h⟩
        · cases h
      · split at h
        · obtain ⟨h1, h2⟩ := inclM_some h; exact ⟨findsM_beg h1, by omega, fun h => by omega⟩
        · split at h
          · obtain ⟨h1, h2, h3⟩ := exclM_some h; exact ⟨findsM_beg h1, by omega, fun _ => h3⟩
          · split at h
            · obtain ⟨y, h1, h2⟩ := Option.map_eq_some_iff.1 h
              injection h2 with h2 h3
              subst h2 h3
              exact ⟨linesM_beg h1, by omega, fun h => by cases h⟩
            · cases h
end Go.Proofs.YtgpmfkedcoiopaaGreatDoor

/-
  Two motions of one kind, one behind the other, as plain functions: layer 12.
-/
namespace Go.Proofs.YtgpmfkedcoiopaaGreatDoor
open Go.RowKit

/-- a list that rises -/
def Rises (l : List Nat) : Prop := l.Pairwise (· < ·)
/-- places rise -/
theorem width_lt {S : List UInt8} {i j : Nat} (h : i < j) (hj : j ≤ (chars S).length) : width ((chars S).take i) < width ((chars S).take j) := by
  have h1 := width_succ (chars S) i (by omega)
  have h2 := width_take_mono (chars S) (show i + 1 ≤ j by omega)
  have h3 := chars_wide (S := S) _ (List.getElem_mem (show i < (chars S).length by omega))
  omega
theorem range_rises (k : Nat) : Rises (List.range k) := List.pairwise_lt_range
theorem places_rises (S : List UInt8) (q : Nat → Bool) : Rises (placesTo (chars S) q (chars S).length) := by
  unfold placesTo Rises
  rw [List.pairwise_map]
  refine List.Pairwise.imp_of_mem (R := (· < ·)) ?_ ((range_rises _).filter _)
  intro i j _ hj hij
  have := List.mem_range.1 (List.mem_filter.1 hj).1
  exact width_lt hij (by omega)
theorem endL_mono {S : List UInt8} {i : Nat} : ∀ d, i + d < countL S → endL S i ≤ endL S (i + d) := by
  intro d
  induction d with
  | zero => intro _; exact Nat.le_refl _
  | succ d ih =>
    intro hd
    have h1 := ih (by omega)
    have h2 := beg_succ S (i + d)
    have h3 := beg_end (S := S) (n := i + d + 1) hd
    rw [show i + (d + 1) = i + d + 1 by omega]
    omega
theorem beg_lt {S : List UInt8} {i j : Nat} (h : i < j) (hj : j < countL S) : begL S i < begL S j := by
  obtain ⟨k, rfl⟩ : ∃ k, j = i + k + 1 := ⟨j - i - 1, by omega⟩
  rw [beg_succ]
  have h1 := beg_end (S := S) (n := i) (by omega)
  have h2 := endL_mono (S := S) (i := i) k (by omega)
  omega
theorem empt_eq (S : List UInt8) : emptM S = ((List.range (countL S)).filter fun n => decide (begL S n = endL S n)).map (begL S) := by
  unfold emptM emptTo pickTo
  have hf : (List.range (countL S)).filter (fun n : Nat => decide ((boundsL S (n : Int)).1.1 = (boundsL S (n : Int)).1.2)) = (List.range (countL S)).filter fun n : Nat => decide (begL S n = endL S n) := by
    refine List.filter_congr fun n hn => ?_
    rw [boundsL_nat (List.mem_range.1 hn)]
  rw [hf]
  refine List.map_congr_left fun n hn => ?_
  rw [boundsL_nat (List.mem_range.1 (List.mem_filter.1 hn).1)]
theorem empt_rises (S : List UInt8) : Rises (emptM S) := by
  rw [empt_eq]
  unfold Rises
  rw [List.pairwise_map]
  refine List.Pairwise.imp_of_mem (R := (· < ·)) ?_ ((range_rises _).filter _)
  intro i j _ hj hij
  exact beg_lt hij (List.mem_range.1 (List.mem_filter.1 hj).1)
/-- the line of a place within a line -/
theorem of_line {S : List UInt8} {n x : Nat} (h : n < countL S) (h1 : begL S n ≤ x) (h2 : x ≤ endL S n) : ofL S (x : Nat) = n := by
  have hle := end_le h
  obtain ⟨p1, p2, p3⟩ := place_line (S := S) (a := x) (by omega)
  have ho : ofL S (x : Nat) = (endsTo S x).length := by unfold ofL; rw [Int.toNat_natCast, Nat.min_eq_right (by omega)]
  rw [ho]
  rcases Nat.lt_trichotomy (endsTo S x).length n with h' | h' | h'
  · exfalso
    obtain ⟨k, rfl⟩ : ∃ k, n = k + 1 := ⟨n - 1, by omega⟩
    rw [beg_succ] at h1
    have hm := endsTo_mono S h1
    have hb := beg_ends (S := S) (n := k + 1) h
    rw [beg_succ] at hb
    omega
  · exact h'
  · exfalso
    have hb := beg_lt h' p1
    obtain ⟨k, hk⟩ : ∃ k, (endsTo S x).length = k + 1 := ⟨(endsTo S x).length - 1, by omega⟩
    rw [hk, beg_succ] at p2
    have : endL S n ≤ endL S k := by
      have := endL_mono (S := S) (i := n) (k - n) (by omega)
      rwa [show n + (k - n) = k by omega] at this
    omega
end Go.Proofs.YtgpmfkedcoiopaaGreatDoor

/-
  Two motions lead where one leads that goes as far as both; lines down, and up again: layer 12.
-/
namespace Go.Proofs.YtgpmfkedcoiopaaGreatDoor
open Go.RowKit

theorem toM_h (S : List UInt8) (p g c : Int) : toM S p 104 g c = exclM (alignM S p) (some ((aheadM (inLineM S (ofL S (alignM S p : Nat) : Nat) (-1)) (alignM S p) (manyM c)).getD (boundsL S (ofL S (alignM S p : Nat) : Nat)).1.1)) := rfl
theorem toM_l (S : List UInt8) (p g c : Int) : toM S p 108 g c = exclM (alignM S p) (some ((behindM (inLineM S (ofL S (alignM S p : Nat) : Nat) (-1)) (alignM S p) (manyM c)).getD (boundsL S (ofL S (alignM S p : Nat) : Nat)).1.2)) := rfl
theorem toM_w (S : List UInt8) (p g c : Int) : toM S p 119 g c = exclM (alignM S p) (some ((behindM (begsM (chars S)) (alignM S p) (manyM c)).getD S.length)) := rfl
theorem toM_b (S : List UInt8) (p g c : Int) : toM S p 98 g c = exclM (alignM S p) (some ((aheadM (begsM (chars S)) (alignM S p) (manyM c)).getD 0)) := rfl
theorem toM_rb (S : List UInt8) (p g c : Int) : toM S p 125 g c = exclM (alignM S p) (some ((behindM (emptM S) (boundsL S (ofL S (alignM S p : Nat) : Nat)).1.2 (manyM c)).getD S.length)) := rfl
theorem toM_lb (S : List UInt8) (p g c : Int) : toM S p 123 g c = exclM (alignM S p) (some ((aheadM (emptM S) (boundsL S (ofL S (alignM S p : Nat) : Nat)).1.1 (manyM c)).getD 0)) := rfl
theorem toM_e (S : List UInt8) (p g c : Int) : toM S p 101 g c = if alignM S p < (behindM (endsM (chars S)) (alignM S p) (manyM c)).getD (prevM S (S.length : Nat)) then some ((behindM (endsM (chars S)) (alignM S p) (manyM c)).getD (prevM S (S.length : Nat)), 1) else none := rfl
theorem inLine_rises (S : List UInt8) (n r : Int) : Rises (inLineM S n r) := places_rises S _
theorem begs_rises (S : List UInt8) : Rises (begsM (chars S)) := places_rises S _
theorem ends_rises (S : List UInt8) : Rises (endsM (chars S)) := places_rises S _
/-- the line of a place -/
theorem line_of {S : List UInt8} {a : Nat} (ha : a ≤ S.length) : ∃ q, ofL S (a : Nat) = q ∧ q < countL S ∧ begL S q ≤ a ∧ a ≤ endL S q := by
  obtain ⟨p1, p2, p3⟩ := place_line ha
  exact ⟨_, by unfold ofL; rw [Int.toNat_natCast, Nat.min_eq_right ha], p1, p2, p3⟩
theorem empt_mem {S : List UInt8} {x : Nat} (h : x ∈ emptM S) : ∃ n, n < countL S ∧ x = begL S n ∧ begL S n = endL S n ∧ ofL S (x : Nat) = n := by
  rw [empt_eq] at h
  obtain ⟨n, hn, rfl⟩ := List.mem_map.1 h
  obtain ⟨h1, h2⟩ := List.mem_filter.1 hn
  have h1 := List.mem_range.1 h1
  have h2 := of_decide_eq_true h2
  exact ⟨n, h1, rfl, h2, of_line h1 (Nat.le_refl _) (Nat.le_of_eq h2)⟩
theorem ends_prev {S : List UInt8} : ∀ x ∈ endsM (chars S), x ≤ prevM S (S.length : Nat) := by
  intro x hx
  unfold endsM placesTo at hx
  obtain ⟨i, hi, rfl⟩ := List.mem_map.1 hx
  have hi' := List.mem_range.1 (List.mem_filter.1 hi).1
  unfold prevM
  have hw : whichM (chars S) (S.length : Nat) = (chars S).length := by
    have h1 := which_self (S := S) (i := (chars S).length) (Nat.le_refl _)
    rw [List.take_of_length_le (Nat.le_refl _), width_chars] at h1
    exact (h1.unique (which_is _ _)).symm
  rw [hw]
  exact width_take_mono _ (by omega)
end Go.Proofs.YtgpmfkedcoiopaaGreatDoor

/-
  Signs that are looked for, and those in between: layer 12.
-/
namespace Go.Proofs.YtgpmfkedcoiopaaGreatDoor
open Go.RowKit

/-- where sign number i begins -/
def atM (S : List UInt8) (i : Nat) : Nat := width ((chars S).take i)
def runeQ (S : List UInt8) (r : Int) (lo i : Nat) : Bool := decide (lo < i) && decide ((((chars S).getD i (0, 0)).1 : Int) = r)
/-- so many signs of that rune lie behind sign number lo, and ahead of number hi -/
def betw (S : List UInt8) (r : Int) (lo hi : Nat) : Nat := ((List.range hi).filter (runeQ S r lo)).length
theorem atM_lt {S : List UInt8} {i j : Nat} (_hi : i ≤ (chars S).length) (hj : j ≤ (chars S).length) : atM S i < atM S j ↔ i < j := by
  constructor
  · intro h
    rcases Nat.lt_or_ge i j with h' | h'
    · exact h'
    · have := width_take_mono (chars S) h'
      unfold atM at h
      omega
  · intro h
    exact width_lt h hj
theorem which_atM {S : List UInt8} {i : Nat} (hi : i ≤ (chars S).length) : whichM (chars S) (atM S i : Nat) = i := ((which_self hi).unique (which_is _ _)).symm
theorem nextM_atM {S : List UInt8} {i : Nat} (hi : i ≤ (chars S).length) : nextM S (atM S i : Nat) = atM S (i + 1) := by unfold nextM; rw [which_atM hi]; rfl
/-- what f and F say -/
structure FoundM (S : List UInt8) (p : Int) (r : Int) (n x : Nat) (fwd : Bool) : Prop where
  ex : ∃ lo hi, lo < hi ∧ hi ≤ (chars S).length ∧ betw S r lo hi + 1 = n ∧ (if fwd = true then atM S lo = alignM S p ∧ atM S hi = x ∧ hi < (chars S).length else atM S lo = x ∧ atM S hi = alignM S p) ∧
    (∃ i, i < (chars S).length ∧ atM S i = x ∧ (((chars S).getD i (0, 0)).1 : Int) = r) ∧ ofL S (x : Nat) = ofL S (alignM S p : Nat)
end Go.Proofs.YtgpmfkedcoiopaaGreatDoor
