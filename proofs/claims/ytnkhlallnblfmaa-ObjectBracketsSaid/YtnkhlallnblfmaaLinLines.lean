/-
  The lines of a byte string as a list: layer 6. No program here.
-/
import Derived.Test.YtnkhlallnblfmaaLinBounds
namespace Go.Proofs.Ytnkhlallnblfmaa
open Go.RowKit

/-- the lines of a text -/
def linesOf : List UInt8 → List (List UInt8)
  | [] => [[]]
  | b :: t => if b = 10 then [] :: linesOf t else (b :: (linesOf t).headD []) :: (linesOf t).tail
theorem linesOf_ne (t : List UInt8) : linesOf t ≠ [] := by
  cases t with
  | nil => simp [linesOf]
  | cons b t => unfold linesOf; split <;> simp
theorem linesOf_app (l r : List UInt8) : linesOf (l ++ 10 :: r) = linesOf l ++ linesOf r := by
  induction l with
  | nil => simp [linesOf]
  | cons b t ih =>
    rw [List.cons_append]
    by_cases hb : b = 10
    · simp only [linesOf, if_pos hb, ih, List.cons_append]
    · simp only [linesOf, if_neg hb, ih]
      have hn := linesOf_ne t
      cases hl : linesOf t with
      | nil => exact absurd hl hn
      | cons x xs => simp
theorem linesOf_len (t : List UInt8) : (linesOf t).length = t.count 10 + 1 := by
  induction t with
  | nil => rfl
  | cons b t ih =>
    by_cases hb : b = 10
    · subst hb; simp [linesOf, ih]
    · have hn := linesOf_ne t
      have hl : 0 < (linesOf t).length := List.length_pos_iff.2 hn
      simp only [linesOf, if_neg hb, List.length_cons, List.length_tail, ih]
      rw [List.count_cons_of_ne hb]; omega
/-- the first line goes up to the first line end -/
theorem linesOf_head : ∀ (m : Nat) (t : List UInt8), (∀ x, x < m → t[x]? ≠ some 10) → (m = t.length ∨ t[m]? = some 10) → (linesOf t).headD [] = t.take m := by
  intro m
  induction m with
  | zero =>
    intro t _ h
    cases t with
    | nil => rfl
    | cons b t =>
      rcases h with h | h
      · simp at h
      · obtain rfl : b = 10 := by simpa using h
        simp [linesOf]
  | succ m ih =>
    intro t h1 h2
    cases t with
    | nil => simp [linesOf]
    | cons b t =>
      have hb : b ≠ 10 := by have := h1 0 (by omega); simpa using this
      have h := ih t (fun x hx => by have := h1 (x + 1) (by omega); simpa using this) (by simpa using h2)
      simp only [linesOf, if_neg hb, List.take_succ_cons, List.headD_cons, h]

theorem endsTo_more (S : List UInt8) {i k : Nat} (h : i ≤ k) : ∃ r, endsTo S k = endsTo S i ++ r := by
  induction k with
  | zero => exact ⟨[], by rw [show i = 0 by omega]; simp⟩
  | succ k ih =>
    rcases Nat.lt_or_ge i (k + 1) with hi | hi
    · obtain ⟨r, hr⟩ := ih (by omega)
      exact ⟨r ++ (if S[k]? = some 10 then [k] else []), by rw [← List.append_assoc, ← hr]; rfl⟩
    · exact ⟨[], by rw [show i = k + 1 by omega]; simp⟩
theorem endsTo_mono (S : List UInt8) {i k : Nat} (h : i ≤ k) : (endsTo S i).length ≤ (endsTo S k).length := by
  obtain ⟨r, hr⟩ := endsTo_more S h
  rw [hr, List.length_append]; omega
theorem endsTo_one {S : List UInt8} {x : Nat} (h : S[x]? = some 10) : endsTo S (x + 1) = endsTo S x ++ [x] := by
  show endsTo S x ++ _ = _
  rw [if_pos h]
theorem endsTo_get {S : List UInt8} : ∀ (k j x : Nat), (endsTo S k)[j]? = some x → x < k ∧ S[x]? = some 10 ∧ (endsTo S x).length = j := by
  intro k
  induction k with
  | zero => intro j x h; simp [endsTo] at h
  | succ k ih =>
    intro j x h
    unfold endsTo at h
    rcases Nat.lt_or_ge j (endsTo S k).length with hj | hj
    · rw [List.getElem?_append_left hj] at h
      obtain ⟨h1, h2, h3⟩ := ih j x h
      exact ⟨by omega, h2, h3⟩
    · rw [List.getElem?_append_right hj] at h
      split at h
      · rename_i h10
        rcases Nat.eq_zero_or_pos (j - (endsTo S k).length) with h0 | h0
        · rw [h0] at h
          obtain rfl : k = x := by simpa using h
          exact ⟨by omega, h10, by omega⟩
        · rw [List.getElem?_eq_none (by simp; omega)] at h; cases h
      · simp at h
theorem endsTo_has {S : List UInt8} {x k : Nat} (hk : x < k) (h : S[x]? = some 10) : (endsTo S k)[(endsTo S x).length]? = some x := by
  obtain ⟨r, hr⟩ := endsTo_more S (show x + 1 ≤ k by omega)
  rw [hr, endsTo_one h]
  simp
theorem endsTo_count (S : List UInt8) (k : Nat) : (endsTo S k).length = (S.take k).count 10 := by
  induction k with
  | zero => simp [endsTo]
  | succ k ih =>
    unfold endsTo
    rw [List.length_append, ih, List.take_add_one, List.count_append]
    congr 1
    cases h : S[k]? with
    | none => simp
    | some b =>
      by_cases hb : b = 10
      · subst hb; simp
      · simp [hb]
theorem countL_count (S : List UInt8) : countL S = S.count 10 + 1 := by
  unfold countL; rw [endsTo_count, List.take_length]

/-- where a line begins, and where it ends -/
def begL (S : List UInt8) (n : Nat) : Nat := if n = 0 then 0 else (endsL S).getD (n - 1) 0 + 1
def endL (S : List UInt8) (n : Nat) : Nat := (endsL S).getD n 0
theorem boundsL_nat {S : List UInt8} {n : Nat} (h : n < countL S) : boundsL S (n : Int) = ((begL S n, endL S n), 0) := by
  unfold boundsL begL endL
  rw [if_pos ⟨by omega, by omega⟩, Int.toNat_natCast]
  by_cases h0 : n = 0
  · rw [if_pos (by omega), if_pos h0]
  · rw [if_neg (by omega), if_neg h0]
theorem ends_inner {S : List UInt8} {n : Nat} (h : n + 1 < countL S) : S[endL S n]? = some 10 ∧ endL S n < S.length ∧ (endsTo S (endL S n)).length = n := by
  unfold countL at h
  have hn : n < (endsTo S S.length).length := by omega
  have e : (endsTo S S.length)[n]? = some (endL S n) := by
    unfold endL endsL
    rw [List.getD_eq_getElem?_getD, List.getElem?_append_left hn, List.getElem?_eq_getElem hn]; rfl
  obtain ⟨h1, h2, h3⟩ := endsTo_get _ _ _ e
  exact ⟨h2, h1, h3⟩
theorem ends_last {S : List UInt8} {n : Nat} (h : n + 1 = countL S) : endL S n = S.length := by
  unfold countL at h
  unfold endL endsL
  rw [List.getD_eq_getElem?_getD, List.getElem?_append_right (by omega), show n - (endsTo S S.length).length = 0 by omega]; rfl
theorem beg_zero (S : List UInt8) : begL S 0 = 0 := if_pos rfl
theorem beg_succ (S : List UInt8) (n : Nat) : begL S (n + 1) = endL S n + 1 := by unfold begL; rw [if_neg (by omega)]; rfl
theorem beg_ends {S : List UInt8} {n : Nat} (h : n < countL S) : (endsTo S (begL S n)).length = n := by
  cases n with
  | zero => rw [beg_zero]; rfl
  | succ n =>
    obtain ⟨h1, h2, h3⟩ := ends_inner (n := n) h
    rw [beg_succ, endsTo_one h1, List.length_append, h3]; rfl
theorem beg_le {S : List UInt8} {n : Nat} (h : n < countL S) : begL S n ≤ S.length := by
  cases n with
  | zero => rw [beg_zero]; omega
  | succ n =>
    obtain ⟨h1, h2, h3⟩ := ends_inner (n := n) h
    rw [beg_succ]; omega
theorem end_le {S : List UInt8} {n : Nat} (h : n < countL S) : endL S n ≤ S.length := by
  by_cases h1 : n + 1 < countL S
  · have := (ends_inner h1).2.1; omega
  · rw [ends_last (by omega)]; exact Nat.le_refl _
theorem end_is {S : List UInt8} {n : Nat} (h : n < countL S) : endL S n = S.length ∨ S[endL S n]? = some 10 := by
  by_cases h1 : n + 1 < countL S
  · exact .inr (ends_inner h1).1
  · exact .inl (ends_last (by omega))
/-- a place lies in the line of which number there are line ends before it -/
theorem place_line {S : List UInt8} {a : Nat} (ha : a ≤ S.length) : (endsTo S a).length < countL S ∧ begL S (endsTo S a).length ≤ a ∧ a ≤ endL S (endsTo S a).length := by
  have h0 := endsTo_mono S ha
  have hlt : (endsTo S a).length < countL S := by unfold countL; omega
  refine ⟨hlt, ?_, ?_⟩
  · cases hn : (endsTo S a).length with
    | zero => rw [beg_zero]; omega
    | succ n =>
      rw [hn] at hlt
      obtain ⟨h1, h2, h3⟩ := ends_inner (n := n) hlt
      rw [beg_succ]
      rcases Nat.lt_or_ge (endL S n) a with h | h
      · omega
      · have := endsTo_mono S h; omega
  · by_cases h1 : (endsTo S a).length + 1 < countL S
    · obtain ⟨h1, h2, h3⟩ := ends_inner h1
      rcases Nat.lt_or_ge (endL S (endsTo S a).length) a with h | h
      · have := endsTo_mono S h
        rw [endsTo_one h1, List.length_append, h3] at this
        simp at this
        omega
      · exact h
    · rw [ends_last (by omega)]; exact ha
theorem beg_end {S : List UInt8} {n : Nat} (h : n < countL S) : begL S n ≤ endL S n := by
  have := (place_line (beg_le h)).2.2
  rwa [beg_ends h] at this
/-- within a line there is no line end -/
theorem line_clear {S : List UInt8} {n x : Nat} (h : n < countL S) (h1 : begL S n ≤ x) (h2 : x < endL S n) : S[x]? ≠ some 10 := by
  intro h10
  have a1 := endsTo_mono S h1
  rw [beg_ends h] at a1
  have a2 := endsTo_mono S (show x + 1 ≤ endL S n by omega)
  rw [endsTo_one h10, List.length_append] at a2
  have a3 : (endsTo S (endL S n)).length ≤ n := by
    by_cases hl : n + 1 < countL S
    · rw [(ends_inner hl).2.2]; exact Nat.le_refl _
    · rw [ends_last (by omega)]; unfold countL at *; omega
  simp at a2; omega

/-- the line of a number -/
def lineL (S : List UInt8) (n : Nat) : List UInt8 := (S.drop (begL S n)).take (endL S n - begL S n)
theorem lines_drop {S : List UInt8} {n : Nat} (h : n + 1 < countL S) : linesOf (S.take (endL S n)) = (linesOf S).take (n + 1) ∧ linesOf (S.drop (endL S n + 1)) = (linesOf S).drop (n + 1) ∧ (S.take (endL S n + 1) = S.take (endL S n) ++ [10]) := by
  obtain ⟨h1, h2, h3⟩ := ends_inner h
  have hg : S[endL S n] = 10 := by rw [List.getElem?_eq_getElem h2] at h1; exact Option.some.inj h1
  have hs : S = S.take (endL S n) ++ 10 :: S.drop (endL S n + 1) := by
    conv => lhs; rw [← List.take_append_drop (endL S n) S, List.drop_eq_getElem_cons h2, hg]
  have hl := linesOf_app (S.take (endL S n)) (S.drop (endL S n + 1))
  rw [← hs] at hl
  have hlen := linesOf_len (S.take (endL S n))
  rw [← endsTo_count, h3] at hlen
  refine ⟨?_, ?_, ?_⟩
  · rw [hl, List.take_left' hlen]
  · rw [hl, List.drop_left' hlen]
  · rw [List.take_succ_eq_append_getElem h2, hg]
theorem lines_from {S : List UInt8} {n : Nat} (h : n < countL S) : linesOf (S.drop (begL S n)) = (linesOf S).drop n := by
  cases n with
  | zero => rw [beg_zero]; rfl
  | succ n => rw [beg_succ]; exact (lines_drop h).2.1
theorem lineL_get {S : List UInt8} {n : Nat} (h : n < countL S) : (linesOf S)[n]? = some (lineL S n) := by
  have h1 := lines_from h
  have h2 : (linesOf (S.drop (begL S n))).headD [] = lineL S n := by
    refine linesOf_head _ _ (fun x hx => ?_) ?_
    · rw [List.getElem?_drop]
      exact line_clear h (by omega) (by omega)
    · have hb := beg_end h
      rw [List.getElem?_drop, List.length_drop, show begL S n + (endL S n - begL S n) = endL S n by omega]
      rcases end_is h with h | h
      · left; omega
      · exact .inr h
  rw [h1] at h2
  have hl : n < (linesOf S).length := by rw [linesOf_len, ← countL_count]; exact h
  rw [List.drop_eq_getElem_cons hl, List.headD_cons] at h2
  rw [List.getElem?_eq_getElem hl, h2]
theorem linesOf_count (S : List UInt8) : (linesOf S).length = countL S := by rw [linesOf_len, countL_count]
/-- all lines -/
theorem lines_all (S : List UInt8) : (List.range (countL S)).map (lineL S) = linesOf S := by
  apply List.ext_getElem?
  intro i
  rcases Nat.lt_or_ge i (countL S) with h | h
  · rw [lineL_get h, List.getElem?_map, List.getElem?_range h]; rfl
  · rw [List.getElem?_eq_none (by simpa using h), List.getElem?_eq_none (by rw [linesOf_count]; exact h)]
end Go.Proofs.Ytnkhlallnblfmaa
