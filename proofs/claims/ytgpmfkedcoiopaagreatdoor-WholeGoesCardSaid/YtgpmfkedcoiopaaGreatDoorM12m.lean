/-
  Merged: MvScan, MvStep, MvSca, MvWay, MvGo, MvSet, MvGoal, MvGoam.
-/
import Derived.Test.YtgpmfkedcoiopaaGreatDoorM12p
import Derived.Test.YtgpmfkedcoiopaaGreatDoorM06l
import Derived.Test.YtgpmfkedcoiopaaGreatDoorGlyProof
import Derived.StillTailTactics
import Derived.Deep.RegionHeld3
import Derived.Test.YtgpmfkedcoiopaaGreatDoorM12r
import Derived.Deep.DeepCutAuto
/-
  Ways through the signs of a text, with stops, as plain lists: layer 12.
-/
namespace Go.Proofs.YtgpmfkedcoiopaaGreatDoor
open Go.RowKit
set_option maxRecDepth 100000

theorem rises_ext : ∀ {l m : List Nat}, Rises l → Rises m → (∀ x, x ∈ l ↔ x ∈ m) → l = m
  | [], [], _, _, _ => rfl
  | [], y :: m, _, _, h => absurd ((h y).2 (List.mem_cons_self ..)) (by simp)
  | x :: l, [], _, _, h => absurd ((h x).1 (List.mem_cons_self ..)) (by simp)
  | x :: l, y :: m, hl, hm, h => by
    have hl2 := List.pairwise_cons.1 hl
    have hm2 := List.pairwise_cons.1 hm
    have hxy : x = y := by
      have h1 := (h x).1 (List.mem_cons_self ..)
      have h2 := (h y).2 (List.mem_cons_self ..)
      rcases List.mem_cons.1 h1 with e | e
      · exact e
      · rcases List.mem_cons.1 h2 with e2 | e2
        · exact e2.symm
        · have a1 := hm2.1 _ e
          have a2 := hl2.1 _ e2
          omega
    subst hxy
    have ht : l = m := rises_ext hl2.2 hm2.2 fun z => by
      constructor
      · intro hz
        have h1 := (h z).1 (List.mem_cons_of_mem _ hz)
        rcases List.mem_cons.1 h1 with e | e
        · have := hl2.1 _ hz
          omega
        · exact e
      · intro hz
        have h1 := (h z).2 (List.mem_cons_of_mem _ hz)
        rcases List.mem_cons.1 h1 with e | e
        · have := hm2.1 _ hz
          omega
        · exact e
    rw [ht]
theorem rises_filter {l : List Nat} (h : Rises l) (p : Nat → Bool) : Rises (l.filter p) := List.Pairwise.filter p h
theorem behindM_ext {l m : List Nat} (hl : Rises l) (hm : Rises m) {a n : Nat} (h : ∀ x, a < x → (x ∈ l ↔ x ∈ m)) : behindM l a n = behindM m a n := by
  unfold behindM
  rw [rises_ext (rises_filter hl fun x => decide (a < x)) (rises_filter hm fun x => decide (a < x))]
  intro x
  rw [List.mem_filter, List.mem_filter]
  constructor
  · exact fun ⟨h1, h2⟩ => ⟨(h x (of_decide_eq_true h2)).1 h1, h2⟩
  · exact fun ⟨h1, h2⟩ => ⟨(h x (of_decide_eq_true h2)).2 h1, h2⟩
theorem aheadM_ext {l m : List Nat} (hl : Rises l) (hm : Rises m) {a n : Nat} (h : ∀ x, x < a → (x ∈ l ↔ x ∈ m)) : aheadM l a n = aheadM m a n := by
  unfold aheadM
  rw [rises_ext (rises_filter hl fun x => decide (x < a)) (rises_filter hm fun x => decide (x < a))]
  intro x
  rw [List.mem_filter, List.mem_filter]
  constructor
  · exact fun ⟨h1, h2⟩ => ⟨(h x (of_decide_eq_true h2)).1 h1, h2⟩
  · exact fun ⟨h1, h2⟩ => ⟨(h x (of_decide_eq_true h2)).2 h1, h2⟩
/-- another place from which the same ones lie behind -/
theorem behindM_from {l : List Nat} {a b n : Nat} (h : ∀ x ∈ l, (a < x ↔ b < x)) : behindM l a n = behindM l b n := by
  unfold behindM
  rw [List.filter_congr fun x hx => decide_eq_decide.2 (h x hx)]
theorem aheadM_from {l : List Nat} {a b n : Nat} (h : ∀ x ∈ l, (x < a ↔ x < b)) : aheadM l a n = aheadM l b n := by
  unfold aheadM
  rw [List.filter_congr fun x hx => decide_eq_decide.2 (h x hx)]
/-- the last place, if it is the limit, need not be among them -/
theorem behindM_top {l : List Nat} (hr : Rises l) {T : Nat} (hT : ∀ x ∈ l, x ≤ T) (a n : Nat) : (behindM l a n).getD T = (behindM (l.filter fun x => decide (x < T)) a n).getD T := by
  by_cases hm : T ∈ l
  · have hr2 : Rises ((l.filter fun x => decide (x < T)) ++ [T]) := List.pairwise_append.2 ⟨rises_filter hr _, List.pairwise_singleton _ _, fun x hx y hy => by
      rw [List.mem_singleton] at hy
      have := of_decide_eq_true (List.mem_filter.1 hx).2
      omega⟩
    have he : l = (l.filter fun x => decide (x < T)) ++ [T] := rises_ext hr hr2 fun x => by
      rw [List.mem_append, List.mem_filter, List.mem_singleton, decide_eq_true_eq]
      constructor
      · intro hx
        have := hT x hx
        by_cases hlt : x < T
        · exact .inl ⟨hx, hlt⟩
        · exact .inr (by omega)
      · rintro (⟨hx, _⟩ | rfl)
        · exact hx
        · exact hm
    generalize (l.filter fun x => decide (x < T)) = u at he
    rw [he]
    unfold behindM
    rw [List.filter_append, List.getElem?_append]
    split
    · rfl
    · next hlt =>
      rw [List.getElem?_eq_none (l := u.filter _) (by omega)]
      by_cases ha : a < T
      · rw [List.filter_cons_of_pos (by simpa using ha), List.filter_nil]
        cases n - 1 - (u.filter fun x => decide (a < x)).length with
        | zero => rfl
        | succ j => rfl
      · rw [List.filter_cons_of_neg (by simpa using ha), List.filter_nil]
        rfl
  · rw [List.filter_eq_self.2 fun x hx => decide_eq_true (Nat.lt_of_le_of_ne (hT x hx) fun e => hm (e ▸ hx))]
theorem places_mem {L : List (Nat × Nat)} {q : Nat → Bool} {k x : Nat} : x ∈ placesTo L q k ↔ ∃ i, i < k ∧ q i = true ∧ width (L.take i) = x := by
  unfold placesTo
  rw [List.mem_map]
  constructor
  · rintro ⟨i, hi, rfl⟩
    rw [List.mem_filter, List.mem_range] at hi
    exact ⟨i, hi.1, hi.2, rfl⟩
  · rintro ⟨i, hi, hq, rfl⟩
    exact ⟨i, List.mem_filter.2 ⟨List.mem_range.2 hi, hq⟩, rfl⟩
theorem atM_zero (S : List UInt8) : atM S 0 = 0 := by unfold atM; simp [width]
theorem atM_last (S : List UInt8) : atM S (chars S).length = S.length := by unfold atM; rw [List.take_of_length_le (Nat.le_refl _), width_chars]
theorem atM_le (S : List UInt8) (i : Nat) : atM S i ≤ S.length := by
  have := width_le_take (chars S) i
  rwa [width_chars] at this
theorem prevM_atM {S : List UInt8} {i : Nat} (hi : i ≤ (chars S).length) : prevM S (atM S i : Nat) = atM S (i - 1) := by unfold prevM; rw [which_atM hi]; rfl
theorem prevM_last (S : List UInt8) : prevM S (S.length : Nat) = atM S ((chars S).length - 1) := by rw [← prevM_atM (Nat.le_refl _), atM_last]

/-- the nth stop behind a place, ahead of a limit -/
def onM (S : List UInt8) (Q : Nat → Bool) (lim a n : Nat) : Option Nat := behindM (placesTo (chars S) (fun j => Q j && decide (atM S j < lim)) (chars S).length) a n
/-- the nth stop ahead of a place, nearest first, down to a limit -/
def backM (S : List UInt8) (Q : Nat → Bool) (lim a n : Nat) : Option Nat := aheadM (placesTo (chars S) (fun j => Q j && decide (lim < atM S (j + 1))) (chars S).length) a n

theorem of_bounds {S : List UInt8} {a : Nat} (ha : a ≤ S.length) : ∃ q, ofL S (a : Nat) = q ∧ q < countL S ∧ boundsL S (q : Nat) = ((begL S q, endL S q), 0) ∧ begL S q ≤ a ∧ a ≤ endL S q := by
  obtain ⟨q, h1, h2, h3, h4⟩ := line_of ha
  exact ⟨q, h1, h2, boundsL_nat h2, h3, h4⟩
theorem on_line {S : List UInt8} {a n : Nat} (ha : a ≤ S.length) (r : Int) (Q : Nat → Bool) (hQ : ∀ j, j < (chars S).length → Q j = (decide (r < 0) || decide ((((chars S).getD j (0, 0)).1 : Int) = r))) :
    onM S Q (boundsL S (ofL S (a : Nat) : Nat)).1.2 a n = behindM (inLineM S (ofL S (a : Nat) : Nat) r) a n := by
  obtain ⟨q, h1, h2, h3, h4, h5⟩ := of_bounds ha
  rw [h1]
  refine behindM_ext (places_rises S _) (inLine_rises S _ _) fun x hx => ?_
  unfold inLineM
  rw [places_mem, places_mem, h3]
  have key : ∀ i, i < (chars S).length → width ((chars S).take i) = x → ((Q i && decide (atM S i < endL S q)) = true ↔ lineQ (chars S) (begL S q) (endL S q) r i = true) := fun i hi hw => by
    unfold lineQ
    rw [hQ i hi, hw, show atM S i = x from hw]
    simp only [Bool.and_eq_true, decide_eq_true_eq]
    constructor
    · exact fun ⟨p1, p2⟩ => ⟨⟨by omega, p2⟩, p1⟩
    · exact fun ⟨⟨_, p2⟩, p1⟩ => ⟨p1, p2⟩
  constructor
  · exact fun ⟨i, hi, hq, hw⟩ => ⟨i, hi, (key i hi hw).1 hq, hw⟩
  · exact fun ⟨i, hi, hq, hw⟩ => ⟨i, hi, (key i hi hw).2 hq, hw⟩
theorem back_line {S : List UInt8} {a n : Nat} (ha : a ≤ S.length) (r : Int) (Q : Nat → Bool) (hQ : ∀ j, j < (chars S).length → Q j = (decide (r < 0) || decide ((((chars S).getD j (0, 0)).1 : Int) = r))) :
    backM S Q (boundsL S (ofL S (a : Nat) : Nat)).1.1 a n = aheadM (inLineM S (ofL S (a : Nat) : Nat) r) a n := by
  obtain ⟨q, h1, h2, h3, h4, h5⟩ := of_bounds ha
  obtain ⟨i0, hi0, hb⟩ := Beg.begL h2
  rw [h1]
  refine aheadM_ext (places_rises S _) (inLine_rises S _ _) fun x hx => ?_
  unfold inLineM
  rw [places_mem, places_mem, h3]
  have key : ∀ i, i < (chars S).length → width ((chars S).take i) = x → ((Q i && decide (begL S q < atM S (i + 1))) = true ↔ lineQ (chars S) (begL S q) (endL S q) r i = true) := fun i hi hw => by
    have hlt : begL S q < atM S (i + 1) ↔ begL S q ≤ x := by
      rw [← hw, hb]
      have e1 := atM_lt (S := S) (i := i0) (j := i + 1) hi0 hi
      have e2 := atM_lt (S := S) (i := i) (j := i0) (by omega) hi0
      unfold atM at e1 e2 ⊢
      omega
    unfold lineQ
    rw [hQ i hi, hw]
    simp only [Bool.and_eq_true, decide_eq_true_eq, hlt]
    constructor
    · exact fun ⟨p1, p2⟩ => ⟨⟨p2, by omega⟩, p1⟩
    · exact fun ⟨⟨p2, _⟩, p1⟩ => ⟨p1, p2⟩
  constructor
  · exact fun ⟨i, hi, hq, hw⟩ => ⟨i, hi, (key i hi hw).1 hq, hw⟩
  · exact fun ⟨i, hi, hq, hw⟩ => ⟨i, hi, (key i hi hw).2 hq, hw⟩
theorem on_begs (S : List UInt8) (a n : Nat) : onM S (begQ (chars S)) S.length a n = behindM (begsM (chars S)) a n := by
  refine behindM_ext (places_rises S _) (begs_rises S) fun x _ => ?_
  unfold begsM
  rw [places_mem, places_mem]
  constructor
  · exact fun ⟨i, hi, hq, hw⟩ => ⟨i, hi, (Bool.and_eq_true _ _ ▸ hq : _ ∧ _).1, hw⟩
  · refine fun ⟨i, hi, hq, hw⟩ => ⟨i, hi, ?_, hw⟩
    have e := (atM_lt (S := S) (i := i) (j := (chars S).length) (by omega) (Nat.le_refl _)).2 hi
    rw [atM_last] at e
    simp [hq, e]
theorem back_begs (S : List UInt8) (a n : Nat) : backM S (begQ (chars S)) 0 a n = aheadM (begsM (chars S)) a n := by
  refine aheadM_ext (places_rises S _) (begs_rises S) fun x _ => ?_
  unfold begsM
  rw [places_mem, places_mem]
  constructor
  · exact fun ⟨i, hi, hq, hw⟩ => ⟨i, hi, (Bool.and_eq_true _ _ ▸ hq : _ ∧ _).1, hw⟩
  · refine fun ⟨i, hi, hq, hw⟩ => ⟨i, hi, ?_, hw⟩
    have e := (atM_lt (S := S) (i := 0) (j := i + 1) (by omega) (by omega)).2 (by omega)
    rw [atM_zero] at e
    simp [hq, e]
theorem on_ends (S : List UInt8) (a n : Nat) : (onM S (endQ (chars S)) (prevM S (S.length : Nat)) a n).getD (prevM S (S.length : Nat)) = (behindM (endsM (chars S)) a n).getD (prevM S (S.length : Nat)) := by
  rw [behindM_top (ends_rises S) ends_prev]
  congr 1
  refine behindM_ext (places_rises S _) (rises_filter (ends_rises S) _) fun x _ => ?_
  unfold endsM
  rw [List.mem_filter, places_mem, places_mem]
  constructor
  · rintro ⟨i, hi, hq, rfl⟩
    simp only [Bool.and_eq_true] at hq
    exact ⟨⟨i, hi, hq.1, rfl⟩, hq.2⟩
  · rintro ⟨⟨i, hi, hq, rfl⟩, hlt⟩
    exact ⟨i, hi, by rw [hq]; exact hlt, rfl⟩
/-- an empty line begins at a sign -/
def emQ (S : List UInt8) (j : Nat) : Bool := decide (S[atM S j]? = some 10) && (decide (atM S j = 0) || decide (S[atM S j - 1]? = some 10))
theorem empt_in {S : List UInt8} {x : Nat} : x ∈ emptM S ↔ ∃ m, m < countL S ∧ begL S m = x ∧ endL S m = x := by
  rw [empt_eq, List.mem_map]
  constructor
  · rintro ⟨m, hm, rfl⟩
    rw [List.mem_filter, List.mem_range, decide_eq_true_eq] at hm
    exact ⟨m, hm.1, rfl, hm.2.symm⟩
  · rintro ⟨m, hm, rfl, he⟩
    exact ⟨m, List.mem_filter.2 ⟨List.mem_range.2 hm, decide_eq_true he.symm⟩, rfl⟩
theorem emQ_iff {S : List UInt8} {x : Nat} (hx : x < S.length) : x ∈ emptM S ↔ ∃ i, i < (chars S).length ∧ emQ S i = true ∧ width ((chars S).take i) = x := by
  rw [empt_in]
  constructor
  · rintro ⟨m, hm, hb, he⟩
    have h10 : S[x]? = some 10 := by
      rcases end_is hm with e | e
      · rw [he] at e; omega
      · rwa [he] at e
    obtain ⟨i, hi, hw, _⟩ := nl_sign h10
    refine ⟨i, hi, ?_, hw⟩
    unfold emQ
    rw [show atM S i = x from hw]
    rw [decide_eq_true h10, Bool.true_and, Bool.or_eq_true, decide_eq_true_eq, decide_eq_true_eq]
    rcases Nat.eq_zero_or_pos m with rfl | hp
    · rw [beg_zero] at hb
      exact .inl hb.symm
    · obtain ⟨m2, rfl⟩ : ∃ m2, m = m2 + 1 := ⟨m - 1, by omega⟩
      rw [beg_succ] at hb
      have h2 := (ends_inner hm).1
      refine .inr ?_
      rw [← hb, Nat.add_sub_cancel]
      exact h2
  · rintro ⟨i, hi, hq, hw⟩
    unfold emQ at hq
    rw [show atM S i = x from hw] at hq
    simp only [Bool.and_eq_true, Bool.or_eq_true, decide_eq_true_eq] at hq
    obtain ⟨h10, hz⟩ := hq
    obtain ⟨m, _, hm, _, hb, he⟩ := of_bounds (S := S) (a := x) (by omega)
    have h1 : endL S m = x := by
      rcases Nat.lt_or_ge x (endL S m) with hlt | hge
      · exact absurd h10 (line_clear hm hb hlt)
      · omega
    refine ⟨m, hm, ?_, h1⟩
    rcases Nat.lt_or_ge (begL S m) x with hlt | hge
    · rcases hz with rfl | hz
      · omega
      · exact absurd hz (line_clear hm (by omega) (by omega))
    · omega
theorem empt_away {S : List UInt8} {a x : Nat} (ha : a ≤ S.length) (hx : x ∈ emptM S) : (a < x ↔ (boundsL S (ofL S (a : Nat) : Nat)).1.2 < x) ∧ (x < a ↔ x < (boundsL S (ofL S (a : Nat) : Nat)).1.1) := by
  obtain ⟨q, h1, h2, h3, h4, h5⟩ := of_bounds ha
  obtain ⟨m, hm, rfl, hbe, ho⟩ := empt_mem hx
  rw [h1, h3]
  have hin : begL S q ≤ begL S m → begL S m ≤ endL S q → m = q := fun g1 g2 => by rw [← ho, of_line h2 g1 g2]
  constructor
  · constructor
    · intro hlt
      rcases Nat.lt_or_ge (endL S q) (begL S m) with g | g
      · exact g
      · obtain rfl := hin (by omega) g
        omega
    · exact fun g => Nat.lt_of_le_of_lt h5 g
  · constructor
    · intro hlt
      rcases Nat.lt_or_ge (begL S m) (begL S q) with g | g
      · exact g
      · obtain rfl := hin g (by omega)
        omega
    · exact fun g => Nat.lt_of_lt_of_le g h4
theorem on_empt {S : List UInt8} {a : Nat} (ha : a ≤ S.length) (n : Nat) : (onM S (emQ S) S.length a n).getD S.length = (behindM (emptM S) (boundsL S (ofL S (a : Nat) : Nat)).1.2 n).getD S.length := by
  rw [← behindM_from fun x hx => (empt_away ha hx).1, behindM_top (empt_rises S) fun x hx => (Beg.empt hx).le]
  congr 1
  refine behindM_ext (places_rises S _) (rises_filter (empt_rises S) _) fun x _ => ?_
  rw [List.mem_filter, places_mem, decide_eq_true_eq]
  constructor
  · rintro ⟨i, hi, hq, hw⟩
    simp only [Bool.and_eq_true, decide_eq_true_eq] at hq
    have hlt : x < S.length := by rw [← hw]; exact hq.2
    exact ⟨(emQ_iff hlt).2 ⟨i, hi, hq.1, hw⟩, hlt⟩
  · rintro ⟨hx, hlt⟩
    obtain ⟨i, hi, hq, hw⟩ := (emQ_iff hlt).1 hx
    exact ⟨i, hi, by rw [hq, show atM S i = x from hw, decide_eq_true hlt]; rfl, hw⟩
theorem back_empt {S : List UInt8} {a : Nat} (ha : a ≤ S.length) (n : Nat) : backM S (emQ S) 0 a n = aheadM (emptM S) (boundsL S (ofL S (a : Nat) : Nat)).1.1 n := by
  rw [← aheadM_from fun x hx => (empt_away ha hx).2]
  refine aheadM_ext (places_rises S _) (empt_rises S) fun x hx => ?_
  rw [places_mem, emQ_iff (by omega)]
  constructor
  · rintro ⟨i, hi, hq, hw⟩
    simp only [Bool.and_eq_true, decide_eq_true_eq] at hq
    exact ⟨i, hi, hq.1, hw⟩
  · rintro ⟨i, hi, hq, hw⟩
    refine ⟨i, hi, ?_, hw⟩
    have e := (atM_lt (S := S) (i := 0) (j := i + 1) (by omega) (by omega)).2 (by omega)
    rw [atM_zero] at e
    simp [hq, e]
end Go.Proofs.YtgpmfkedcoiopaaGreatDoor

/-
  A way through the signs step by step, as plain lists: layer 12.
-/
namespace Go.Proofs.YtgpmfkedcoiopaaGreatDoor
open Go.RowKit
set_option maxRecDepth 100000

theorem places_split (L : List (Nat × Nat)) (q : Nat → Bool) (k d : Nat) : ∃ r, placesTo L q (k + d) = placesTo L q k ++ r ∧ ∀ x ∈ r, ∃ j, k ≤ j ∧ j < k + d ∧ q j = true ∧ width (L.take j) = x := by
  induction d with
  | zero => exact ⟨[], by simp, fun x hx => by simp at hx⟩
  | succ d ih =>
    obtain ⟨r, hr, hm⟩ := ih
    cases hq : q (k + d) with
    | true =>
      refine ⟨r ++ [width (L.take (k + d))], ?_, fun x hx => ?_⟩
      · rw [← Nat.add_assoc, placesTo_yes hq, hr, List.append_assoc]
      · rcases List.mem_append.1 hx with h | h
        · obtain ⟨j, h1, h2, h3⟩ := hm x h
          exact ⟨j, h1, by omega, h3⟩
        · rw [List.mem_singleton] at h
          exact ⟨k + d, by omega, by omega, hq, h.symm⟩
    | false =>
      refine ⟨r, ?_, fun x hx => ?_⟩
      · rw [← Nat.add_assoc, placesTo_no hq, hr]
      · obtain ⟨j, h1, h2, h3⟩ := hm x hx
        exact ⟨j, h1, by omega, h3⟩
theorem places_more (L : List (Nat × Nat)) (q : Nat → Bool) {k m : Nat} (h : k ≤ m) : ∃ r, placesTo L q m = placesTo L q k ++ r ∧ ∀ x ∈ r, ∃ j, k ≤ j ∧ j < m ∧ q j = true ∧ width (L.take j) = x := by
  obtain ⟨r, hr, hm⟩ := places_split L q k (m - k)
  rw [show k + (m - k) = m by omega] at hr hm
  exact ⟨r, hr, hm⟩
theorem places_none {L : List (Nat × Nat)} {q : Nat → Bool} {k m : Nat} (h : k ≤ m) (hq : ∀ j, k ≤ j → j < m → q j = false) : placesTo L q m = placesTo L q k := by
  obtain ⟨r, hr, hm⟩ := places_more L q h
  have : r = [] := by
    cases r with
    | nil => rfl
    | cons x r =>
      obtain ⟨j, h1, h2, h3, _⟩ := hm x (List.mem_cons_self ..)
      rw [hq j h1 h2] at h3
      cases h3
  rw [hr, this, List.append_nil]
def onQ (S : List UInt8) (Q : Nat → Bool) (lim j : Nat) : Bool := Q j && decide (atM S j < lim)
def backQ (S : List UInt8) (Q : Nat → Bool) (lim j : Nat) : Bool := Q j && decide (lim < atM S (j + 1))
/-- how many stops behind a place were passed -/
def cntM (S : List UInt8) (Q : Nat → Bool) (lim a k : Nat) : Nat := ((placesTo (chars S) (onQ S Q lim) k).filter fun x => decide (a < x)).length
theorem atM_mono (S : List UInt8) {i j : Nat} (h : i ≤ j) : atM S i ≤ atM S j := width_take_mono (chars S) h
theorem cnt_start (S : List UInt8) (Q : Nat → Bool) (lim i : Nat) : cntM S Q lim (atM S i) (i + 1) = 0 := by
  unfold cntM
  rw [filter_no fun x hx => ?_]
  · rfl
  · obtain ⟨j, h1, _, rfl⟩ := places_mem.1 hx
    have := atM_mono S (show j ≤ i by omega)
    unfold atM at *
    simpa using this
theorem cnt_yes {S : List UInt8} {Q : Nat → Bool} {lim i k : Nat} (hi : i < k) (hk : k ≤ (chars S).length) (hq : Q k = true) (hl : atM S k < lim) : cntM S Q lim (atM S i) (k + 1) = cntM S Q lim (atM S i) k + 1 := by
  have hlt := (atM_lt (S := S) (i := i) (j := k) (by omega) hk).2 hi
  unfold cntM
  rw [placesTo_yes (by unfold onQ; rw [hq, decide_eq_true hl]; rfl), List.filter_append, List.length_append, List.filter_cons_of_pos (p := fun x => decide (atM S i < x)) (decide_eq_true (show atM S i < width ((chars S).take k) from hlt))]
  rfl
theorem cnt_no {S : List UInt8} {Q : Nat → Bool} {lim a k : Nat} (hq : Q k = false) : cntM S Q lim a (k + 1) = cntM S Q lim a k := by
  unfold cntM
  rw [placesTo_no (by unfold onQ; rw [hq]; rfl)]
theorem on_hit {S : List UInt8} {Q : Nat → Bool} {lim i k n : Nat} (hi : i < k) (hk : k < (chars S).length) (hq : Q k = true) (hl : atM S k < lim) (hn : cntM S Q lim (atM S i) k + 1 = n) : onM S Q lim (atM S i) n = some (atM S k) := by
  have hlt := (atM_lt (S := S) (i := i) (j := k) (by omega) (by omega)).2 hi
  obtain ⟨r, hr, _⟩ := places_more (chars S) (onQ S Q lim) (show k + 1 ≤ (chars S).length from hk)
  rw [placesTo_yes (by unfold onQ; rw [hq, decide_eq_true hl]; rfl)] at hr
  unfold onM behindM
  unfold cntM at hn
  rw [show (fun j => Q j && decide (atM S j < lim)) = onQ S Q lim from rfl, hr, List.append_assoc, List.filter_append, List.getElem?_append_right (by omega), show n - 1 - ((placesTo (chars S) (onQ S Q lim) k).filter fun x => decide (atM S i < x)).length = 0 by omega, List.singleton_append, List.filter_cons_of_pos (p := fun x => decide (atM S i < x)) (decide_eq_true (show atM S i < width ((chars S).take k) from hlt))]
  rfl
theorem on_none {S : List UInt8} {Q : Nat → Bool} {lim a k n : Nat} (hk : k ≤ (chars S).length + 1) (hS : lim ≤ S.length) (hl : lim ≤ atM S k) (hn : cntM S Q lim a k < n) : onM S Q lim a n = none := by
  have hf : ∀ j, k ≤ j → onQ S Q lim j = false := fun j hj => by
    have := atM_mono S hj
    unfold onQ
    rw [decide_eq_false (by omega), Bool.and_false]
  refine behindM_none ?_
  rw [show (fun j => Q j && decide (atM S j < lim)) = onQ S Q lim from rfl]
  unfold cntM at hn
  rcases Nat.lt_or_ge (chars S).length k with h | h
  · obtain rfl : k = (chars S).length + 1 := by omega
    rw [placesTo_no (by unfold onQ; rw [atM_last, decide_eq_false (by omega), Bool.and_false])] at hn
    exact hn
  · rw [places_none h fun j hj _ => hf j hj]
    exact hn
theorem back_eqM {S : List UInt8} {Q : Nat → Bool} {lim i n : Nat} (hi : i ≤ (chars S).length) : backM S Q lim (atM S i) n = (placesTo (chars S) (backQ S Q lim) i).reverse[n - 1]? := by
  obtain ⟨r, hr, hm⟩ := places_more (chars S) (backQ S Q lim) hi
  unfold backM aheadM
  rw [show (fun j => Q j && decide (lim < atM S (j + 1))) = backQ S Q lim from rfl, hr, List.filter_append, filter_all fun x hx => ?_, filter_no fun x hx => ?_, List.append_nil]
  · obtain ⟨j, h1, _, _, rfl⟩ := hm x hx
    have := atM_mono S h1
    unfold atM at *
    simpa using this
  · obtain ⟨j, h1, _, rfl⟩ := places_mem.1 hx
    have := (atM_lt (S := S) (i := j) (j := i) (by omega) hi).2 h1
    unfold atM at *
    simpa using this
def bckM (S : List UInt8) (Q : Nat → Bool) (lim k : Nat) : Nat := (placesTo (chars S) (backQ S Q lim) k).length
theorem bck_yes {S : List UInt8} {Q : Nat → Bool} {lim k : Nat} (hq : Q k = true) (hl : lim < atM S (k + 1)) : bckM S Q lim (k + 1) = bckM S Q lim k + 1 := by
  unfold bckM
  rw [placesTo_yes (by unfold backQ; rw [hq, decide_eq_true hl]; rfl), List.length_append]
  rfl
theorem bck_no {S : List UInt8} {Q : Nat → Bool} {lim k : Nat} (hq : Q k = false) : bckM S Q lim (k + 1) = bckM S Q lim k := by
  unfold bckM
  rw [placesTo_no (by unfold backQ; rw [hq]; rfl)]
theorem bck_le {S : List UInt8} {Q : Nat → Bool} {lim k m : Nat} (h : k ≤ m) : bckM S Q lim k ≤ bckM S Q lim m := by
  obtain ⟨r, hr, _⟩ := places_more (chars S) (backQ S Q lim) h
  unfold bckM
  rw [hr, List.length_append]
  omega
theorem back_hit {S : List UInt8} {Q : Nat → Bool} {lim i k n : Nat} (hk : k < i) (hi : i ≤ (chars S).length) (hq : Q k = true) (hl : lim < atM S (k + 1)) (hn : bckM S Q lim k + n = bckM S Q lim i) (h1 : 1 ≤ n) : backM S Q lim (atM S i) n = some (atM S k) := by
  obtain ⟨r, hr, _⟩ := places_more (chars S) (backQ S Q lim) (show k + 1 ≤ i from hk)
  rw [placesTo_yes (by unfold backQ; rw [hq, decide_eq_true hl]; rfl)] at hr
  rw [back_eqM hi]
  unfold bckM at hn
  rw [List.getElem?_reverse (by omega), hr, List.append_assoc, List.getElem?_append_right (by rw [← List.append_assoc, ← hr]; omega), show (placesTo (chars S) (backQ S Q lim) k ++ ([width ((chars S).take k)] ++ r)).length - 1 - (n - 1) - (placesTo (chars S) (backQ S Q lim) k).length = 0 by rw [← List.append_assoc, ← hr]; omega]
  rfl
theorem back_noneM {S : List UInt8} {Q : Nat → Bool} {lim i k n : Nat} (_hk : k ≤ i) (hi : i ≤ (chars S).length) (hl : atM S k ≤ lim) (hn : bckM S Q lim i < bckM S Q lim k + n) : backM S Q lim (atM S i) n = none := by
  have hz : bckM S Q lim k = 0 := by
    unfold bckM
    rw [places_none (Nat.zero_le k) fun j _ hj => ?_]
    · rfl
    · have := atM_mono S (show j + 1 ≤ k from hj)
      unfold backQ
      rw [decide_eq_false (by omega), Bool.and_false]
  rw [back_eqM hi]
  unfold bckM at *
  exact List.getElem?_eq_none (by rw [List.length_reverse]; omega)
end Go.Proofs.YtgpmfkedcoiopaaGreatDoor

/-
  Contracts of the landed package move: the scanner, and where it stops.
-/
namespace Go.Proofs.YtgpmfkedcoiopaaGreatDoor
open Go.RowKit
set_option maxRecDepth 100000

/-- what a scanner holds -/
structure ScM where
  s : List UInt8
  a : Nat
  q : Nat
  f : Nat
  t : Nat
  n : Nat
  g : Int
def scC (x : ScM) : Array Value := #[.string ⟨x.s.toArray⟩, .int .i64 (x.a : Nat), .int .i64 (x.q : Nat), .int .i64 (x.f : Nat), .int .i64 (x.t : Nat), .int .i64 (x.n : Nat), .int .i32 x.g]
def IsSc (w : World) (P : Nat) (x : ScM) : Prop := Blk w P 145 (scC x)
section
variable {w w' : World} {P : Nat} {x : ScM}
theorem IsSc.below (h : IsSc w P x) (hb : Below w.heap.size w w') : IsSc w' P x := Blk.below h hb (Blk.lt h)
theorem IsSc.s (h : IsSc w P x) : w.cell? ⟨P, 0, none⟩ = some (.string ⟨x.s.toArray⟩) := Blk.cell h 0
theorem IsSc.a (h : IsSc w P x) : w.cell? ⟨P, 1, none⟩ = some (.int .i64 (x.a : Nat)) := Blk.cell h 1
theorem IsSc.q (h : IsSc w P x) : w.cell? ⟨P, 2, none⟩ = some (.int .i64 (x.q : Nat)) := Blk.cell h 2
theorem IsSc.f (h : IsSc w P x) : w.cell? ⟨P, 3, none⟩ = some (.int .i64 (x.f : Nat)) := Blk.cell h 3
theorem IsSc.t (h : IsSc w P x) : w.cell? ⟨P, 4, none⟩ = some (.int .i64 (x.t : Nat)) := Blk.cell h 4
theorem IsSc.n (h : IsSc w P x) : w.cell? ⟨P, 5, none⟩ = some (.int .i64 (x.n : Nat)) := Blk.cell h 5
theorem IsSc.g (h : IsSc w P x) : w.cell? ⟨P, 6, none⟩ = some (.int .i32 x.g) := Blk.cell h 6
end
theorem mvAt_any (S : List UInt8) (hs : S.length ≤ 1000000) (j : Nat) (hj : j ≤ (chars S).length) (w : World) : Calls Tryz.prog 154 #[.string ⟨S.toArray⟩, .int .i64 (atM S j : Nat)] w fun e w' => e = .returned (.tuple #[.int .i32 (((chars S).getD j (0, 0)).1 : Nat), .int .i64 (((chars S).getD j (0, 0)).2 : Nat)]) ∧ Below w.heap.size w w' :=
  (glyAt_any S _ w hs).mono fun _ _ ⟨i, he, hi, hb⟩ => ⟨by rw [he, hi.unique (which_self hj)], hb⟩
theorem mvPrev_any (S : List UInt8) (hs : S.length ≤ 1000000) (p : Nat) (w : World) : Calls Tryz.prog 175 #[.string ⟨S.toArray⟩, .int .i64 (p : Nat)] w fun e w' => e = .returned (.int .i64 (prevM S (p : Nat) : Nat)) ∧ Below w.heap.size w w' :=
  (glyPrev_any S _ w hs).mono fun _ _ ⟨i, he, hi, hb⟩ => ⟨by rw [he, hi.unique (which_is _ _)]; rfl, hb⟩
theorem mvNext_any (S : List UInt8) (hs : S.length ≤ 1000000) (p : Nat) (w : World) : Calls Tryz.prog 42 #[.string ⟨S.toArray⟩, .int .i64 (p : Nat)] w fun e w' => e = .returned (.int .i64 (nextM S (p : Nat) : Nat)) ∧ Below w.heap.size w w' :=
  (glyNext_any S _ w hs).mono fun _ _ ⟨i, he, hi, hb⟩ => ⟨by rw [he, hi.unique (which_is _ _)]; rfl, hb⟩
theorem rune_le (S : List UInt8) (i : Nat) : ((chars S).getD i (0, 0)).1 ≤ 1114111 := by
  rw [List.getD_eq_getElem?_getD]
  cases h : (chars S)[i]? with
  | none => simp
  | some y => exact (chars_bound S y (List.mem_of_getElem? h)).1
set_option maxHeartbeats 1000000 in
theorem mvClass_any (x : ScM) (hS : x.s.length ≤ 1000000) (P j : Nat) (hj : j ≤ (chars x.s).length) (w : World) (h : IsSc w P x) :
    Calls Tryz.prog 191 #[.pointer (some ⟨P, 0, none⟩), .int .i64 (atM x.s j : Nat)] w fun e w' => e = .returned (.int .i64 (clsM (chars x.s) j : Nat)) ∧ Below w.heap.size w w' := by
  have y0 := h.s
  have HG := Lib.hid (fun w => mvAt_any x.s hS j hj w)
  have hr := rune_le x.s j
  have HC : Hid (clsM (chars x.s) j = classL ((chars x.s).getD j (0, 0)).1) := rfl
  clear h hj
  generalize (chars x.s).getD j (0, 0) = y at *
  obtain ⟨r, l⟩ := y
  dsimp only at hr HC HG
  generalize clsM (chars x.s) j = c at *
  generalize atM x.s j = p at *
  go_enter Tryz.func191, Tryz.ntmps191
  go_wp2_with (first
    | (go_at_call 154; refine (HG.out _).mono ?_; rintro e w1 ⟨rfl, b1⟩)
    | (go_at_call 155; refine (glyClass_any r hr _).mono ?_; rintro e w2 ⟨rfl, hw⟩; subst hw))
  go_ret
  exact ⟨by rw [HC.out]; rfl, b1⟩
set_option maxHeartbeats 1000000 in
theorem mvInWord_any (x : ScM) (hS : x.s.length ≤ 1000000) (P j : Nat) (hj : j ≤ (chars x.s).length) (w : World) (h : IsSc w P x) :
    Calls Tryz.prog 190 #[.pointer (some ⟨P, 0, none⟩), .int .i64 (atM x.s j : Nat)] w fun e w' => e = .returned (.bool (wordM (chars x.s) j)) ∧ Below w.heap.size w w' := by
  have K := Lib.hid (mvClass_any x hS P j hj w h)
  have HW : Hid (wordM (chars x.s) j = (decide (clsM (chars x.s) j = 1) || decide (clsM (chars x.s) j = 2))) := rfl
  clear h hj
  generalize clsM (chars x.s) j = q at *
  generalize atM x.s j = p at *
  by_cases h1 : q = 1
  · have e1 : ((q : Int) == 1) = true := by simp [h1]
    have HE : Hid (wordM (chars x.s) j = true) := by rw [Hid, HW.out]; simp [h1]
    clear h1
    go_enter Tryz.func190, Tryz.ntmps190
    go_wp2_with (go_at_call 191; refine K.out.mono ?_; rintro e w1 ⟨rfl, b1⟩)
    go_ret
    exact ⟨by rw [HE.out]; rfl, b1⟩
  · have e1 : ((q : Int) == 1) = false := by rw [beq_eq_false_iff_ne]; omega
    by_cases h2 : q = 2
    · have e2 : ((q : Int) == 2) = true := by simp [h2]
      have HE : Hid (wordM (chars x.s) j = true) := by rw [Hid, HW.out]; simp [h2]
      clear h1 h2
      go_enter Tryz.func190, Tryz.ntmps190
      go_wp2_with (go_at_call 191; refine K.out.mono ?_; rintro e w1 ⟨rfl, b1⟩)
      go_ret
      exact ⟨by rw [HE.out]; rfl, b1⟩
    · have e2 : ((q : Int) == 2) = false := by rw [beq_eq_false_iff_ne]; omega
      have HE : Hid (wordM (chars x.s) j = false) := by rw [Hid, HW.out]; simp [h1, h2]
      clear h1 h2
      go_enter Tryz.func190, Tryz.ntmps190
      go_wp2_with (go_at_call 191; refine K.out.mono ?_; rintro e w1 ⟨rfl, b1⟩)
      go_ret
      exact ⟨by rw [HE.out]; rfl, b1⟩
/-- what a stop answers -/
def Stops (P : Nat) (x : ScM) (fn : Nat) (Q : Nat → Bool) (ok : Nat → Prop) : Prop := ∀ j, j < (chars x.s).length → ok j → ∀ w, IsSc w P x → Calls Tryz.prog fn #[.pointer (some ⟨P, 0, none⟩), .int .i64 (atM x.s j : Nat)] w fun e w' => e = .returned (.bool (Q j)) ∧ Below w.heap.size w w'
theorem mvEvery_any (P : Nat) (x : ScM) (ok : Nat → Prop) : Stops P x 172 (fun _ => true) ok := by
  intro j hj _ w h
  go_enter Tryz.func172, Tryz.ntmps172
  go_wp2_with fail
  go_ret
  exact ⟨rfl, Below.refl _ _⟩
set_option maxHeartbeats 2000000 in
theorem mvBegins_any (P : Nat) (x : ScM) (hS : x.s.length ≤ 1000000) (ok : Nat → Prop) : Stops P x 174 (begQ (chars x.s)) ok := by
  intro j hj _ w h
  have hjl := hj
  have HI := Lib.hid (mvInWord_any x hS P j (by omega) w h)
  have HC := Lib.hid (fun wz (hz : IsSc wz P x) => mvClass_any x hS P j (by omega) wz hz)
  have HD := Lib.hid (fun wz (hz : IsSc wz P x) => mvClass_any x hS P (j - 1) (by omega) wz hz)
  have HP := Lib.hid (fun wz => mvPrev_any x.s hS (atM x.s j) wz)
  rw [prevM_atM (Nat.le_of_lt hj)] at HP
  have HQ : Hid (begQ (chars x.s) j = (wordM (chars x.s) j && (decide (j = 0) || decide (clsM (chars x.s) (j - 1) ≠ clsM (chars x.s) j)))) := rfl
  have H := Lib.hid h
  have h0 : j = 0 ↔ atM x.s j = 0 := by
    have e := atM_lt (S := x.s) (i := 0) (j := j) (by omega) (by omega)
    rw [atM_zero] at e
    omega
  clear hj h hjl
  cases hw : wordM (chars x.s) j with
  | false =>
    have HE : Hid (begQ (chars x.s) j = false) := by rw [Hid, HQ.out, hw]; rfl
    rw [hw] at HI
    clear HC HD HP HQ hw h0
    generalize atM x.s j = p at *
    go_enter Tryz.func174, Tryz.ntmps174
    go_wp2_with (go_at_call 190; refine HI.out.mono ?_; rintro e w1 ⟨rfl, b1⟩)
    go_ret
    exact ⟨by rw [HE.out]; rfl, b1⟩
  | true =>
    rw [hw] at HI HQ
    by_cases hj0 : j = 0
    · have HE : Hid (begQ (chars x.s) j = true) := by rw [Hid, HQ.out]; simp [hj0]
      have e0 : ((atM x.s j : Int) == 0) = true := by rw [h0.1 hj0]; rfl
      clear HC HD HP HQ hw h0 hj0
      generalize atM x.s j = p at *
      go_enter Tryz.func174, Tryz.ntmps174
      go_wp2_with (go_at_call 190; refine HI.out.mono ?_; rintro e w1 ⟨rfl, b1⟩)
      go_ret
      exact ⟨by rw [HE.out]; rfl, b1⟩
    · have e0 : ((atM x.s j : Int) == 0) = false := by rw [beq_eq_false_iff_ne]; omega
      have HE : Hid (begQ (chars x.s) j = ((clsM (chars x.s) (j - 1) : Int) != (clsM (chars x.s) j : Int))) := by
        rw [Hid, HQ.out, decide_eq_false hj0, Bool.true_and, Bool.false_or]
        by_cases e : clsM (chars x.s) (j - 1) = clsM (chars x.s) j
        · simp [e]
        · rw [decide_eq_true e]
          exact (bne_iff_ne.2 (by omega)).symm
      clear HQ hw h0 hj0
      generalize begQ (chars x.s) j = bq at *
      generalize clsM (chars x.s) (j - 1) = q1 at *
      generalize clsM (chars x.s) j = q2 at *
      generalize atM x.s (j - 1) = p1 at *
      generalize atM x.s j = p at *
      go_enter Tryz.func174, Tryz.ntmps174
      go_wp2_with (first
        | (go_at_call 190; refine HI.out.mono ?_; rintro e w1 ⟨rfl, b1⟩; have y0 := (H.out.below b1).s)
        | (go_at_call 175; refine (HP.out _).mono ?_; rintro e w2 ⟨rfl, b2⟩; have B2 := Lib.hid (b1.trans (b2.mono b1.size)))
        | (go_at_call 191; (with_reducible refine (HD.out _ (H.out.below B2.out)).mono ?_); rintro e w3 ⟨rfl, b3⟩; have B3 := Lib.hid (B2.out.trans (b3.mono B2.out.size)))
        | (go_at_call 191; (with_reducible refine (HC.out _ (H.out.below B3.out)).mono ?_); rintro e w4 ⟨rfl, b4⟩; have B4 := Lib.hid (B3.out.trans (b4.mono B3.out.size))))
      go_ret
      exact ⟨by rw [HE.out]; rfl, B4.out⟩
set_option maxHeartbeats 2000000 in
theorem mvEnds_any (P : Nat) (x : ScM) (hS : x.s.length ≤ 1000000) : Stops P x 176 (endQ (chars x.s)) (fun j => atM x.s j < prevM x.s (x.s.length : Nat)) := by
  intro j hj hlim w h
  rw [prevM_last] at hlim
  have hlast : j + 1 < (chars x.s).length := by
    have := (atM_lt (S := x.s) (i := j) (j := (chars x.s).length - 1) (by omega) (by omega)).1 hlim
    omega
  have HI := Lib.hid (mvInWord_any x hS P j (by omega) w h)
  have HC := Lib.hid (fun wz (hz : IsSc wz P x) => mvClass_any x hS P j (by omega) wz hz)
  have HD := Lib.hid (fun wz (hz : IsSc wz P x) => mvClass_any x hS P (j + 1) (by omega) wz hz)
  have HP := Lib.hid (fun wz => mvNext_any x.s hS (atM x.s j) wz)
  rw [nextM_atM (Nat.le_of_lt hj)] at HP
  have HQ : Hid (endQ (chars x.s) j = (wordM (chars x.s) j && (decide (j + 1 = (chars x.s).length) || decide (clsM (chars x.s) (j + 1) ≠ clsM (chars x.s) j)))) := rfl
  rw [decide_eq_false (show ¬ j + 1 = (chars x.s).length by omega), Bool.false_or] at HQ
  have H := Lib.hid h
  clear hj h hlast hlim
  cases hw : wordM (chars x.s) j with
  | false =>
    have HE : Hid (endQ (chars x.s) j = false) := by rw [Hid, HQ.out, hw]; rfl
    rw [hw] at HI
    clear HC HD HP HQ hw
    generalize atM x.s j = p at *
    go_enter Tryz.func176, Tryz.ntmps176
    go_wp2_with (go_at_call 190; refine HI.out.mono ?_; rintro e w1 ⟨rfl, b1⟩)
    go_ret
    exact ⟨by rw [HE.out]; rfl, b1⟩
  | true =>
    rw [hw] at HI HQ
    have HE : Hid (endQ (chars x.s) j = ((clsM (chars x.s) (j + 1) : Int) != (clsM (chars x.s) j : Int))) := by
      rw [Hid, HQ.out, Bool.true_and]
      by_cases e : clsM (chars x.s) (j + 1) = clsM (chars x.s) j
      · simp [e]
      · rw [decide_eq_true e]
        exact (bne_iff_ne.2 (by omega)).symm
    clear HQ hw
    generalize endQ (chars x.s) j = bq at *
    generalize clsM (chars x.s) (j + 1) = q1 at *
    generalize clsM (chars x.s) j = q2 at *
    generalize atM x.s (j + 1) = p1 at *
    generalize atM x.s j = p at *
    go_enter Tryz.func176, Tryz.ntmps176
    go_wp2_with (first
      | (go_at_call 190; refine HI.out.mono ?_; rintro e w1 ⟨rfl, b1⟩; have y0 := (H.out.below b1).s)
      | (go_at_call 42; refine (HP.out _).mono ?_; rintro e w2 ⟨rfl, b2⟩; have B2 := Lib.hid (b1.trans (b2.mono b1.size)))
      | (go_at_call 191; (with_reducible refine (HD.out _ (H.out.below B2.out)).mono ?_); rintro e w3 ⟨rfl, b3⟩; have B3 := Lib.hid (B2.out.trans (b3.mono B2.out.size)))
      | (go_at_call 191; (with_reducible refine (HC.out _ (H.out.below B3.out)).mono ?_); rintro e w4 ⟨rfl, b4⟩; have B4 := Lib.hid (B3.out.trans (b4.mono B3.out.size))))
    go_ret
    exact ⟨by rw [HE.out]; rfl, B4.out⟩
set_option maxHeartbeats 1000000 in
theorem mvSought_any (P : Nat) (x : ScM) (hS : x.s.length ≤ 1000000) (ok : Nat → Prop) : Stops P x 180 (fun j => (((chars x.s).getD j (0, 0)).1 : Int) == x.g) ok := by
  intro j hj _ w h
  have y0 := h.s
  have HG := Lib.hid (fun w => mvAt_any x.s hS j (by omega) w)
  have H := Lib.hid h
  clear h hj
  dsimp only
  generalize (chars x.s).getD j (0, 0) = y at *
  obtain ⟨r, l⟩ := y
  dsimp only at HG ⊢
  generalize atM x.s j = p at *
  go_enter Tryz.func180, Tryz.ntmps180
  go_wp2_with (go_at_call 154; refine (HG.out _).mono ?_; rintro e w1 ⟨rfl, b1⟩; have y6 := (H.out.below b1).g)
  go_ret
  exact ⟨rfl, b1⟩
set_option maxHeartbeats 1000000 in
theorem mvEmpty_any (P : Nat) (x : ScM) (hS : x.s.length ≤ 1000000) (ok : Nat → Prop) : Stops P x 177 (emQ x.s) ok := by
  intro j hj _ w h
  have hlt : atM x.s j < x.s.length := by
    have := (atM_lt (S := x.s) (i := j) (j := (chars x.s).length) (by omega) (by omega)).2 hj
    rwa [atM_last] at this
  have y0 := h.s
  have HQ : Hid (emQ x.s j = (decide (x.s[atM x.s j]? = some 10) && (decide (atM x.s j = 0) || decide (x.s[atM x.s j - 1]? = some 10)))) := rfl
  clear h hj
  generalize hp : atM x.s j = p at *
  clear hp
  generalize emQ x.s j = bq at *
  generalize x.s = S at *
  rw [List.getElem?_eq_getElem hlt] at HQ
  have hlt' : (p : Int) < (S.length : Int) := by omega
  have hp0 : (0 : Int) ≤ (p : Int) := by omega
  have hg := byte_at S p hlt
  by_cases h10 : S[p] = 10
  · have hnl := nl_yes h10
    by_cases h0 : p = 0
    · have e0 : ((p : Int) == 0) = true := by simp [h0]
      have HE : Hid (bq = true) := by rw [Hid, HQ.out, h10, h0]; simp
      clear HQ h10 h0
      generalize S[p] = b at *
      go_enter Tryz.func177, Tryz.ntmps177
      go_wp2_with fail
      go_ret
      exact ⟨by rw [HE.out]; rfl, Below.refl _ _⟩
    · have e0 : ((p : Int) == 0) = false := by rw [beq_eq_false_iff_ne]; omega
      obtain ⟨k, rfl⟩ : ∃ k, p = k + 1 := ⟨p - 1, by omega⟩
      have hlt2 : k < S.length := by omega
      have hk := byte_at S k hlt2
      rw [Nat.add_sub_cancel, List.getElem?_eq_getElem hlt2] at HQ
      have hk0 : (0 : Int) ≤ (k : Int) := by omega
      have hk2 : (k : Int) < (S.length : Int) := by omega
      have HE : Hid (bq = (((S[k].toNat : Int)) == 10)) := by
        rw [Hid, HQ.out, h10, decide_eq_false h0]
        by_cases hb : S[k] = 10
        · rw [nl_yes hb, hb]; rfl
        · rw [nl_no hb]; simp [hb]
      clear HQ h10 h0
      generalize S[k + 1] = b at *
      generalize S[k] = b2 at *
      go_enter Tryz.func177, Tryz.ntmps177
      go_wp2_with fail
      go_ret
      exact ⟨by rw [HE.out]; rfl, Below.refl _ _⟩
  · have hnl := nl_no h10
    have HE : Hid (bq = false) := by rw [Hid, HQ.out]; simp [h10]
    clear HQ h10
    generalize S[p] = b at *
    go_enter Tryz.func177, Tryz.ntmps177
    go_wp2_with fail
    go_ret
    exact ⟨by rw [HE.out]; rfl, Below.refl _ _⟩
end Go.Proofs.YtgpmfkedcoiopaaGreatDoor

/-
  Contracts of the landed package move: the scanner's ways on and back.
-/
namespace Go.Proofs.YtgpmfkedcoiopaaGreatDoor
open Go.RowKit
set_option maxRecDepth 100000

set_option maxHeartbeats 2000000 in
theorem mvOn_any (fn : Nat) (hent : ∀ (args : Array Value) (w : World), Sem.run Tryz.prog (callFunc fn args) w = .ok (.enter fn args) w) (Q : Nat → Bool) (P : Nat) (x : ScM) (hS : x.s.length ≤ 1000000) (lim : Nat) (hl : lim ≤ x.s.length) (i : Nat) (hi : i ≤ (chars x.s).length) (ha : x.a = atM x.s i) (hn : 1 ≤ x.n ∧ x.n ≤ 999)
    (hq : Stops P x fn Q (fun j => atM x.s j < lim)) (w : World) (h : IsSc w P x) :
    Calls Tryz.prog 173 #[.pointer (some ⟨P, 0, none⟩), .int .i64 (lim : Nat), .func (.func fn) #[.pointer (some ⟨P, 0, none⟩)] #[]] w fun e w' => e = .returned (.tuple #[.int .i64 ((onM x.s Q lim x.a x.n).getD lim : Nat), .bool (onM x.s Q lim x.a x.n).isSome]) ∧ Below w.heap.size w w' := by
  have H := Lib.hid h
  have HQ := Lib.hid hq
  have HH := Lib.hid (fun k (h1 : i < k) => on_hit (S := x.s) (Q := Q) (lim := lim) (n := x.n) h1)
  have HN := Lib.hid (fun k (h1 : k ≤ (chars x.s).length + 1) => on_none (S := x.s) (Q := Q) (lim := lim) (a := atM x.s i) (n := x.n) h1 hl)
  have HS := Lib.hid (fun k (h1 : k ≤ (chars x.s).length) (wz : World) => mvNext_any x.s hS (atM x.s k) wz)
  have HZ := Lib.hid (cnt_start x.s Q lim i)
  have HA := Lib.hid ha
  have HI := Lib.hid hi
  have h0 := h.s
  have h1 := h.a
  have h5 := h.n
  rw [ha] at h1 ⊢
  have HX := fun w => HS.out i hi w
  rw [nextM_atM hi] at HX
  replace HX := Lib.hid HX
  have hnI : (1 : Int) ≤ (x.n : Int) ∧ (x.n : Int) ≤ 999 := by omega
  clear h hq ha hi
  go_enter Tryz.func173, Tryz.ntmps173
  go_upto_region 2 with fail
  refine wp_region_still_tail 8 (by kernel_rfl) (by kernel_rfl) ?_
  simp only [List.take_succ_cons, List.take_zero, List.drop_succ_cons, List.drop_zero]
  still_step
  still_step
  still_step
  still_step
  still_step
  still_step
  still_step
  still_step
  refine wpStill_nil ?_
  change wpList _ _ _ _ _ w.drew
  have B0 : Hid (Below w.heap.size w w.drew) := below_drewN (Below.refl _ _) 1
  clear h0 h1 h5
  generalize w.drew = wb at *
  go_wp2_with (go_at_call 42; refine (HX.out _).mono ?_; rintro e w1 ⟨rfl, b1⟩)
  have B1 := Lib.hid (B0.out.trans (b1.mono B0.out.size))
  clear b1 B0 HX
  go_loopw [8, 9] (fun s v wr => ∃ k : Nat, i < k ∧ k ≤ (chars x.s).length + 1 ∧ v = .int .i64 (atM x.s k : Nat) ∧ cntM x.s Q lim (atM x.s i) k < x.n ∧ s = .int .i64 ((x.n : Int) - (cntM x.s Q lim (atM x.s i) k : Nat)) ∧ Hid (Below w.heap.size w wr)) (fun _ v _ => x.s.length - (intOf v).toNat)
  case atStart => exact ⟨i + 1, by omega, by have := HI.out; omega, rfl, by rw [HZ.out]; omega, by rw [HZ.out]; simp, B1⟩
  case round =>
    clear B1 HZ
    obtain ⟨k, hik, hk, rfl, hc, rfl, BB⟩ := hrel
    by_cases hlt : atM x.s k < lim
    · have hlt' : (atM x.s k : Int) < (lim : Int) := by omega
      have hkl : k < (chars x.s).length := by
        rcases Nat.lt_or_ge k (chars x.s).length with g | g
        · exact g
        · have := atM_mono x.s g
          rw [atM_last] at this
          omega
      have HR := Lib.hid (HQ.out k hkl hlt)
      have HY := fun w => HS.out k (Nat.le_of_lt hkl) w
      rw [nextM_atM (Nat.le_of_lt hkl)] at HY
      replace HY := Lib.hid HY
      have hw1 := (atM_lt (S := x.s) (i := k) (j := k + 1) (by omega) hkl).2 (by omega)
      have hw2 := atM_le x.s (k + 1)
      have HC0 := fun e => cnt_no (S := x.s) (lim := lim) (a := atM x.s i) (Q := Q) (k := k) e
      have HC1 := fun e => cnt_yes (S := x.s) (lim := lim) (i := i) (Q := Q) (k := k) hik (Nat.le_of_lt hkl) e hlt
      have HHit := fun e1 e2 => HH.out k hik hkl e1 hlt e2
      replace HC0 := Lib.hid HC0
      replace HC1 := Lib.hid HC1
      replace HHit := Lib.hid HHit
      have HK := Lib.hid hkl
      clear hkl hlt
      have HW : Hid (∀ wz, Below w.heap.size w wz → IsSc wz P x) := fun wz hz => Blk.below H.out hz (Blk.lt H.out)
      have h0 := (HW.out _ BB.out).s
      generalize hcq : cntM x.s Q lim (atM x.s i) k = c at *
      generalize hp : atM x.s k = p at *
      generalize hp2 : atM x.s (k + 1) = p2 at *
      have HP2 := Lib.hid hp2
      have hcn : (c : Int) < (x.n : Int) := by omega
      clear hp hp2 hcq
      cases hqk : Q k with
      | false =>
        have HE := Lib.hid (HC0.out hqk)
        rw [hqk] at HR
        have hz : ((x.n : Int) - (c : Int) == 0) = false := by rw [beq_eq_false_iff_ne]; omega
        clear HC0 HC1 HHit hqk
        go_wp2_with fail
        refine (HR.out _ (HW.out _ BB.out)).mono ?_
        rintro e w2 ⟨rfl, b2⟩
        have B2 := Lib.hid (BB.out.trans (b2.mono BB.out.size))
        have y0 := (HW.out _ B2.out).s
        go_wp2_with (go_at_call 42; refine (HY.out _).mono ?_; rintro e w3 ⟨rfl, b3⟩; have B3 := Lib.hid (B2.out.trans (b3.mono B2.out.size)))
        go_roundw
        case rel => exact ⟨k + 1, by omega, by have := HK.out; omega, by rw [HP2.out], by rw [HE.out]; exact hc, by rw [HE.out], B3⟩
        case measure => simp [intOf]; omega
      | true =>
        have HE := Lib.hid (HC1.out hqk)
        have HQK := Lib.hid hqk
        rw [hqk] at HR
        by_cases hl : c + 1 = x.n
        · have HV := Lib.hid (HHit.out hqk hl)
          have hz : ((x.n : Int) - (c : Int) - 1 == 0) = true := by rw [beq_iff_eq]; omega
          clear HC0 HC1 HHit hqk hl
          go_wp2_with fail
          refine (HR.out _ (HW.out _ BB.out)).mono ?_
          rintro e w2 ⟨rfl, b2⟩
          have B2 := Lib.hid (BB.out.trans (b2.mono BB.out.size))
          go_wp2_with fail
          go_ret2
          exact ⟨by rw [HV.out]; rfl, B2.out⟩
        · have hz : ((x.n : Int) - (c : Int) - 1 == 0) = false := by rw [beq_eq_false_iff_ne]; omega
          have HL := Lib.hid hl
          clear HC0 HC1 HHit hqk hl
          go_wp2_with fail
          refine (HR.out _ (HW.out _ BB.out)).mono ?_
          rintro e w2 ⟨rfl, b2⟩
          have B2 := Lib.hid (BB.out.trans (b2.mono BB.out.size))
          have y0 := (HW.out _ B2.out).s
          go_wp2_with (go_at_call 42; refine (HY.out _).mono ?_; rintro e w3 ⟨rfl, b3⟩; have B3 := Lib.hid (B2.out.trans (b3.mono B2.out.size)))
          go_roundw
          case rel => exact ⟨k + 1, by omega, by have := HK.out; omega, by rw [HP2.out], by rw [HE.out]; have := HL.out; omega, by rw [HE.out]; go_num, B3⟩
          case measure => simp [intOf]; omega
    · have hlt' : ¬ (atM x.s k : Int) < (lim : Int) := by omega
      have HV := Lib.hid (HN.out k hk (by omega) hc)
      generalize atM x.s k = p at *
      go_wp2_with fail
      go_ret2
      exact ⟨by rw [HV.out]; rfl, BB.out⟩
set_option maxHeartbeats 2000000 in
theorem mvBack_any (fn : Nat) (hent : ∀ (args : Array Value) (w : World), Sem.run Tryz.prog (callFunc fn args) w = .ok (.enter fn args) w) (Q : Nat → Bool) (P : Nat) (x : ScM) (hS : x.s.length ≤ 1000000) (lim : Nat) (i : Nat) (hi : i ≤ (chars x.s).length) (ha : x.a = atM x.s i) (hn : 1 ≤ x.n ∧ x.n ≤ 999)
    (hq : Stops P x fn Q (fun _ => True)) (w : World) (h : IsSc w P x) :
    Calls Tryz.prog 171 #[.pointer (some ⟨P, 0, none⟩), .int .i64 (lim : Nat), .func (.func fn) #[.pointer (some ⟨P, 0, none⟩)] #[]] w fun e w' => e = .returned (.tuple #[.int .i64 ((backM x.s Q lim x.a x.n).getD lim : Nat), .bool (backM x.s Q lim x.a x.n).isSome]) ∧ Below w.heap.size w w' := by
  have HW : Hid (∀ wz, Below w.heap.size w wz → IsSc wz P x) := fun wz hz => Blk.below h hz (Blk.lt h)
  have HQ := Lib.hid hq
  have HH := Lib.hid (fun k (h1 : k < i) => back_hit (S := x.s) (Q := Q) (lim := lim) (n := x.n) h1 hi)
  have HN := Lib.hid (fun k (h1 : k ≤ i) => back_noneM (S := x.s) (Q := Q) (lim := lim) (n := x.n) h1 hi)
  have HS := Lib.hid (fun k (h1 : k ≤ (chars x.s).length) (wz : World) => mvPrev_any x.s hS (atM x.s k) wz)
  have HLE := Lib.hid (fun k (h1 : k ≤ i) => bck_le (S := x.s) (Q := Q) (lim := lim) h1)
  have HI := Lib.hid hi
  have h1 := h.a
  have h5 := h.n
  rw [ha] at h1 ⊢
  have hnI : (1 : Int) ≤ (x.n : Int) ∧ (x.n : Int) ≤ 999 := by omega
  clear h hq ha hi
  generalize hT : bckM x.s Q lim i = T at *
  have HT := Lib.hid hT
  clear hT
  go_enter Tryz.func171, Tryz.ntmps171
  go_wp2_with fail
  go_loopw [8, 9] (fun s v wr => ∃ k : Nat, k ≤ i ∧ v = .int .i64 (atM x.s k : Nat) ∧ T < bckM x.s Q lim k + x.n ∧ bckM x.s Q lim k ≤ T ∧ s = .int .i64 ((x.n : Int) - ((T - bckM x.s Q lim k : Nat) : Int)) ∧ Hid (Below w.heap.size w wr)) (fun _ v _ => (intOf v).toNat)
  case atStart => exact ⟨i, Nat.le_refl _, rfl, by rw [HT.out]; omega, by rw [HT.out]; exact Nat.le_refl _, by rw [HT.out]; simp, Below.refl _ _⟩
  case round =>
    obtain ⟨k1, hik, rfl, hc, hle, rfl, BB⟩ := hrel
    by_cases hlt : lim < atM x.s k1
    · have hlt' : (lim : Int) < (atM x.s k1 : Int) := by omega
      have h00 : k1 ≠ 0 := fun e => by rw [e, atM_zero] at hlt; omega
      obtain ⟨k, rfl⟩ : ∃ k, k1 = k + 1 := ⟨k1 - 1, by omega⟩
      have hiL := HI.out
      have hkl : k < (chars x.s).length := by omega
      have HR := Lib.hid (HQ.out k hkl trivial)
      have HY := fun w => HS.out (k + 1) hkl w
      rw [prevM_atM (show k + 1 ≤ (chars x.s).length from hkl), Nat.add_sub_cancel] at HY
      replace HY := Lib.hid HY
      have hw1 := (atM_lt (S := x.s) (i := k) (j := k + 1) (by omega) hkl).2 (by omega)
      have HC0 := fun e => bck_no (S := x.s) (lim := lim) (Q := Q) (k := k) e
      have HC1 := fun e => bck_yes (S := x.s) (lim := lim) (Q := Q) (k := k) e hlt
      have HHit := fun e1 e2 => HH.out k (by omega) e1 hlt e2 hn.1
      have HL2 := Lib.hid (HLE.out k (by omega))
      replace HC0 := Lib.hid HC0
      replace HC1 := Lib.hid HC1
      replace HHit := Lib.hid HHit
      have HKI := Lib.hid hik
      clear hkl hlt hiL h00 hik
      have y0 := (HW.out _ BB.out).s
      generalize hcq : bckM x.s Q lim (k + 1) = c at *
      generalize hcq2 : bckM x.s Q lim k = c2 at *
      generalize hp : atM x.s (k + 1) = p at *
      generalize hp2 : atM x.s k = p2 at *
      have HP2 := Lib.hid hp2
      have HCQ2 := Lib.hid hcq2
      clear hp hp2 hcq hcq2
      generalize hd : T - c = d at *
      have hdn : (d : Int) < (x.n : Int) := by omega
      cases hqk : Q k with
      | false =>
        have HE := HC0.out hqk
        rw [hqk] at HR
        have hz : ((x.n : Int) - (d : Int) == 0) = false := by rw [beq_eq_false_iff_ne]; omega
        have HF : Hid (T - c2 = d ∧ T < c2 + x.n ∧ c2 ≤ T) := by refine ⟨?_, ?_, ?_⟩ <;> omega
        clear HC0 HC1 HHit hqk HE hd hc hle HL2
        go_wp2_with (go_at_call 175; refine (HY.out _).mono ?_; rintro e w1 ⟨rfl, b1⟩; have B1 := Lib.hid (BB.out.trans (b1.mono BB.out.size)))
        refine (HR.out _ (HW.out _ B1.out)).mono ?_
        rintro e w2 ⟨rfl, b2⟩
        have B2 := Lib.hid (B1.out.trans (b2.mono B1.out.size))
        go_wp2_with fail
        go_roundw
        case rel => exact ⟨k, by have := HKI.out; omega, by rw [HP2.out], by rw [HCQ2.out]; exact HF.out.2.1, by rw [HCQ2.out]; exact HF.out.2.2, by rw [HCQ2.out, HF.out.1], B2⟩
        case measure => simp [intOf]; omega
      | true =>
        have HE := HC1.out hqk
        rw [hqk] at HR
        by_cases hl : d + 1 = x.n
        · have HV := Lib.hid (HHit.out hqk (by omega))
          have hz : ((x.n : Int) - (d : Int) - 1 == 0) = true := by rw [beq_iff_eq]; omega
          clear HC0 HC1 HHit hqk hl HE hd hc hle HL2
          go_wp2_with (go_at_call 175; refine (HY.out _).mono ?_; rintro e w1 ⟨rfl, b1⟩; have B1 := Lib.hid (BB.out.trans (b1.mono BB.out.size)))
          refine (HR.out _ (HW.out _ B1.out)).mono ?_
          rintro e w2 ⟨rfl, b2⟩
          have B2 := Lib.hid (B1.out.trans (b2.mono B1.out.size))
          go_wp2_with fail
          go_ret2
          exact ⟨by rw [HV.out]; rfl, B2.out⟩
        · have hz : ((x.n : Int) - (d : Int) - 1 == 0) = false := by rw [beq_eq_false_iff_ne]; omega
          have HF : Hid (((T - c2 : Nat) : Int) = (d : Int) + 1 ∧ T < c2 + x.n ∧ c2 ≤ T) := by refine ⟨?_, ?_, ?_⟩ <;> omega
          clear HC0 HC1 HHit hqk hl HE hd hc hle HL2
          go_wp2_with (go_at_call 175; refine (HY.out _).mono ?_; rintro e w1 ⟨rfl, b1⟩; have B1 := Lib.hid (BB.out.trans (b1.mono BB.out.size)))
          refine (HR.out _ (HW.out _ B1.out)).mono ?_
          rintro e w2 ⟨rfl, b2⟩
          have B2 := Lib.hid (B1.out.trans (b2.mono B1.out.size))
          go_wp2_with fail
          go_roundw
          case rel => exact ⟨k, by have := HKI.out; omega, by rw [HP2.out], by rw [HCQ2.out]; exact HF.out.2.1, by rw [HCQ2.out]; exact HF.out.2.2, by rw [HCQ2.out, HF.out.1]; go_num, B2⟩
          case measure => simp [intOf]; omega
    · have hlt' : ¬ (lim : Int) < (atM x.s k1 : Int) := by omega
      have HV := Lib.hid (HN.out k1 hik (by omega) hc)
      generalize T - bckM x.s Q lim k1 = d at *
      generalize atM x.s k1 = p at *
      clear hc hle
      go_wp2_with fail
      go_ret2
      exact ⟨by rw [HV.out]; rfl, BB.out⟩
end Go.Proofs.YtgpmfkedcoiopaaGreatDoor

/-
  Contracts of the landed package move: walk, find, inLine, meant.
-/
namespace Go.Proofs.YtgpmfkedcoiopaaGreatDoor
open Go.RowKit
set_option maxRecDepth 100000

/-- a scanner as scan makes it -/
structure ScOk (x : ScM) : Prop where
  len : x.s.length ≤ 1000000
  sign : ∃ i, i ≤ (chars x.s).length ∧ x.a = atM x.s i
  many : 1 ≤ x.n ∧ x.n ≤ 999
  to_ : x.t ≤ x.s.length
theorem mv_dr {B : Nat} {a w : World} (h : Below B a w) : Below B a w.drew := below_drewN h 1
theorem ScOk.on {x : ScM} (k : ScOk x) {fn : Nat} (hent : ∀ (args : Array Value) (w : World), Sem.run Tryz.prog (callFunc fn args) w = .ok (.enter fn args) w) {Q : Nat → Bool} {P lim : Nat} (hl : lim ≤ x.s.length) (hq : Stops P x fn Q (fun j => atM x.s j < lim)) {w0 : World} (h : IsSc w0 P x) :
    Hid (∀ w, Below w0.heap.size w0 w → Calls Tryz.prog 173 #[.pointer (some ⟨P, 0, none⟩), .int .i64 (lim : Nat), .func (.func fn) #[.pointer (some ⟨P, 0, none⟩)] #[]] w fun e w' => e = .returned (.tuple #[.int .i64 ((onM x.s Q lim x.a x.n).getD lim : Nat), .bool (onM x.s Q lim x.a x.n).isSome]) ∧ Below w0.heap.size w0 w') := fun w hb => by
  obtain ⟨i, hi, ha⟩ := k.sign
  exact (mvOn_any fn hent Q P x k.len lim hl i hi ha k.many hq w (h.below hb)).mono fun e w' ⟨he, h2⟩ => ⟨he, hb.trans (h2.mono hb.size)⟩
theorem ScOk.back {x : ScM} (k : ScOk x) {fn : Nat} (hent : ∀ (args : Array Value) (w : World), Sem.run Tryz.prog (callFunc fn args) w = .ok (.enter fn args) w) {Q : Nat → Bool} {P : Nat} (lim : Nat) (hq : Stops P x fn Q (fun _ => True)) {w0 : World} (h : IsSc w0 P x) :
    Hid (∀ w, Below w0.heap.size w0 w → Calls Tryz.prog 171 #[.pointer (some ⟨P, 0, none⟩), .int .i64 (lim : Nat), .func (.func fn) #[.pointer (some ⟨P, 0, none⟩)] #[]] w fun e w' => e = .returned (.tuple #[.int .i64 ((backM x.s Q lim x.a x.n).getD lim : Nat), .bool (backM x.s Q lim x.a x.n).isSome]) ∧ Below w0.heap.size w0 w') := fun w hb => by
  obtain ⟨i, hi, ha⟩ := k.sign
  exact (mvBack_any fn hent Q P x k.len lim i hi ha k.many hq w (h.below hb)).mono fun e w' ⟨he, h2⟩ => ⟨he, hb.trans (h2.mono hb.size)⟩
theorem prevM_le (S : List UInt8) (p : Int) : prevM S p ≤ S.length := atM_le S _
set_option maxHeartbeats 1000000 in
theorem mvWalk_h (x : ScM) (k : ScOk x) (P : Nat) (w : World) (h : IsSc w P x) : Calls Tryz.prog 140 #[.pointer (some ⟨P, 0, none⟩), .int .i32 104] w fun e w' => e = .returned (.int .i64 ((backM x.s (fun _ => true) (x.f) x.a x.n).getD (x.f) : Nat)) ∧ Below w.heap.size w w' := by
  have hmf : ∀ (fn : Fn) (first cap : Array Value) (w : World), (Instr.makeFunc fn first cap).run Tryz.prog w = .ok (.func fn first cap) w := fun _ _ _ _ => rfl
  have HK := k.back (fn := 172) (fun _ _ => rfl) (Q := fun _ => true) (P := P) (x.f) (mvEvery_any P x _) h
  have y0 := h.s
  have y3 := h.f
  have y4 := h.t
  clear h k
  generalize backM x.s (fun _ => true) (x.f) x.a x.n = r at *
  go_enter Tryz.func140, Tryz.ntmps140
  go_wp2_with (go_at_call 171; refine (HK.out _ (Below.refl _ _)).mono ?_; rintro e w1 ⟨rfl, b1⟩)
  go_ret
  exact ⟨rfl, b1⟩
set_option maxHeartbeats 1000000 in
theorem mvWalk_l (x : ScM) (k : ScOk x) (P : Nat) (w : World) (h : IsSc w P x) : Calls Tryz.prog 140 #[.pointer (some ⟨P, 0, none⟩), .int .i32 108] w fun e w' => e = .returned (.int .i64 ((onM x.s (fun _ => true) (x.t) x.a x.n).getD (x.t) : Nat)) ∧ Below w.heap.size w w' := by
  have hmf : ∀ (fn : Fn) (first cap : Array Value) (w : World), (Instr.makeFunc fn first cap).run Tryz.prog w = .ok (.func fn first cap) w := fun _ _ _ _ => rfl
  have HK := k.on (fn := 172) (fun _ _ => rfl) (Q := fun _ => true) (P := P) (lim := x.t) k.to_ (mvEvery_any P x _) h
  have y0 := h.s
  have y3 := h.f
  have y4 := h.t
  clear h k
  generalize onM x.s (fun _ => true) (x.t) x.a x.n = r at *
  go_enter Tryz.func140, Tryz.ntmps140
  go_wp2_with (go_at_call 173; refine (HK.out _ (Below.refl _ _)).mono ?_; rintro e w1 ⟨rfl, b1⟩)
  go_ret
  exact ⟨rfl, b1⟩
set_option maxHeartbeats 1000000 in
theorem mvWalk_w (x : ScM) (k : ScOk x) (P : Nat) (w : World) (h : IsSc w P x) : Calls Tryz.prog 140 #[.pointer (some ⟨P, 0, none⟩), .int .i32 119] w fun e w' => e = .returned (.int .i64 ((onM x.s (begQ (chars x.s)) (x.s.length) x.a x.n).getD (x.s.length) : Nat)) ∧ Below w.heap.size w w' := by
  have hmf : ∀ (fn : Fn) (first cap : Array Value) (w : World), (Instr.makeFunc fn first cap).run Tryz.prog w = .ok (.func fn first cap) w := fun _ _ _ _ => rfl
  have HK := k.on (fn := 174) (fun _ _ => rfl) (Q := begQ (chars x.s)) (P := P) (lim := x.s.length) (Nat.le_refl _) (mvBegins_any P x k.len _) h
  have y0 := h.s
  have y3 := h.f
  have y4 := h.t
  clear h k
  generalize onM x.s (begQ (chars x.s)) (x.s.length) x.a x.n = r at *
  go_enter Tryz.func140, Tryz.ntmps140
  go_wp2_with (go_at_call 173; refine (HK.out _ (Below.refl _ _)).mono ?_; rintro e w1 ⟨rfl, b1⟩)
  go_ret
  exact ⟨rfl, b1⟩
set_option maxHeartbeats 1000000 in
theorem mvWalk_b (x : ScM) (k : ScOk x) (P : Nat) (w : World) (h : IsSc w P x) : Calls Tryz.prog 140 #[.pointer (some ⟨P, 0, none⟩), .int .i32 98] w fun e w' => e = .returned (.int .i64 ((backM x.s (begQ (chars x.s)) 0 x.a x.n).getD 0 : Nat)) ∧ Below w.heap.size w w' := by
  have hmf : ∀ (fn : Fn) (first cap : Array Value) (w : World), (Instr.makeFunc fn first cap).run Tryz.prog w = .ok (.func fn first cap) w := fun _ _ _ _ => rfl
  have HK := k.back (fn := 174) (fun _ _ => rfl) (Q := begQ (chars x.s)) (P := P) (0) (mvBegins_any P x k.len _) h
  have y0 := h.s
  have y3 := h.f
  have y4 := h.t
  clear h k
  generalize backM x.s (begQ (chars x.s)) (0) x.a x.n = r at *
  go_enter Tryz.func140, Tryz.ntmps140
  go_wp2_with (go_at_call 171; refine (HK.out _ (Below.refl _ _)).mono ?_; rintro e w1 ⟨rfl, b1⟩)
  go_ret
  exact ⟨rfl, b1⟩
set_option maxHeartbeats 1000000 in
theorem mvWalk_rb (x : ScM) (k : ScOk x) (P : Nat) (w : World) (h : IsSc w P x) : Calls Tryz.prog 140 #[.pointer (some ⟨P, 0, none⟩), .int .i32 125] w fun e w' => e = .returned (.int .i64 ((onM x.s (emQ x.s) (x.s.length) x.a x.n).getD (x.s.length) : Nat)) ∧ Below w.heap.size w w' := by
  have hmf : ∀ (fn : Fn) (first cap : Array Value) (w : World), (Instr.makeFunc fn first cap).run Tryz.prog w = .ok (.func fn first cap) w := fun _ _ _ _ => rfl
  have HK := k.on (fn := 177) (fun _ _ => rfl) (Q := emQ x.s) (P := P) (lim := x.s.length) (Nat.le_refl _) (mvEmpty_any P x k.len _) h
  have y0 := h.s
  have y3 := h.f
  have y4 := h.t
  clear h k
  generalize onM x.s (emQ x.s) (x.s.length) x.a x.n = r at *
  go_enter Tryz.func140, Tryz.ntmps140
  go_wp2_with (go_at_call 173; refine (HK.out _ (Below.refl _ _)).mono ?_; rintro e w1 ⟨rfl, b1⟩)
  go_ret
  exact ⟨rfl, b1⟩
set_option maxHeartbeats 1000000 in
theorem mvWalk_lb (x : ScM) (k : ScOk x) (P : Nat) (w : World) (h : IsSc w P x) : Calls Tryz.prog 140 #[.pointer (some ⟨P, 0, none⟩), .int .i32 123] w fun e w' => e = .returned (.int .i64 ((backM x.s (emQ x.s) 0 x.a x.n).getD 0 : Nat)) ∧ Below w.heap.size w w' := by
  have hmf : ∀ (fn : Fn) (first cap : Array Value) (w : World), (Instr.makeFunc fn first cap).run Tryz.prog w = .ok (.func fn first cap) w := fun _ _ _ _ => rfl
  have HK := k.back (fn := 177) (fun _ _ => rfl) (Q := emQ x.s) (P := P) (0) (mvEmpty_any P x k.len _) h
  have y0 := h.s
  have y3 := h.f
  have y4 := h.t
  clear h k
  generalize backM x.s (emQ x.s) (0) x.a x.n = r at *
  go_enter Tryz.func140, Tryz.ntmps140
  go_wp2_with (go_at_call 171; refine (HK.out _ (Below.refl _ _)).mono ?_; rintro e w1 ⟨rfl, b1⟩)
  go_ret
  exact ⟨rfl, b1⟩
set_option maxHeartbeats 2000000 in
theorem mvWalk_e (x : ScM) (k : ScOk x) (P : Nat) (w : World) (h : IsSc w P x) : Calls Tryz.prog 140 #[.pointer (some ⟨P, 0, none⟩), .int .i32 101] w fun e w' => e = .returned (.int .i64 ((onM x.s (endQ (chars x.s)) (prevM x.s (x.s.length : Nat)) x.a x.n).getD (prevM x.s (x.s.length : Nat)) : Nat)) ∧ Below w.heap.size w w' := by
  have hmf : ∀ (fn : Fn) (first cap : Array Value) (w : World), (Instr.makeFunc fn first cap).run Tryz.prog w = .ok (.func fn first cap) w := fun _ _ _ _ => rfl
  have HK := k.on (fn := 176) (fun _ _ => rfl) (Q := endQ (chars x.s)) (P := P) (lim := prevM x.s (x.s.length : Nat)) (prevM_le _ _) (mvEnds_any P x k.len) h
  have HP : Hid (∀ wz, Below w.heap.size w wz → Calls Tryz.prog 175 #[.string ⟨x.s.toArray⟩, .int .i64 (x.s.length : Nat)] wz fun e w' => e = .returned (.int .i64 (prevM x.s (x.s.length : Nat) : Nat)) ∧ Below w.heap.size w w') := fun wz hb => (mvPrev_any x.s k.len x.s.length wz).mono fun e w' ⟨he, h2⟩ => ⟨he, hb.trans (h2.mono hb.size)⟩
  have KC : Hid (∀ wz, Below w.heap.size w wz → wz.cell? ⟨P, 0, none⟩ = some (.string ⟨x.s.toArray⟩)) := fun wz hb => (h.below hb).s
  clear h k
  generalize onM x.s (endQ (chars x.s)) (prevM x.s (x.s.length : Nat)) x.a x.n = r at *
  generalize prevM x.s (x.s.length : Nat) = l at *
  have hb0 : Below w.heap.size w w := Below.refl _ _
  go_enter Tryz.func140, Tryz.ntmps140
  go_upto_region 11 with fail
  go_region_held3 (fun w' => w'.cell? ⟨P, 0, none⟩ = some (.string ⟨x.s.toArray⟩))
    ((refine KC.out _ ?_; first | assumption | exact mv_dr hb0))
    (first
      | (go_at_call 175; refine (HP.out _ ?_).mono ?_; (first | assumption | exact mv_dr hb0); rintro e w1 ⟨rfl, hbx⟩)
      | (go_at_call 173; refine (HK.out _ ?_).mono ?_; (first | assumption | exact mv_dr hb0); rintro e w2 ⟨rfl, hby⟩))
  all_goals go_wp2_with fail
  all_goals go_ret
  all_goals exact ⟨rfl, hby⟩
set_option maxHeartbeats 1000000 in
theorem mvFind_f (x : ScM) (k : ScOk x) (P : Nat) (w : World) (h : IsSc w P x) : Calls Tryz.prog 143 #[.pointer (some ⟨P, 0, none⟩), .int .i32 102] w fun e w' => e = .returned (.tuple #[.int .i64 ((onM x.s (fun j => (((chars x.s).getD j (0, 0)).1 : Int) == x.g) x.t x.a x.n).getD x.t : Nat), .bool (onM x.s (fun j => (((chars x.s).getD j (0, 0)).1 : Int) == x.g) x.t x.a x.n).isSome]) ∧ Below w.heap.size w w' := by
  have hmf : ∀ (fn : Fn) (first cap : Array Value) (w : World), (Instr.makeFunc fn first cap).run Tryz.prog w = .ok (.func fn first cap) w := fun _ _ _ _ => rfl
  have HK := k.on (fn := 180) (fun _ _ => rfl) (Q := fun j => (((chars x.s).getD j (0, 0)).1 : Int) == x.g) (P := P) (lim := x.t) k.to_ (mvSought_any P x k.len _) h
  have y0 := h.s
  have y3 := h.f
  have y4 := h.t
  clear h k
  generalize onM x.s (fun j => (((chars x.s).getD j (0, 0)).1 : Int) == x.g) x.t x.a x.n = r at *
  go_enter Tryz.func143, Tryz.ntmps143
  go_wp2_with (go_at_call 173; refine (HK.out _ (Below.refl _ _)).mono ?_; rintro e w1 ⟨rfl, b1⟩)
  go_ret2
  exact ⟨rfl, b1⟩
set_option maxHeartbeats 1000000 in
theorem mvFind_t (x : ScM) (k : ScOk x) (P : Nat) (w : World) (h : IsSc w P x) : Calls Tryz.prog 143 #[.pointer (some ⟨P, 0, none⟩), .int .i32 116] w fun e w' => e = .returned (.tuple #[.int .i64 (prevM x.s (((onM x.s (fun j => (((chars x.s).getD j (0, 0)).1 : Int) == x.g) x.t x.a x.n).getD x.t : Nat) : Int) : Nat), .bool (onM x.s (fun j => (((chars x.s).getD j (0, 0)).1 : Int) == x.g) x.t x.a x.n).isSome]) ∧ Below w.heap.size w w' := by
  have hmf : ∀ (fn : Fn) (first cap : Array Value) (w : World), (Instr.makeFunc fn first cap).run Tryz.prog w = .ok (.func fn first cap) w := fun _ _ _ _ => rfl
  have HK := k.on (fn := 180) (fun _ _ => rfl) (Q := fun j => (((chars x.s).getD j (0, 0)).1 : Int) == x.g) (P := P) (lim := x.t) k.to_ (mvSought_any P x k.len _) h
  have HN := Lib.hid (fun p w => mvPrev_any x.s k.len p w)
  have HB : Hid (∀ wz, Below w.heap.size w wz → IsSc wz P x) := fun wz hb => h.below hb
  have y0 := h.s
  have y3 := h.f
  have y4 := h.t
  clear h k
  generalize onM x.s (fun j => (((chars x.s).getD j (0, 0)).1 : Int) == x.g) x.t x.a x.n = r at *
  generalize r.getD x.t = v at *
  go_enter Tryz.func143, Tryz.ntmps143
  go_wp2_with (first
    | (go_at_call 173; refine (HK.out _ (Below.refl _ _)).mono ?_; rintro e w1 ⟨rfl, b1⟩; have z0 := (HB.out _ b1).s)
    | (go_at_call 175; refine (HN.out v _).mono ?_; rintro e w2 ⟨rfl, b2⟩; replace b2 := b1.trans (b2.mono b1.size)))
  go_ret2
  exact ⟨rfl, b2⟩
set_option maxHeartbeats 1000000 in
theorem mvFind_F (x : ScM) (k : ScOk x) (P : Nat) (w : World) (h : IsSc w P x) : Calls Tryz.prog 143 #[.pointer (some ⟨P, 0, none⟩), .int .i32 70] w fun e w' => e = .returned (.tuple #[.int .i64 ((backM x.s (fun j => (((chars x.s).getD j (0, 0)).1 : Int) == x.g) x.f x.a x.n).getD x.f : Nat), .bool (backM x.s (fun j => (((chars x.s).getD j (0, 0)).1 : Int) == x.g) x.f x.a x.n).isSome]) ∧ Below w.heap.size w w' := by
  have hmf : ∀ (fn : Fn) (first cap : Array Value) (w : World), (Instr.makeFunc fn first cap).run Tryz.prog w = .ok (.func fn first cap) w := fun _ _ _ _ => rfl
  have HK := k.back (fn := 180) (fun _ _ => rfl) (Q := fun j => (((chars x.s).getD j (0, 0)).1 : Int) == x.g) (P := P) (x.f) (mvSought_any P x k.len _) h
  have y0 := h.s
  have y3 := h.f
  have y4 := h.t
  clear h k
  generalize backM x.s (fun j => (((chars x.s).getD j (0, 0)).1 : Int) == x.g) x.f x.a x.n = r at *
  go_enter Tryz.func143, Tryz.ntmps143
  go_wp2_with (go_at_call 171; refine (HK.out _ (Below.refl _ _)).mono ?_; rintro e w1 ⟨rfl, b1⟩)
  go_ret2
  exact ⟨rfl, b1⟩
set_option maxHeartbeats 1000000 in
theorem mvFind_T (x : ScM) (k : ScOk x) (P : Nat) (w : World) (h : IsSc w P x) : Calls Tryz.prog 143 #[.pointer (some ⟨P, 0, none⟩), .int .i32 84] w fun e w' => e = .returned (.tuple #[.int .i64 (nextM x.s (((backM x.s (fun j => (((chars x.s).getD j (0, 0)).1 : Int) == x.g) x.f x.a x.n).getD x.f : Nat) : Int) : Nat), .bool (backM x.s (fun j => (((chars x.s).getD j (0, 0)).1 : Int) == x.g) x.f x.a x.n).isSome]) ∧ Below w.heap.size w w' := by
  have hmf : ∀ (fn : Fn) (first cap : Array Value) (w : World), (Instr.makeFunc fn first cap).run Tryz.prog w = .ok (.func fn first cap) w := fun _ _ _ _ => rfl
  have HK := k.back (fn := 180) (fun _ _ => rfl) (Q := fun j => (((chars x.s).getD j (0, 0)).1 : Int) == x.g) (P := P) (x.f) (mvSought_any P x k.len _) h
  have HN := Lib.hid (fun p w => mvNext_any x.s k.len p w)
  have HB : Hid (∀ wz, Below w.heap.size w wz → IsSc wz P x) := fun wz hb => h.below hb
  have y0 := h.s
  have y3 := h.f
  have y4 := h.t
  clear h k
  generalize backM x.s (fun j => (((chars x.s).getD j (0, 0)).1 : Int) == x.g) x.f x.a x.n = r at *
  generalize r.getD x.f = v at *
  go_enter Tryz.func143, Tryz.ntmps143
  go_wp2_with (first
    | (go_at_call 171; refine (HK.out _ (Below.refl _ _)).mono ?_; rintro e w1 ⟨rfl, b1⟩; have z0 := (HB.out _ b1).s)
    | (go_at_call 42; refine (HN.out v _).mono ?_; rintro e w2 ⟨rfl, b2⟩; replace b2 := b1.trans (b2.mono b1.size)))
  go_ret2
  exact ⟨rfl, b2⟩
/-- the place in another line under the scanner's, or over it -/
def inLineR (x : ScM) (n : Int) : Option Nat := if 0 ≤ n ∧ n < (countL x.s : Int) then some (placeL x.s n (colM x.s (x.a : Nat) : Nat)) else none
theorem mvCol_any (S : List UInt8) (hs : S.length ≤ 1000000) (p : Int) (w : World) : Calls Tryz.prog 179 #[.string ⟨S.toArray⟩, .int .i64 p] w fun e w' => e = .returned (.int .i64 (colM S p : Nat)) ∧ Below w.heap.size w w' :=
  (linCol_any S hs p w).mono fun e w' ⟨i, he, hi, hb⟩ => ⟨by rw [he, hi.unique (which_is _ _)]; rfl, hb⟩
set_option maxHeartbeats 2000000 in
theorem mvInLine_any (x : ScM) (k : ScOk x) (P : Nat) (n : Int) (w : World) (h : IsSc w P x) : Calls Tryz.prog 141 #[.pointer (some ⟨P, 0, none⟩), .int .i64 n] w fun e w' => e = .returned (.tuple #[.int .i64 ((inLineR x n).getD 0 : Nat), .bool (inLineR x n).isSome]) ∧ Below w.heap.size w w' := by
  have HL := Lib.hid (fun w => linCount_any x.s k.len w)
  have HC : Hid (∀ wz, Below w.heap.size w wz → Calls Tryz.prog 179 #[.string ⟨x.s.toArray⟩, .int .i64 (x.a : Nat)] wz fun e w' => e = .returned (.int .i64 (colM x.s (x.a : Nat) : Nat)) ∧ Below w.heap.size w w') := fun wz hb => (mvCol_any x.s k.len (x.a : Nat) wz).mono fun e w' ⟨he, h2⟩ => ⟨he, hb.trans (h2.mono hb.size)⟩
  have HP : Hid (∀ wz, Below w.heap.size w wz → Calls Tryz.prog 178 #[.string ⟨x.s.toArray⟩, .int .i64 n, .int .i64 (colM x.s (x.a : Nat) : Nat)] wz fun e w' => e = .returned (.int .i64 (placeL x.s n (colM x.s (x.a : Nat) : Nat) : Nat)) ∧ Below w.heap.size w w') := fun wz hb => (linPlace_any x.s k.len n _ wz).mono fun e w' ⟨he, h2⟩ => ⟨he, hb.trans (h2.mono hb.size)⟩
  have KC : Hid (∀ wz, Below w.heap.size w wz → wz.cell? ⟨P, 0, none⟩ = some (.string ⟨x.s.toArray⟩) ∧ wz.cell? ⟨P, 1, none⟩ = some (.int .i64 (x.a : Nat))) := fun wz hb => ⟨(h.below hb).s, (h.below hb).a⟩
  have y0 := h.s
  clear h k
  have HR : Hid (inLineR x n = if 0 ≤ n ∧ n < (countL x.s : Int) then some (placeL x.s n (colM x.s (x.a : Nat) : Nat)) else none) := rfl
  generalize inLineR x n = r at *
  generalize placeL x.s n (colM x.s (x.a : Nat) : Nat) = pl at *
  generalize colM x.s (x.a : Nat) = cl at *
  generalize countL x.s = cn at *
  by_cases hn0 : n < 0
  · have HE : Hid (r = none) := by rw [Hid, HR.out, if_neg (by omega)]
    have e0 : decide (n < 0) = true := decide_eq_true hn0
    clear HR
    go_enter Tryz.func141, Tryz.ntmps141
    go_wp2_with fail
    go_ret2
    exact ⟨by rw [HE.out]; rfl, Below.refl _ _⟩
  · have e0 : decide (n < 0) = false := decide_eq_false hn0
    by_cases hn1 : n < (cn : Int)
    · have HE : Hid (r = some pl) := by rw [Hid, HR.out, if_pos ⟨by omega, hn1⟩]
      have e1 : decide ((cn : Int) ≤ n) = false := decide_eq_false (by omega)
      clear HR
      go_enter Tryz.func141, Tryz.ntmps141
      go_upto_region 3 with (go_at_call 162; refine (HL.out _).mono ?_; rintro e w1 ⟨rfl, hb0⟩)
      go_region_held3 (fun w' => w'.cell? ⟨P, 0, none⟩ = some (.string ⟨x.s.toArray⟩) ∧ w'.cell? ⟨P, 1, none⟩ = some (.int .i64 (x.a : Nat)))
        ((refine KC.out _ ?_; first | assumption | exact mv_dr hb0))
        (first
          | (go_at_call 179; refine (HC.out _ ?_).mono ?_; (first | assumption | exact mv_dr hb0); rintro e w2 ⟨rfl, hbx⟩)
          | (go_at_call 178; refine (HP.out _ ?_).mono ?_; (first | assumption | exact mv_dr hb0); rintro e w3 ⟨rfl, hby⟩))
      all_goals go_wp2_with fail
      all_goals go_ret2
      all_goals exact ⟨by rw [HE.out]; rfl, hby⟩
    · have HE : Hid (r = none) := by rw [Hid, HR.out, if_neg (by omega)]
      have e1 : decide ((cn : Int) ≤ n) = true := decide_eq_true (by omega)
      clear HR
      go_enter Tryz.func141, Tryz.ntmps141
      go_wp2_with (go_at_call 162; refine (HL.out _).mono ?_; rintro e w1 ⟨rfl, hb0⟩)
      go_ret2
      exact ⟨by rw [HE.out]; rfl, hb0⟩
end Go.Proofs.YtgpmfkedcoiopaaGreatDoor

/-
  Contracts of the landed package move: meant, scan.
-/
namespace Go.Proofs.YtgpmfkedcoiopaaGreatDoor
open Go.RowKit
set_option maxRecDepth 100000

def motC (k g c : Int) : Array Value := #[.int .i32 k, .int .i32 g, .int .i64 c]
/-- which line a count means -/
def meantM (S : List UInt8) (k c : Int) : Nat := if 1 ≤ c then min (c - 1).toNat (countL S - 1) else if k = 71 then countL S - 1 else 0
theorem mot_cells {w : World} {g T : Nat} {k a c : Int} (h : Blk w g T (motC k a c)) : w.cell? ⟨g, 0, none⟩ = some (.int .i32 k) ∧ w.cell? ⟨g, 1, none⟩ = some (.int .i32 a) ∧ w.cell? ⟨g, 2, none⟩ = some (.int .i64 c) := ⟨h.cell 0, h.cell 1, h.cell 2⟩
set_option maxHeartbeats 2000000 in
theorem mvMeant_any (x : ScM) (hS : x.s.length ≤ 1000000) (k g c : Int) (hc : -9223372036854775808 ≤ c ∧ c ≤ 9223372036854775807) (P : Nat) (w : World) (h : IsSc w P x) :
    Calls Tryz.prog 142 #[.pointer (some ⟨P, 0, none⟩), .agg #[.int .i32 k, .int .i32 g, .int .i64 c]] w fun e w' => e = .returned (.int .i64 (meantM x.s k c : Nat)) ∧ Below w.heap.size w w' := by
  have hcp := countL_pos x.s
  have hcl := countL_le x.s
  have HL := Lib.hid (fun w => linCount_any x.s hS w)
  have HR : Hid (meantM x.s k c = if 1 ≤ c then min (c - 1).toNat (countL x.s - 1) else if k = 71 then countL x.s - 1 else 0) := rfl
  generalize meantM x.s k c = r at *
  generalize hcn : countL x.s = cn at *
  clear hcn
  go_enter Tryz.func142, Tryz.ntmps142
  go_upto_region 1 with fail
  have B0 := Lib.hid ((Below.refl w.heap.size w).alloc (Nat.le_refl _) (.cells #[.int .i32 k, .int .i32 g, .int .i64 c] 73))
  have C0 := Lib.hid (Blk.new w 73 (motC k g c))
  change Hid (Blk (w.alloc (.cells #[.int .i32 k, .int .i32 g, .int .i64 c] 73)) w.heap.size 73 (motC k g c)) at C0
  have y0 := (h.below B0.out).s
  generalize w.alloc (.cells #[.int .i32 k, .int .i32 g, .int .i64 c] 73) = wb at *
  by_cases h1 : 1 ≤ c
  · have e1 : decide (1 ≤ c) = true := decide_eq_true h1
    by_cases h2 : c - 1 ≤ (cn : Int) - 1
    · have HE : Hid ((r : Int) = c - 1) := by rw [Hid, HR.out, if_pos h1]; omega
      clear HR
      go_wp2_with (go_at_call 162; refine (HL.out _).mono ?_; rintro e w1 ⟨rfl, b1⟩; obtain ⟨m0, m1, m2⟩ := mot_cells (C0.out.below b1 C0.out.lt))
      go_ret
      exact ⟨by rw [HE.out]; rfl, B0.out.trans (b1.mono B0.out.size)⟩
    · have HE : Hid ((r : Int) = (cn : Int) - 1) := by rw [Hid, HR.out, if_pos h1]; omega
      clear HR
      go_wp2_with (go_at_call 162; refine (HL.out _).mono ?_; rintro e w1 ⟨rfl, b1⟩; obtain ⟨m0, m1, m2⟩ := mot_cells (C0.out.below b1 C0.out.lt))
      go_ret
      exact ⟨by rw [HE.out]; rfl, B0.out.trans (b1.mono B0.out.size)⟩
  · have e1 : decide (1 ≤ c) = false := decide_eq_false h1
    by_cases hk : k = 71
    · have HE : Hid ((r : Int) = (cn : Int) - 1) := by rw [Hid, HR.out, if_neg h1, if_pos hk]; omega
      have e2 : (k == 71) = true := by rw [beq_iff_eq]; exact hk
      clear HR hk
      go_wp2_with (go_at_call 162; refine (HL.out _).mono ?_; rintro e w1 ⟨rfl, b1⟩; obtain ⟨m0, m1, m2⟩ := mot_cells (C0.out.below b1 C0.out.lt))
      go_ret
      exact ⟨by rw [HE.out]; rfl, B0.out.trans (b1.mono B0.out.size)⟩
    · have HE : Hid ((r : Int) = 0) := by rw [Hid, HR.out, if_neg h1, if_neg hk]; rfl
      have e2 : (k == 71) = false := by rw [beq_eq_false_iff_ne]; exact hk
      clear HR hk
      go_wp2_with (go_at_call 162; refine (HL.out _).mono ?_; rintro e w1 ⟨rfl, b1⟩; obtain ⟨m0, m1, m2⟩ := mot_cells (C0.out.below b1 C0.out.lt))
      go_ret
      exact ⟨by rw [HE.out]; rfl, B0.out.trans (b1.mono B0.out.size)⟩

theorem mv_al {a w : World} (h : Below a.heap.size a w) (o : Obj) : Below a.heap.size a (w.alloc o) := h.alloc h.size o
/-- the scanner of a motion -/
def scanX (S : List UInt8) (p g c : Int) : ScM := ⟨S, alignM S p, ofL S (alignM S p : Nat), (boundsL S (ofL S (alignM S p : Nat) : Nat)).1.1, (boundsL S (ofL S (alignM S p : Nat) : Nat)).1.2, manyM c, g⟩
theorem mvAlign_any (S : List UInt8) (hs : S.length ≤ 1000000) (p : Int) (w : World) : Calls Tryz.prog 40 #[.string ⟨S.toArray⟩, .int .i64 p] w fun e w' => e = .returned (.int .i64 (alignM S p : Nat)) ∧ Below w.heap.size w w' :=
  (glyAlign_any S p w hs).mono fun e w' ⟨i, he, hi, hb⟩ => ⟨by rw [he, hi.unique (which_is _ _)]; rfl, hb⟩
set_option maxHeartbeats 2000000 in
theorem mvScan_any (S : List UInt8) (hS : S.length ≤ 1000000) (p k g c : Int) (hc : -9223372036854775808 ≤ c ∧ c ≤ 9223372036854775807) (w : World) :
    Calls Tryz.prog 93 #[.string ⟨S.toArray⟩, .int .i64 p, .agg #[.int .i32 k, .int .i32 g, .int .i64 c]] w fun e w' => ∃ P, e = .returned (.pointer (some ⟨P, 0, none⟩)) ∧ IsSc w' P (scanX S p g c) ∧ Below w.heap.size w w' := by
  have HA : Hid (∀ wz, Below w.heap.size w wz → Calls Tryz.prog 40 #[.string ⟨S.toArray⟩, .int .i64 p] wz fun e w' => e = .returned (.int .i64 (alignM S p : Nat)) ∧ Below wz.heap.size wz w') := fun wz _ => mvAlign_any S hS p wz
  have HO := Lib.hid (fun w => linOf_any S hS (alignM S p : Nat) w)
  have HB := Lib.hid (fun w => linBounds_any S hS (ofL S (alignM S p : Nat) : Nat) w)
  have HX : Hid (scanX S p g c = ⟨S, alignM S p, ofL S (alignM S p : Nat), (boundsL S (ofL S (alignM S p : Nat) : Nat)).1.1, (boundsL S (ofL S (alignM S p : Nat) : Nat)).1.2, manyM c, g⟩) := rfl
  generalize scanX S p g c = x at *
  generalize boundsL S (ofL S (alignM S p : Nat) : Nat) = bo at *
  obtain ⟨⟨f, t⟩, o⟩ := bo
  generalize ofL S (alignM S p : Nat) = q at *
  generalize alignM S p = a at *
  unfold Gives3 at HB
  dsimp only at HB HX
  go_enter Tryz.func93, Tryz.ntmps93
  go_upto_region 1 with fail
  have B0 := Lib.hid ((Below.refl w.heap.size w).alloc (Nat.le_refl _) (.cells #[.int .i32 k, .int .i32 g, .int .i64 c] 73))
  have C0 := Lib.hid (Blk.new w 73 (motC k g c))
  change Hid (Blk (w.alloc (.cells #[.int .i32 k, .int .i32 g, .int .i64 c] 73)) w.heap.size 73 (motC k g c)) at C0
  generalize w.alloc (.cells #[.int .i32 k, .int .i32 g, .int .i64 c] 73) = wb at *
  have HM : Hid (∀ wz, Below wb.heap.size wb wz → wz.cell? ⟨w.heap.size, 0, none⟩ = some (.int .i32 k) ∧ wz.cell? ⟨w.heap.size, 1, none⟩ = some (.int .i32 g) ∧ wz.cell? ⟨w.heap.size, 2, none⟩ = some (.int .i64 c)) := fun wz hb => mot_cells (C0.out.below hb C0.out.lt)
  have KG : Hid (∀ wz, Below wb.heap.size wb wz → wz.cell? ⟨w.heap.size, 1, none⟩ = some (.int .i32 g)) := fun wz hb => (HM.out wz hb).2.1
  have ZB := Lib.hid C0.out.lt
  have hb0 : Below wb.heap.size wb wb := Below.refl _ _
  have HA2 : Hid (∀ wz, Below wb.heap.size wb wz → Calls Tryz.prog 40 #[.string ⟨S.toArray⟩, .int .i64 p] wz fun e w' => e = .returned (.int .i64 (a : Nat)) ∧ Below wb.heap.size wb w') := fun wz hb => (HA.out wz (B0.out.trans (hb.mono B0.out.size))).mono fun e w' ⟨he, h2⟩ => ⟨he, hb.trans (h2.mono hb.size)⟩
  clear HA
  go_cut [7] (fun s7 wx => ∃ P, s7 = .pointer (some ⟨P, 0, none⟩) ∧ Hid (Blk wx P 145 #[.string ⟨S.toArray⟩, .int .i64 (a : Nat), .int .i64 0, .int .i64 0, .int .i64 0, .int .i64 0, .int .i32 g]) ∧ Hid (wb.heap.size ≤ P) ∧ Hid (Below wb.heap.size wb wx))
  case first =>
    go_region_held3 (fun w' => w'.cell? ⟨w.heap.size, 1, none⟩ = some (.int .i32 g))
      ((refine KG.out _ ?_; first | assumption | exact mv_dr hb0 | (refine mv_al ?_ _; assumption)))
      (first
        | (go_at_call 40; refine (HA2.out _ ?_).mono ?_; (first | assumption | exact mv_dr hb0); rintro e w2 ⟨rfl, hbx⟩))
    all_goals go_wp2_with fail
    all_goals go_meet
    all_goals exact ⟨_, rfl, Blk.new _ _ _, hbx.size, hbx.alloc hbx.size _⟩
  case rest =>
    obtain ⟨P, rfl, CP, ZP, BX⟩ := hcut
    have hzw : Hid (w.heap.size < P) := by
      have := ZB.out
      have := ZP.out
      show _ < _
      omega
    go_upto_region 2 with fail
    go_cut [7] (fun s7 wx => s7 = .pointer (some ⟨P, 0, none⟩) ∧ Hid (Blk wx P 145 #[.string ⟨S.toArray⟩, .int .i64 (a : Nat), .int .i64 0, .int .i64 0, .int .i64 0, .int .i64 (manyM c : Nat), .int .i32 g]) ∧ Hid (Below wb.heap.size wb wx))
    case first =>
      have m2 := (HM.out _ BX.out).2.2
      have hf5 := CP.out.frozen 5
      have y5 : wc.cell? ⟨P, 5, none⟩ = some (.int .i64 0) := CP.out.cell 5
      have BY := fun v => BX.out.setCell (p := ⟨P, 5, none⟩) ZP.out v
      have CY : Hid (∀ v : Value, v = .int .i64 (manyM c : Nat) → Blk (wc.setCell ⟨P, 5, none⟩ v) P 145 #[.string ⟨S.toArray⟩, .int .i64 (a : Nat), .int .i64 0, .int .i64 0, .int .i64 0, .int .i64 (manyM c : Nat), .int .i32 g]) := fun v hv => by
        subst hv
        exact CP.out.set_ 5 _
      replace BY := Lib.hid BY
      by_cases h1 : c < 1
      · have e1 : Hid (((manyM c : Nat) : Int) = 1) := by unfold manyM; show _ = _; omega
        go_wp2_with fail
        go_meet
        exact ⟨rfl, CY.out _ (by rw [e1.out]), BY.out _⟩
      · by_cases h2 : 999 < c
        · have e1 : Hid (((manyM c : Nat) : Int) = 999) := by unfold manyM; show _ = _; omega
          go_wp2_with fail
          go_meet
          exact ⟨rfl, CY.out _ (by rw [e1.out]), BY.out _⟩
        · have e1 : Hid (((manyM c : Nat) : Int) = c) := by unfold manyM; show _ = _; omega
          go_wp2_with fail
          go_meet
          exact ⟨rfl, CY.out _ (by rw [e1.out]), BY.out _⟩
    case rest =>
      obtain ⟨rfl, C2, B2⟩ := hcut
      clear BX CP
      generalize manyM c = n at *
      have y1 : wc.cell? ⟨P, 1, none⟩ = some (.int .i64 (a : Nat)) := C2.out.cell 1
      go_upto_region 4 with (go_at_call 41; refine (HO.out _).mono ?_; rintro e w1 ⟨rfl, b1⟩; have C3 := C2.out.below b1 C2.out.lt; have y2 : w1.cell? ⟨P, 2, none⟩ = some (.int .i64 0) := C3.cell 2; have f2 := C3.frozen 2; have C4 := Lib.hid (C3.set_ 2 (.int .i64 (q : Nat))); have B4 := Lib.hid ((B2.out.trans (b1.mono B2.out.size)).setCell (p := ⟨P, 2, none⟩) ZP.out (.int .i64 (q : Nat))); clear C3)
      clear y1 y2 f2 B2 C2 b1
      generalize w1.setCell ⟨P, 2, none⟩ (.int .i64 (q : Nat)) = wd at *
      replace C4 : Hid (Blk wd P 145 #[.string ⟨S.toArray⟩, .int .i64 (a : Nat), .int .i64 (q : Nat), .int .i64 0, .int .i64 0, .int .i64 (n : Nat), .int .i32 g]) := C4
      have y2 : wd.cell? ⟨P, 2, none⟩ = some (.int .i64 (q : Nat)) := C4.out.cell 2
      go_wp2_with (go_at_call 64; refine (HB.out _).mono ?_; rintro e w2 ⟨rfl, b2⟩; have C5 := C4.out.below b2 C4.out.lt; have y3 : w2.cell? ⟨P, 3, none⟩ = some (.int .i64 0) := C5.cell 3; have y4 : w2.cell? ⟨P, 4, none⟩ = some (.int .i64 0) := C5.cell 4; have f3 := C5.frozen 3; have f4 := C5.frozen 4; have C6 := Lib.hid ((C5.set_ 3 (.int .i64 (f : Nat))).set_ 4 (.int .i64 (t : Nat))); have B6 := Lib.hid (((B4.out.trans (b2.mono B4.out.size)).setCell (p := ⟨P, 3, none⟩) ZP.out (.int .i64 (f : Nat))).setCell (p := ⟨P, 4, none⟩) ZP.out (.int .i64 (t : Nat))); clear C5)
      go_ret
      refine ⟨P, rfl, ?_, B0.out.trans (B6.out.mono B0.out.size)⟩
      rw [HX.out]
      exact C6.out
end Go.Proofs.YtgpmfkedcoiopaaGreatDoor

/-
  Contracts of the landed package move: goal.
-/
namespace Go.Proofs.YtgpmfkedcoiopaaGreatDoor
open Go.RowKit
set_option maxRecDepth 100000

theorem mv_in {A : World} {fn : Nat} {args : Array Value} {V : Value} (h : ∀ wz, Below A.heap.size A wz → Calls Tryz.prog fn args wz fun e w' => e = .returned V ∧ Below wz.heap.size wz w') :
    Hid (∀ wz, Below A.heap.size A wz → Calls Tryz.prog fn args wz fun e w' => e = .returned V ∧ Below A.heap.size A w') := fun wz hb => (h wz hb).mono fun _e _w' ⟨he, h2⟩ => ⟨he, hb.trans (h2.mono hb.size)⟩
set_option maxRecDepth 100000 in
set_option maxHeartbeats 2000000 in
theorem mvGoal_h (x : ScM) (k : ScOk x) (P : Nat) (g c : Int) (_hc : -9223372036854775808 ≤ c ∧ c ≤ 9223372036854775807) (w : World) (h : IsSc w P x) :
    Calls Tryz.prog 94 #[.pointer (some ⟨P, 0, none⟩), .agg #[.int .i32 104, .int .i32 g, .int .i64 c]] w fun e w' => e = .returned (.tuple #[.int .i64 ((backM x.s (fun _ => true) (x.f) x.a x.n).getD (x.f) : Nat), .int .i64 0, .bool true]) ∧ Below w.heap.size w w' := by
  have HW := Lib.hid (fun wz (hz : IsSc wz P x) => mvWalk_h x k P wz hz)
  clear k
  generalize (backM x.s (fun _ => true) (x.f) x.a x.n).getD (x.f) = v at *
  go_enter Tryz.func94, Tryz.ntmps94
  go_upto_region 1 with fail
  have B0 := Lib.hid ((Below.refl w.heap.size w).alloc (Nat.le_refl _) (.cells #[.int .i32 104, .int .i32 g, .int .i64 c] 73))
  have C0 := Lib.hid (Blk.new w 73 (motC 104 g c))
  change Hid (Blk (w.alloc (.cells #[.int .i32 104, .int .i32 g, .int .i64 c] 73)) w.heap.size 73 (motC 104 g c)) at C0
  generalize w.alloc (.cells #[.int .i32 104, .int .i32 g, .int .i64 c] 73) = wb at *
  have HS : Hid (∀ wz, Below wb.heap.size wb wz → IsSc wz P x) := fun wz hb => h.below (B0.out.trans (hb.mono B0.out.size))
  have HM : Hid (∀ wz, Below wb.heap.size wb wz → wz.cell? ⟨w.heap.size, 0, none⟩ = some (.int .i32 104) ∧ wz.cell? ⟨w.heap.size, 1, none⟩ = some (.int .i32 g) ∧ wz.cell? ⟨w.heap.size, 2, none⟩ = some (.int .i64 c)) := fun wz hb => mot_cells (C0.out.below hb C0.out.lt)
  have hb0 : Below wb.heap.size wb wb := Below.refl _ _
  clear C0 h
  obtain ⟨m0, m1, m2⟩ := HM.out _ hb0
  go_wp2_with (go_at_call 140; refine (HW.out _ (HS.out _ hb0)).mono ?_; rintro e w1 ⟨rfl, b1⟩)
  go_ret3
  exact ⟨rfl, B0.out.trans (b1.mono B0.out.size)⟩
set_option maxRecDepth 100000 in
set_option maxHeartbeats 2000000 in
theorem mvGoal_l (x : ScM) (k : ScOk x) (P : Nat) (g c : Int) (_hc : -9223372036854775808 ≤ c ∧ c ≤ 9223372036854775807) (w : World) (h : IsSc w P x) :
    Calls Tryz.prog 94 #[.pointer (some ⟨P, 0, none⟩), .agg #[.int .i32 108, .int .i32 g, .int .i64 c]] w fun e w' => e = .returned (.tuple #[.int .i64 ((onM x.s (fun _ => true) (x.t) x.a x.n).getD (x.t) : Nat), .int .i64 0, .bool true]) ∧ Below w.heap.size w w' := by
  have HW := Lib.hid (fun wz (hz : IsSc wz P x) => mvWalk_l x k P wz hz)
  clear k
  generalize (onM x.s (fun _ => true) (x.t) x.a x.n).getD (x.t) = v at *
  go_enter Tryz.func94, Tryz.ntmps94
  go_upto_region 1 with fail
  have B0 := Lib.hid ((Below.refl w.heap.size w).alloc (Nat.le_refl _) (.cells #[.int .i32 108, .int .i32 g, .int .i64 c] 73))
  have C0 := Lib.hid (Blk.new w 73 (motC 108 g c))
  change Hid (Blk (w.alloc (.cells #[.int .i32 108, .int .i32 g, .int .i64 c] 73)) w.heap.size 73 (motC 108 g c)) at C0
  generalize w.alloc (.cells #[.int .i32 108, .int .i32 g, .int .i64 c] 73) = wb at *
  have HS : Hid (∀ wz, Below wb.heap.size wb wz → IsSc wz P x) := fun wz hb => h.below (B0.out.trans (hb.mono B0.out.size))
  have HM : Hid (∀ wz, Below wb.heap.size wb wz → wz.cell? ⟨w.heap.size, 0, none⟩ = some (.int .i32 108) ∧ wz.cell? ⟨w.heap.size, 1, none⟩ = some (.int .i32 g) ∧ wz.cell? ⟨w.heap.size, 2, none⟩ = some (.int .i64 c)) := fun wz hb => mot_cells (C0.out.below hb C0.out.lt)
  have hb0 : Below wb.heap.size wb wb := Below.refl _ _
  clear C0 h
  obtain ⟨m0, m1, m2⟩ := HM.out _ hb0
  go_wp2_with (go_at_call 140; refine (HW.out _ (HS.out _ hb0)).mono ?_; rintro e w1 ⟨rfl, b1⟩)
  go_ret3
  exact ⟨rfl, B0.out.trans (b1.mono B0.out.size)⟩
set_option maxRecDepth 100000 in
set_option maxHeartbeats 2000000 in
theorem mvGoal_w (x : ScM) (k : ScOk x) (P : Nat) (g c : Int) (_hc : -9223372036854775808 ≤ c ∧ c ≤ 9223372036854775807) (w : World) (h : IsSc w P x) :
    Calls Tryz.prog 94 #[.pointer (some ⟨P, 0, none⟩), .agg #[.int .i32 119, .int .i32 g, .int .i64 c]] w fun e w' => e = .returned (.tuple #[.int .i64 ((onM x.s (begQ (chars x.s)) (x.s.length) x.a x.n).getD (x.s.length) : Nat), .int .i64 0, .bool true]) ∧ Below w.heap.size w w' := by
  have HW := Lib.hid (fun wz (hz : IsSc wz P x) => mvWalk_w x k P wz hz)
  clear k
  generalize (onM x.s (begQ (chars x.s)) (x.s.length) x.a x.n).getD (x.s.length) = v at *
  go_enter Tryz.func94, Tryz.ntmps94
  go_upto_region 1 with fail
  have B0 := Lib.hid ((Below.refl w.heap.size w).alloc (Nat.le_refl _) (.cells #[.int .i32 119, .int .i32 g, .int .i64 c] 73))
  have C0 := Lib.hid (Blk.new w 73 (motC 119 g c))
  change Hid (Blk (w.alloc (.cells #[.int .i32 119, .int .i32 g, .int .i64 c] 73)) w.heap.size 73 (motC 119 g c)) at C0
  generalize w.alloc (.cells #[.int .i32 119, .int .i32 g, .int .i64 c] 73) = wb at *
  have HS : Hid (∀ wz, Below wb.heap.size wb wz → IsSc wz P x) := fun wz hb => h.below (B0.out.trans (hb.mono B0.out.size))
  have HM : Hid (∀ wz, Below wb.heap.size wb wz → wz.cell? ⟨w.heap.size, 0, none⟩ = some (.int .i32 119) ∧ wz.cell? ⟨w.heap.size, 1, none⟩ = some (.int .i32 g) ∧ wz.cell? ⟨w.heap.size, 2, none⟩ = some (.int .i64 c)) := fun wz hb => mot_cells (C0.out.below hb C0.out.lt)
  have hb0 : Below wb.heap.size wb wb := Below.refl _ _
  clear C0 h
  obtain ⟨m0, m1, m2⟩ := HM.out _ hb0
  go_wp2_with (go_at_call 140; refine (HW.out _ (HS.out _ hb0)).mono ?_; rintro e w1 ⟨rfl, b1⟩)
  go_ret3
  exact ⟨rfl, B0.out.trans (b1.mono B0.out.size)⟩
set_option maxRecDepth 100000 in
set_option maxHeartbeats 2000000 in
theorem mvGoal_b (x : ScM) (k : ScOk x) (P : Nat) (g c : Int) (_hc : -9223372036854775808 ≤ c ∧ c ≤ 9223372036854775807) (w : World) (h : IsSc w P x) :
    Calls Tryz.prog 94 #[.pointer (some ⟨P, 0, none⟩), .agg #[.int .i32 98, .int .i32 g, .int .i64 c]] w fun e w' => e = .returned (.tuple #[.int .i64 ((backM x.s (begQ (chars x.s)) 0 x.a x.n).getD 0 : Nat), .int .i64 0, .bool true]) ∧ Below w.heap.size w w' := by
  have HW := Lib.hid (fun wz (hz : IsSc wz P x) => mvWalk_b x k P wz hz)
  clear k
  generalize (backM x.s (begQ (chars x.s)) 0 x.a x.n).getD 0 = v at *
  go_enter Tryz.func94, Tryz.ntmps94
  go_upto_region 1 with fail
  have B0 := Lib.hid ((Below.refl w.heap.size w).alloc (Nat.le_refl _) (.cells #[.int .i32 98, .int .i32 g, .int .i64 c] 73))
  have C0 := Lib.hid (Blk.new w 73 (motC 98 g c))
  change Hid (Blk (w.alloc (.cells #[.int .i32 98, .int .i32 g, .int .i64 c] 73)) w.heap.size 73 (motC 98 g c)) at C0
  generalize w.alloc (.cells #[.int .i32 98, .int .i32 g, .int .i64 c] 73) = wb at *
  have HS : Hid (∀ wz, Below wb.heap.size wb wz → IsSc wz P x) := fun wz hb => h.below (B0.out.trans (hb.mono B0.out.size))
  have HM : Hid (∀ wz, Below wb.heap.size wb wz → wz.cell? ⟨w.heap.size, 0, none⟩ = some (.int .i32 98) ∧ wz.cell? ⟨w.heap.size, 1, none⟩ = some (.int .i32 g) ∧ wz.cell? ⟨w.heap.size, 2, none⟩ = some (.int .i64 c)) := fun wz hb => mot_cells (C0.out.below hb C0.out.lt)
  have hb0 : Below wb.heap.size wb wb := Below.refl _ _
  clear C0 h
  obtain ⟨m0, m1, m2⟩ := HM.out _ hb0
  go_wp2_with (go_at_call 140; refine (HW.out _ (HS.out _ hb0)).mono ?_; rintro e w1 ⟨rfl, b1⟩)
  go_ret3
  exact ⟨rfl, B0.out.trans (b1.mono B0.out.size)⟩
set_option maxRecDepth 100000 in
set_option maxHeartbeats 2000000 in
theorem mvGoal_rb (x : ScM) (k : ScOk x) (P : Nat) (g c : Int) (_hc : -9223372036854775808 ≤ c ∧ c ≤ 9223372036854775807) (w : World) (h : IsSc w P x) :
    Calls Tryz.prog 94 #[.pointer (some ⟨P, 0, none⟩), .agg #[.int .i32 125, .int .i32 g, .int .i64 c]] w fun e w' => e = .returned (.tuple #[.int .i64 ((onM x.s (emQ x.s) (x.s.length) x.a x.n).getD (x.s.length) : Nat), .int .i64 0, .bool true]) ∧ Below w.heap.size w w' := by
  have HW := Lib.hid (fun wz (hz : IsSc wz P x) => mvWalk_rb x k P wz hz)
  clear k
  generalize (onM x.s (emQ x.s) (x.s.length) x.a x.n).getD (x.s.length) = v at *
  go_enter Tryz.func94, Tryz.ntmps94
  go_upto_region 1 with fail
  have B0 := Lib.hid ((Below.refl w.heap.size w).alloc (Nat.le_refl _) (.cells #[.int .i32 125, .int .i32 g, .int .i64 c] 73))
  have C0 := Lib.hid (Blk.new w 73 (motC 125 g c))
  change Hid (Blk (w.alloc (.cells #[.int .i32 125, .int .i32 g, .int .i64 c] 73)) w.heap.size 73 (motC 125 g c)) at C0
  generalize w.alloc (.cells #[.int .i32 125, .int .i32 g, .int .i64 c] 73) = wb at *
  have HS : Hid (∀ wz, Below wb.heap.size wb wz → IsSc wz P x) := fun wz hb => h.below (B0.out.trans (hb.mono B0.out.size))
  have HM : Hid (∀ wz, Below wb.heap.size wb wz → wz.cell? ⟨w.heap.size, 0, none⟩ = some (.int .i32 125) ∧ wz.cell? ⟨w.heap.size, 1, none⟩ = some (.int .i32 g) ∧ wz.cell? ⟨w.heap.size, 2, none⟩ = some (.int .i64 c)) := fun wz hb => mot_cells (C0.out.below hb C0.out.lt)
  have hb0 : Below wb.heap.size wb wb := Below.refl _ _
  clear C0 h
  obtain ⟨m0, m1, m2⟩ := HM.out _ hb0
  go_wp2_with (go_at_call 140; refine (HW.out _ (HS.out _ hb0)).mono ?_; rintro e w1 ⟨rfl, b1⟩)
  go_ret3
  exact ⟨rfl, B0.out.trans (b1.mono B0.out.size)⟩
set_option maxRecDepth 100000 in
set_option maxHeartbeats 2000000 in
theorem mvGoal_lb (x : ScM) (k : ScOk x) (P : Nat) (g c : Int) (_hc : -9223372036854775808 ≤ c ∧ c ≤ 9223372036854775807) (w : World) (h : IsSc w P x) :
    Calls Tryz.prog 94 #[.pointer (some ⟨P, 0, none⟩), .agg #[.int .i32 123, .int .i32 g, .int .i64 c]] w fun e w' => e = .returned (.tuple #[.int .i64 ((backM x.s (emQ x.s) 0 x.a x.n).getD 0 : Nat), .int .i64 0, .bool true]) ∧ Below w.heap.size w w' := by
  have HW := Lib.hid (fun wz (hz : IsSc wz P x) => mvWalk_lb x k P wz hz)
  clear k
  generalize (backM x.s (emQ x.s) 0 x.a x.n).getD 0 = v at *
  go_enter Tryz.func94, Tryz.ntmps94
  go_upto_region 1 with fail
  have B0 := Lib.hid ((Below.refl w.heap.size w).alloc (Nat.le_refl _) (.cells #[.int .i32 123, .int .i32 g, .int .i64 c] 73))
  have C0 := Lib.hid (Blk.new w 73 (motC 123 g c))
  change Hid (Blk (w.alloc (.cells #[.int .i32 123, .int .i32 g, .int .i64 c] 73)) w.heap.size 73 (motC 123 g c)) at C0
  generalize w.alloc (.cells #[.int .i32 123, .int .i32 g, .int .i64 c] 73) = wb at *
  have HS : Hid (∀ wz, Below wb.heap.size wb wz → IsSc wz P x) := fun wz hb => h.below (B0.out.trans (hb.mono B0.out.size))
  have HM : Hid (∀ wz, Below wb.heap.size wb wz → wz.cell? ⟨w.heap.size, 0, none⟩ = some (.int .i32 123) ∧ wz.cell? ⟨w.heap.size, 1, none⟩ = some (.int .i32 g) ∧ wz.cell? ⟨w.heap.size, 2, none⟩ = some (.int .i64 c)) := fun wz hb => mot_cells (C0.out.below hb C0.out.lt)
  have hb0 : Below wb.heap.size wb wb := Below.refl _ _
  clear C0 h
  obtain ⟨m0, m1, m2⟩ := HM.out _ hb0
  go_wp2_with (go_at_call 140; refine (HW.out _ (HS.out _ hb0)).mono ?_; rintro e w1 ⟨rfl, b1⟩)
  go_ret3
  exact ⟨rfl, B0.out.trans (b1.mono B0.out.size)⟩
set_option maxRecDepth 100000 in
set_option maxHeartbeats 2000000 in
theorem mvGoal_e (x : ScM) (k : ScOk x) (P : Nat) (g c : Int) (_hc : -9223372036854775808 ≤ c ∧ c ≤ 9223372036854775807) (w : World) (h : IsSc w P x) :
    Calls Tryz.prog 94 #[.pointer (some ⟨P, 0, none⟩), .agg #[.int .i32 101, .int .i32 g, .int .i64 c]] w fun e w' => e = .returned (.tuple #[.int .i64 ((onM x.s (endQ (chars x.s)) (prevM x.s (x.s.length : Nat)) x.a x.n).getD (prevM x.s (x.s.length : Nat)) : Nat), .int .i64 1, .bool true]) ∧ Below w.heap.size w w' := by
  have HW := Lib.hid (fun wz (hz : IsSc wz P x) => mvWalk_e x k P wz hz)
  clear k
  generalize (onM x.s (endQ (chars x.s)) (prevM x.s (x.s.length : Nat)) x.a x.n).getD (prevM x.s (x.s.length : Nat)) = v at *
  go_enter Tryz.func94, Tryz.ntmps94
  go_upto_region 1 with fail
  have B0 := Lib.hid ((Below.refl w.heap.size w).alloc (Nat.le_refl _) (.cells #[.int .i32 101, .int .i32 g, .int .i64 c] 73))
  have C0 := Lib.hid (Blk.new w 73 (motC 101 g c))
  change Hid (Blk (w.alloc (.cells #[.int .i32 101, .int .i32 g, .int .i64 c] 73)) w.heap.size 73 (motC 101 g c)) at C0
  generalize w.alloc (.cells #[.int .i32 101, .int .i32 g, .int .i64 c] 73) = wb at *
  have HS : Hid (∀ wz, Below wb.heap.size wb wz → IsSc wz P x) := fun wz hb => h.below (B0.out.trans (hb.mono B0.out.size))
  have HM : Hid (∀ wz, Below wb.heap.size wb wz → wz.cell? ⟨w.heap.size, 0, none⟩ = some (.int .i32 101) ∧ wz.cell? ⟨w.heap.size, 1, none⟩ = some (.int .i32 g) ∧ wz.cell? ⟨w.heap.size, 2, none⟩ = some (.int .i64 c)) := fun wz hb => mot_cells (C0.out.below hb C0.out.lt)
  have hb0 : Below wb.heap.size wb wb := Below.refl _ _
  clear C0 h
  obtain ⟨m0, m1, m2⟩ := HM.out _ hb0
  go_wp2_with (go_at_call 140; refine (HW.out _ (HS.out _ hb0)).mono ?_; rintro e w1 ⟨rfl, b1⟩)
  go_ret3
  exact ⟨rfl, B0.out.trans (b1.mono B0.out.size)⟩
set_option maxRecDepth 100000 in
set_option maxHeartbeats 2000000 in
theorem mvGoal_z (x : ScM) (_k : ScOk x) (P : Nat) (g c : Int) (_hc : -9223372036854775808 ≤ c ∧ c ≤ 9223372036854775807) (w : World) (h : IsSc w P x) :
    Calls Tryz.prog 94 #[.pointer (some ⟨P, 0, none⟩), .agg #[.int .i32 48, .int .i32 g, .int .i64 c]] w fun e w' => e = .returned (.tuple #[.int .i64 (x.f : Nat), .int .i64 0, .bool true]) ∧ Below w.heap.size w w' := by

  go_enter Tryz.func94, Tryz.ntmps94
  go_upto_region 1 with fail
  have B0 := Lib.hid ((Below.refl w.heap.size w).alloc (Nat.le_refl _) (.cells #[.int .i32 48, .int .i32 g, .int .i64 c] 73))
  have C0 := Lib.hid (Blk.new w 73 (motC 48 g c))
  change Hid (Blk (w.alloc (.cells #[.int .i32 48, .int .i32 g, .int .i64 c] 73)) w.heap.size 73 (motC 48 g c)) at C0
  generalize w.alloc (.cells #[.int .i32 48, .int .i32 g, .int .i64 c] 73) = wb at *
  have HS : Hid (∀ wz, Below wb.heap.size wb wz → IsSc wz P x) := fun wz hb => h.below (B0.out.trans (hb.mono B0.out.size))
  have HM : Hid (∀ wz, Below wb.heap.size wb wz → wz.cell? ⟨w.heap.size, 0, none⟩ = some (.int .i32 48) ∧ wz.cell? ⟨w.heap.size, 1, none⟩ = some (.int .i32 g) ∧ wz.cell? ⟨w.heap.size, 2, none⟩ = some (.int .i64 c)) := fun wz hb => mot_cells (C0.out.below hb C0.out.lt)
  have hb0 : Below wb.heap.size wb wb := Below.refl _ _
  clear C0 h
  obtain ⟨m0, m1, m2⟩ := HM.out _ hb0
  have y3 := (HS.out _ hb0).f
  go_wp2_with fail
  go_ret3
  exact ⟨rfl, B0.out.trans (hb0.mono B0.out.size)⟩
set_option maxRecDepth 100000 in
set_option maxHeartbeats 2000000 in
theorem mvGoal_ff (x : ScM) (k : ScOk x) (P : Nat) (g c : Int) (_hc : -9223372036854775808 ≤ c ∧ c ≤ 9223372036854775807) (w : World) (h : IsSc w P x) :
    Calls Tryz.prog 94 #[.pointer (some ⟨P, 0, none⟩), .agg #[.int .i32 102, .int .i32 g, .int .i64 c]] w fun e w' => e = .returned (.tuple #[.int .i64 ((onM x.s (fun j => (((chars x.s).getD j (0, 0)).1 : Int) == x.g) x.t x.a x.n).getD x.t : Nat), .int .i64 1, .bool (onM x.s (fun j => (((chars x.s).getD j (0, 0)).1 : Int) == x.g) x.t x.a x.n).isSome]) ∧ Below w.heap.size w w' := by
  have HW := Lib.hid (fun wz (hz : IsSc wz P x) => mvFind_f x k P wz hz)
  clear k
  generalize (onM x.s (fun j => (((chars x.s).getD j (0, 0)).1 : Int) == x.g) x.t x.a x.n).getD x.t = v at *
  generalize (onM x.s (fun j => (((chars x.s).getD j (0, 0)).1 : Int) == x.g) x.t x.a x.n).isSome = u at *
  go_enter Tryz.func94, Tryz.ntmps94
  go_upto_region 1 with fail
  have B0 := Lib.hid ((Below.refl w.heap.size w).alloc (Nat.le_refl _) (.cells #[.int .i32 102, .int .i32 g, .int .i64 c] 73))
  have C0 := Lib.hid (Blk.new w 73 (motC 102 g c))
  change Hid (Blk (w.alloc (.cells #[.int .i32 102, .int .i32 g, .int .i64 c] 73)) w.heap.size 73 (motC 102 g c)) at C0
  generalize w.alloc (.cells #[.int .i32 102, .int .i32 g, .int .i64 c] 73) = wb at *
  have HS : Hid (∀ wz, Below wb.heap.size wb wz → IsSc wz P x) := fun wz hb => h.below (B0.out.trans (hb.mono B0.out.size))
  have HM : Hid (∀ wz, Below wb.heap.size wb wz → wz.cell? ⟨w.heap.size, 0, none⟩ = some (.int .i32 102) ∧ wz.cell? ⟨w.heap.size, 1, none⟩ = some (.int .i32 g) ∧ wz.cell? ⟨w.heap.size, 2, none⟩ = some (.int .i64 c)) := fun wz hb => mot_cells (C0.out.below hb C0.out.lt)
  have hb0 : Below wb.heap.size wb wb := Below.refl _ _
  clear C0 h
  obtain ⟨m0, m1, m2⟩ := HM.out _ hb0
  go_wp2_with (go_at_call 143; refine (HW.out _ (HS.out _ hb0)).mono ?_; rintro e w1 ⟨rfl, b1⟩)
  go_ret3
  exact ⟨rfl, B0.out.trans (b1.mono B0.out.size)⟩
set_option maxRecDepth 100000 in
set_option maxHeartbeats 2000000 in
theorem mvGoal_ft (x : ScM) (k : ScOk x) (P : Nat) (g c : Int) (_hc : -9223372036854775808 ≤ c ∧ c ≤ 9223372036854775807) (w : World) (h : IsSc w P x) :
    Calls Tryz.prog 94 #[.pointer (some ⟨P, 0, none⟩), .agg #[.int .i32 116, .int .i32 g, .int .i64 c]] w fun e w' => e = .returned (.tuple #[.int .i64 (prevM x.s (((onM x.s (fun j => (((chars x.s).getD j (0, 0)).1 : Int) == x.g) x.t x.a x.n).getD x.t : Nat) : Int) : Nat), .int .i64 1, .bool (onM x.s (fun j => (((chars x.s).getD j (0, 0)).1 : Int) == x.g) x.t x.a x.n).isSome]) ∧ Below w.heap.size w w' := by
  have HW := Lib.hid (fun wz (hz : IsSc wz P x) => mvFind_t x k P wz hz)
  clear k
  generalize prevM x.s (((onM x.s (fun j => (((chars x.s).getD j (0, 0)).1 : Int) == x.g) x.t x.a x.n).getD x.t : Nat) : Int) = v at *
  generalize (onM x.s (fun j => (((chars x.s).getD j (0, 0)).1 : Int) == x.g) x.t x.a x.n).isSome = u at *
  go_enter Tryz.func94, Tryz.ntmps94
  go_upto_region 1 with fail
  have B0 := Lib.hid ((Below.refl w.heap.size w).alloc (Nat.le_refl _) (.cells #[.int .i32 116, .int .i32 g, .int .i64 c] 73))
  have C0 := Lib.hid (Blk.new w 73 (motC 116 g c))
  change Hid (Blk (w.alloc (.cells #[.int .i32 116, .int .i32 g, .int .i64 c] 73)) w.heap.size 73 (motC 116 g c)) at C0
  generalize w.alloc (.cells #[.int .i32 116, .int .i32 g, .int .i64 c] 73) = wb at *
  have HS : Hid (∀ wz, Below wb.heap.size wb wz → IsSc wz P x) := fun wz hb => h.below (B0.out.trans (hb.mono B0.out.size))
  have HM : Hid (∀ wz, Below wb.heap.size wb wz → wz.cell? ⟨w.heap.size, 0, none⟩ = some (.int .i32 116) ∧ wz.cell? ⟨w.heap.size, 1, none⟩ = some (.int .i32 g) ∧ wz.cell? ⟨w.heap.size, 2, none⟩ = some (.int .i64 c)) := fun wz hb => mot_cells (C0.out.below hb C0.out.lt)
  have hb0 : Below wb.heap.size wb wb := Below.refl _ _
  clear C0 h
  obtain ⟨m0, m1, m2⟩ := HM.out _ hb0
  go_wp2_with (go_at_call 143; refine (HW.out _ (HS.out _ hb0)).mono ?_; rintro e w1 ⟨rfl, b1⟩)
  go_ret3
  exact ⟨rfl, B0.out.trans (b1.mono B0.out.size)⟩
set_option maxRecDepth 100000 in
set_option maxHeartbeats 2000000 in
theorem mvGoal_fF (x : ScM) (k : ScOk x) (P : Nat) (g c : Int) (_hc : -9223372036854775808 ≤ c ∧ c ≤ 9223372036854775807) (w : World) (h : IsSc w P x) :
    Calls Tryz.prog 94 #[.pointer (some ⟨P, 0, none⟩), .agg #[.int .i32 70, .int .i32 g, .int .i64 c]] w fun e w' => e = .returned (.tuple #[.int .i64 ((backM x.s (fun j => (((chars x.s).getD j (0, 0)).1 : Int) == x.g) x.f x.a x.n).getD x.f : Nat), .int .i64 0, .bool (backM x.s (fun j => (((chars x.s).getD j (0, 0)).1 : Int) == x.g) x.f x.a x.n).isSome]) ∧ Below w.heap.size w w' := by
  have HW := Lib.hid (fun wz (hz : IsSc wz P x) => mvFind_F x k P wz hz)
  clear k
  generalize (backM x.s (fun j => (((chars x.s).getD j (0, 0)).1 : Int) == x.g) x.f x.a x.n).getD x.f = v at *
  generalize (backM x.s (fun j => (((chars x.s).getD j (0, 0)).1 : Int) == x.g) x.f x.a x.n).isSome = u at *
  go_enter Tryz.func94, Tryz.ntmps94
  go_upto_region 1 with fail
  have B0 := Lib.hid ((Below.refl w.heap.size w).alloc (Nat.le_refl _) (.cells #[.int .i32 70, .int .i32 g, .int .i64 c] 73))
  have C0 := Lib.hid (Blk.new w 73 (motC 70 g c))
  change Hid (Blk (w.alloc (.cells #[.int .i32 70, .int .i32 g, .int .i64 c] 73)) w.heap.size 73 (motC 70 g c)) at C0
  generalize w.alloc (.cells #[.int .i32 70, .int .i32 g, .int .i64 c] 73) = wb at *
  have HS : Hid (∀ wz, Below wb.heap.size wb wz → IsSc wz P x) := fun wz hb => h.below (B0.out.trans (hb.mono B0.out.size))
  have HM : Hid (∀ wz, Below wb.heap.size wb wz → wz.cell? ⟨w.heap.size, 0, none⟩ = some (.int .i32 70) ∧ wz.cell? ⟨w.heap.size, 1, none⟩ = some (.int .i32 g) ∧ wz.cell? ⟨w.heap.size, 2, none⟩ = some (.int .i64 c)) := fun wz hb => mot_cells (C0.out.below hb C0.out.lt)
  have hb0 : Below wb.heap.size wb wb := Below.refl _ _
  clear C0 h
  obtain ⟨m0, m1, m2⟩ := HM.out _ hb0
  go_wp2_with (go_at_call 143; refine (HW.out _ (HS.out _ hb0)).mono ?_; rintro e w1 ⟨rfl, b1⟩)
  go_ret3
  exact ⟨rfl, B0.out.trans (b1.mono B0.out.size)⟩
set_option maxRecDepth 100000 in
set_option maxHeartbeats 2000000 in
theorem mvGoal_fT (x : ScM) (k : ScOk x) (P : Nat) (g c : Int) (_hc : -9223372036854775808 ≤ c ∧ c ≤ 9223372036854775807) (w : World) (h : IsSc w P x) :
    Calls Tryz.prog 94 #[.pointer (some ⟨P, 0, none⟩), .agg #[.int .i32 84, .int .i32 g, .int .i64 c]] w fun e w' => e = .returned (.tuple #[.int .i64 (nextM x.s (((backM x.s (fun j => (((chars x.s).getD j (0, 0)).1 : Int) == x.g) x.f x.a x.n).getD x.f : Nat) : Int) : Nat), .int .i64 0, .bool (backM x.s (fun j => (((chars x.s).getD j (0, 0)).1 : Int) == x.g) x.f x.a x.n).isSome]) ∧ Below w.heap.size w w' := by
  have HW := Lib.hid (fun wz (hz : IsSc wz P x) => mvFind_T x k P wz hz)
  clear k
  generalize nextM x.s (((backM x.s (fun j => (((chars x.s).getD j (0, 0)).1 : Int) == x.g) x.f x.a x.n).getD x.f : Nat) : Int) = v at *
  generalize (backM x.s (fun j => (((chars x.s).getD j (0, 0)).1 : Int) == x.g) x.f x.a x.n).isSome = u at *
  go_enter Tryz.func94, Tryz.ntmps94
  go_upto_region 1 with fail
  have B0 := Lib.hid ((Below.refl w.heap.size w).alloc (Nat.le_refl _) (.cells #[.int .i32 84, .int .i32 g, .int .i64 c] 73))
  have C0 := Lib.hid (Blk.new w 73 (motC 84 g c))
  change Hid (Blk (w.alloc (.cells #[.int .i32 84, .int .i32 g, .int .i64 c] 73)) w.heap.size 73 (motC 84 g c)) at C0
  generalize w.alloc (.cells #[.int .i32 84, .int .i32 g, .int .i64 c] 73) = wb at *
  have HS : Hid (∀ wz, Below wb.heap.size wb wz → IsSc wz P x) := fun wz hb => h.below (B0.out.trans (hb.mono B0.out.size))
  have HM : Hid (∀ wz, Below wb.heap.size wb wz → wz.cell? ⟨w.heap.size, 0, none⟩ = some (.int .i32 84) ∧ wz.cell? ⟨w.heap.size, 1, none⟩ = some (.int .i32 g) ∧ wz.cell? ⟨w.heap.size, 2, none⟩ = some (.int .i64 c)) := fun wz hb => mot_cells (C0.out.below hb C0.out.lt)
  have hb0 : Below wb.heap.size wb wb := Below.refl _ _
  clear C0 h
  obtain ⟨m0, m1, m2⟩ := HM.out _ hb0
  go_wp2_with (go_at_call 143; refine (HW.out _ (HS.out _ hb0)).mono ?_; rintro e w1 ⟨rfl, b1⟩)
  go_ret3
  exact ⟨rfl, B0.out.trans (b1.mono B0.out.size)⟩
set_option maxRecDepth 100000 in
set_option maxHeartbeats 2000000 in
theorem mvGoal_no (x : ScM) (P : Nat) (key g c : Int) (w : World) (h : IsSc w P x) (hk : ∀ y ∈ [104, 108, 119, 98, 123, 125, 101, 48, 94, 36, 106, 107, 71, 103, 102, 116, 70, 84], key ≠ (y : Int)) :
    Calls Tryz.prog 94 #[.pointer (some ⟨P, 0, none⟩), .agg #[.int .i32 key, .int .i32 g, .int .i64 c]] w fun e w' => e = .returned (.tuple #[.int .i64 0, .int .i64 0, .bool false]) ∧ Below w.heap.size w w' := by
  have e104 : (key == 104) = false := by rw [beq_eq_false_iff_ne]; exact hk 104 (by simp)
  have e108 : (key == 108) = false := by rw [beq_eq_false_iff_ne]; exact hk 108 (by simp)
  have e119 : (key == 119) = false := by rw [beq_eq_false_iff_ne]; exact hk 119 (by simp)
  have e98 : (key == 98) = false := by rw [beq_eq_false_iff_ne]; exact hk 98 (by simp)
  have e123 : (key == 123) = false := by rw [beq_eq_false_iff_ne]; exact hk 123 (by simp)
  have e125 : (key == 125) = false := by rw [beq_eq_false_iff_ne]; exact hk 125 (by simp)
  have e101 : (key == 101) = false := by rw [beq_eq_false_iff_ne]; exact hk 101 (by simp)
  have e48 : (key == 48) = false := by rw [beq_eq_false_iff_ne]; exact hk 48 (by simp)
  have e94 : (key == 94) = false := by rw [beq_eq_false_iff_ne]; exact hk 94 (by simp)
  have e36 : (key == 36) = false := by rw [beq_eq_false_iff_ne]; exact hk 36 (by simp)
  have e106 : (key == 106) = false := by rw [beq_eq_false_iff_ne]; exact hk 106 (by simp)
  have e107 : (key == 107) = false := by rw [beq_eq_false_iff_ne]; exact hk 107 (by simp)
  have e71 : (key == 71) = false := by rw [beq_eq_false_iff_ne]; exact hk 71 (by simp)
  have e103 : (key == 103) = false := by rw [beq_eq_false_iff_ne]; exact hk 103 (by simp)
  have e102 : (key == 102) = false := by rw [beq_eq_false_iff_ne]; exact hk 102 (by simp)
  have e116 : (key == 116) = false := by rw [beq_eq_false_iff_ne]; exact hk 116 (by simp)
  have e70 : (key == 70) = false := by rw [beq_eq_false_iff_ne]; exact hk 70 (by simp)
  have e84 : (key == 84) = false := by rw [beq_eq_false_iff_ne]; exact hk 84 (by simp)
  clear hk
  go_enter Tryz.func94, Tryz.ntmps94
  go_upto_region 1 with fail
  have B0 := Lib.hid ((Below.refl w.heap.size w).alloc (Nat.le_refl _) (.cells #[.int .i32 key, .int .i32 g, .int .i64 c] 73))
  have C0 := Lib.hid (Blk.new w 73 (motC key g c))
  change Hid (Blk (w.alloc (.cells #[.int .i32 key, .int .i32 g, .int .i64 c] 73)) w.heap.size 73 (motC key g c)) at C0
  generalize w.alloc (.cells #[.int .i32 key, .int .i32 g, .int .i64 c] 73) = wb at *
  have HS : Hid (∀ wz, Below wb.heap.size wb wz → IsSc wz P x) := fun wz hb => h.below (B0.out.trans (hb.mono B0.out.size))
  have HM : Hid (∀ wz, Below wb.heap.size wb wz → wz.cell? ⟨w.heap.size, 0, none⟩ = some (.int .i32 key) ∧ wz.cell? ⟨w.heap.size, 1, none⟩ = some (.int .i32 g) ∧ wz.cell? ⟨w.heap.size, 2, none⟩ = some (.int .i64 c)) := fun wz hb => mot_cells (C0.out.below hb C0.out.lt)
  have hb0 : Below wb.heap.size wb wb := Below.refl _ _
  clear C0 h
  obtain ⟨m0, m1, m2⟩ := HM.out _ hb0
  go_wp2_with fail
  go_ret3
  exact ⟨rfl, B0.out.trans (hb0.mono B0.out.size)⟩
end Go.Proofs.YtgpmfkedcoiopaaGreatDoor

/-
  Contracts of the landed package move: goal, where lines are asked.
-/
namespace Go.Proofs.YtgpmfkedcoiopaaGreatDoor
open Go.RowKit
set_option maxRecDepth 100000

theorem wrapM_near (x : Int) (h0 : -9223372036854775808 ≤ x) (h1 : x ≤ 9223372036854775807) : IntKind.i64.wrap x = x := by rw [IntKind.wrap_i64]; omega
set_option maxRecDepth 100000 in
set_option maxHeartbeats 2000000 in
theorem mvGoal_c (x : ScM) (k : ScOk x) (P : Nat) (g c : Int) (_hc : -9223372036854775808 ≤ c ∧ c ≤ 9223372036854775807) (w : World) (h : IsSc w P x) :
    Calls Tryz.prog 94 #[.pointer (some ⟨P, 0, none⟩), .agg #[.int .i32 94, .int .i32 g, .int .i64 c]] w fun e w' => e = .returned (.tuple #[.int .i64 (firstL x.s (x.q : Nat) : Nat), .int .i64 0, .bool true]) ∧ Below w.heap.size w w' := by
  have HF0 := Lib.hid (fun wz => linFirst_any x.s k.len (x.q : Nat) wz)
  clear k
  generalize firstL x.s (x.q : Nat) = v at *
  go_enter Tryz.func94, Tryz.ntmps94
  go_upto_region 1 with fail
  have B0 := Lib.hid ((Below.refl w.heap.size w).alloc (Nat.le_refl _) (.cells #[.int .i32 94, .int .i32 g, .int .i64 c] 73))
  have C0 := Lib.hid (Blk.new w 73 (motC 94 g c))
  change Hid (Blk (w.alloc (.cells #[.int .i32 94, .int .i32 g, .int .i64 c] 73)) w.heap.size 73 (motC 94 g c)) at C0
  generalize w.alloc (.cells #[.int .i32 94, .int .i32 g, .int .i64 c] 73) = wb at *
  have HS : Hid (∀ wz, Below wb.heap.size wb wz → IsSc wz P x) := fun wz hb => h.below (B0.out.trans (hb.mono B0.out.size))
  have HM : Hid (∀ wz, Below wb.heap.size wb wz → wz.cell? ⟨w.heap.size, 0, none⟩ = some (.int .i32 94) ∧ wz.cell? ⟨w.heap.size, 1, none⟩ = some (.int .i32 g) ∧ wz.cell? ⟨w.heap.size, 2, none⟩ = some (.int .i64 c)) := fun wz hb => mot_cells (C0.out.below hb C0.out.lt)
  have hb0 : Below wb.heap.size wb wb := Below.refl _ _
  clear C0 h
  obtain ⟨m0, m1, m2⟩ := HM.out _ hb0
  have HF := mv_in (A := wb) fun wz _ => HF0.out wz
  have y0 := (HS.out _ hb0).s
  have y2 := (HS.out _ hb0).q
  have y5 := (HS.out _ hb0).n
  go_upto_region 14 with fail
  refine wp_region_still_tail 8 (by kernel_rfl) (by kernel_rfl) ?_
  simp only [List.take_succ_cons, List.take_zero, List.drop_succ_cons, List.drop_zero]
  still_step
  still_step
  still_step
  still_step
  still_step
  still_step
  still_step
  still_step
  refine wpStill_nil ?_
  change wpList _ _ _ _ _ wb.drew
  clear y0 y2 y5 m0 m1 m2
  replace hb0 := mv_dr hb0
  generalize wb.drew = wd at *
  go_wp2_with (go_at_call 103; refine (HF.out _ hb0).mono ?_; rintro e w1 ⟨rfl, hbx⟩)
  go_ret3
  exact ⟨rfl, B0.out.trans (hbx.mono B0.out.size)⟩
set_option maxRecDepth 100000 in
set_option maxHeartbeats 2000000 in
theorem mvGoal_d (x : ScM) (k : ScOk x) (P : Nat) (g c : Int) (_hc : -9223372036854775808 ≤ c ∧ c ≤ 9223372036854775807) (w : World) (h : IsSc w P x) (hq : x.q ≤ 1000001) :
    Calls Tryz.prog 94 #[.pointer (some ⟨P, 0, none⟩), .agg #[.int .i32 36, .int .i32 g, .int .i64 c]] w fun e w' => e = .returned (.tuple #[.int .i64 ((boundsL x.s ((x.q : Int) + (x.n : Int) - 1)).1.2 : Nat), .int .i64 0, .bool (((boundsL x.s ((x.q : Int) + (x.n : Int) - 1)).2 : Int) == 0)]) ∧ Below w.heap.size w w' := by
  have HF0 := Lib.hid (fun wz => linBounds_any x.s k.len ((x.q : Int) + (x.n : Int) - 1) wz)
  have hn := k.many
  clear k
  generalize boundsL x.s ((x.q : Int) + (x.n : Int) - 1) = v at *
  obtain ⟨⟨v1, v2⟩, v3⟩ := v
  unfold Gives3 at HF0
  dsimp only at HF0 ⊢
  go_enter Tryz.func94, Tryz.ntmps94
  go_upto_region 1 with fail
  have B0 := Lib.hid ((Below.refl w.heap.size w).alloc (Nat.le_refl _) (.cells #[.int .i32 36, .int .i32 g, .int .i64 c] 73))
  have C0 := Lib.hid (Blk.new w 73 (motC 36 g c))
  change Hid (Blk (w.alloc (.cells #[.int .i32 36, .int .i32 g, .int .i64 c] 73)) w.heap.size 73 (motC 36 g c)) at C0
  generalize w.alloc (.cells #[.int .i32 36, .int .i32 g, .int .i64 c] 73) = wb at *
  have HS : Hid (∀ wz, Below wb.heap.size wb wz → IsSc wz P x) := fun wz hb => h.below (B0.out.trans (hb.mono B0.out.size))
  have HM : Hid (∀ wz, Below wb.heap.size wb wz → wz.cell? ⟨w.heap.size, 0, none⟩ = some (.int .i32 36) ∧ wz.cell? ⟨w.heap.size, 1, none⟩ = some (.int .i32 g) ∧ wz.cell? ⟨w.heap.size, 2, none⟩ = some (.int .i64 c)) := fun wz hb => mot_cells (C0.out.below hb C0.out.lt)
  have hb0 : Below wb.heap.size wb wb := Below.refl _ _
  clear C0 h
  obtain ⟨m0, m1, m2⟩ := HM.out _ hb0
  have HF := mv_in (A := wb) fun wz _ => HF0.out wz
  have KC : Hid (∀ wz, Below wb.heap.size wb wz → wz.cell? ⟨P, 0, none⟩ = some (.string ⟨x.s.toArray⟩) ∧ wz.cell? ⟨P, 2, none⟩ = some (.int .i64 (x.q : Nat)) ∧ wz.cell? ⟨P, 5, none⟩ = some (.int .i64 (x.n : Nat))) := fun wz hb => ⟨(HS.out wz hb).s, (HS.out wz hb).q, (HS.out wz hb).n⟩
  clear HF0 HS HM
  generalize x.q = q at *
  generalize x.n = n at *
  obtain ⟨hn1, hn2⟩ := hn
  have hw1 := wrapM_near ((q : Int) + (n : Int)) (by omega) (by omega)
  have hw2 := wrapM_near ((q : Int) + (n : Int) - 1) (by omega) (by omega)
  go_upto_region 16 with fail
  refine wp_region_held_drew (S := fun w' => w'.cell? ⟨P, 0, none⟩ = some (.string ⟨x.s.toArray⟩) ∧ w'.cell? ⟨P, 2, none⟩ = some (.int .i64 (q : Nat)) ∧ w'.cell? ⟨P, 5, none⟩ = some (.int .i64 (n : Nat))) (by kernel_rfl) (KC.out _ (mv_dr hb0)) (fun hHeld => ?_)
  refine wpAnyH_take (i := 0) (v := ?_) rfl (by kernel_rfl) (by kernel_rfl) (by kernel_rfl) (fun _ _ _ h => h) (Or.inl ⟨by rfl, ?_⟩) (by assumption) ?_
  rotate_left
  · (intro w hSw; obtain ⟨q0, q1, q2⟩ := hSw; go_simp; (try with_reducible rfl))
  (try simp only [List.getElem_toArray, List.getElem_cons_zero, Act.put, List.setIfInBounds_toArray, List.set_cons_zero, List.set_cons_succ])
  refine wpAnyH_take (i := 1) (v := ?_) rfl (by kernel_rfl) (by kernel_rfl) (by kernel_rfl) (fun _ _ _ h => h) (Or.inl ⟨by rfl, ?_⟩) (by assumption) ?_
  rotate_left
  · (intro w hSw; obtain ⟨q0, q1, q2⟩ := hSw; go_simp; (try with_reducible rfl))
  (try simp only [List.getElem_toArray, List.getElem_cons_zero, List.getElem_cons_succ, Act.put, List.setIfInBounds_toArray, List.set_cons_zero, List.set_cons_succ])
  refine wpAnyH_take (i := 2) (v := ?_) rfl (by kernel_rfl) (by kernel_rfl) (by kernel_rfl) (fun _ _ _ h => h) (Or.inl ⟨by rfl, ?_⟩) (by assumption) ?_
  rotate_left
  · (intro w hSw; obtain ⟨q0, q1, q2⟩ := hSw; go_simp; (try with_reducible rfl))
  (try simp only [List.getElem_toArray, List.getElem_cons_zero, List.getElem_cons_succ, Act.put, List.setIfInBounds_toArray, List.set_cons_zero, List.set_cons_succ])
  refine wpAnyH_take (i := 3) (v := ?_) rfl (by kernel_rfl) (by kernel_rfl) (by kernel_rfl) (fun _ _ _ h => h) (Or.inl ⟨by rfl, ?_⟩) (by assumption) ?_
  rotate_left
  · (intro w hSw; obtain ⟨q0, q1, q2⟩ := hSw; go_simp; (try with_reducible rfl))
  (try simp only [List.getElem_toArray, List.getElem_cons_zero, List.getElem_cons_succ, Act.put, List.setIfInBounds_toArray, List.set_cons_zero, List.set_cons_succ])
  refine wpAnyH_take (i := 4) (v := ?_) rfl (by kernel_rfl) (by kernel_rfl) (by kernel_rfl) (fun _ _ _ h => h) (Or.inl ⟨by rfl, ?_⟩) (by assumption) ?_
  rotate_left
  · (intro w hSw; obtain ⟨q0, q1, q2⟩ := hSw; go_simp; (try with_reducible rfl))
  (try simp only [List.getElem_toArray, List.getElem_cons_zero, List.getElem_cons_succ, Act.put, List.setIfInBounds_toArray, List.set_cons_zero, List.set_cons_succ])
  refine wpAnyH_take (i := 5) (v := ?_) rfl (by kernel_rfl) (by kernel_rfl) (by kernel_rfl) (fun _ _ _ h => h) (Or.inl ⟨by rfl, ?_⟩) (by assumption) ?_
  rotate_left
  · (intro w hSw; obtain ⟨q0, q1, q2⟩ := hSw; go_simp; (try with_reducible rfl))
  (try simp only [List.getElem_toArray, List.getElem_cons_zero, List.getElem_cons_succ, Act.put, List.setIfInBounds_toArray, List.set_cons_zero, List.set_cons_succ])
  refine wpAnyH_take (i := 6) (v := ?_) rfl (by kernel_rfl) (by kernel_rfl) (by kernel_rfl) (fun _ _ _ h => h) (Or.inl ⟨by rfl, ?_⟩) (by assumption) ?_
  rotate_left
  · (intro w hSw; obtain ⟨q0, q1, q2⟩ := hSw; go_simp; (try with_reducible rfl))
  (try simp only [List.getElem_toArray, List.getElem_cons_zero, List.getElem_cons_succ, Act.put, List.setIfInBounds_toArray, List.set_cons_zero, List.set_cons_succ])
  refine wpAnyH_take (i := 7) (v := ?_) rfl (by kernel_rfl) (by kernel_rfl) (by kernel_rfl) (fun _ _ _ h => h) (Or.inl ⟨by rfl, ?_⟩) (by assumption) ?_
  rotate_left
  · (intro w hSw; obtain ⟨q0, q1, q2⟩ := hSw; go_simp; (try with_reducible rfl))
  (try simp only [List.getElem_toArray, List.getElem_cons_zero, List.getElem_cons_succ, Act.put, List.setIfInBounds_toArray, List.set_cons_zero, List.set_cons_succ])
  refine wpAnyH_take (i := 8) (v := ?_) rfl (by kernel_rfl) (by kernel_rfl) (by kernel_rfl) (fun _ _ _ h => h) (Or.inl ⟨by rfl, ?_⟩) (by assumption) ?_
  rotate_left
  · (intro w hSw; obtain ⟨q0, q1, q2⟩ := hSw; go_simp; (try with_reducible rfl))
  (try simp only [List.getElem_toArray, List.getElem_cons_zero, List.getElem_cons_succ, Act.put, List.setIfInBounds_toArray, List.set_cons_zero, List.set_cons_succ])
  refine wpAnyH_take (i := 9) (v := ?_) rfl (by kernel_rfl) (by kernel_rfl) (by kernel_rfl) (fun _ _ _ h => h) (Or.inl ⟨by rfl, ?_⟩) (by assumption) ?_
  rotate_left
  · (intro w hSw; obtain ⟨q0, q1, q2⟩ := hSw; go_simp; (try with_reducible rfl))
  (try simp only [List.getElem_toArray, List.getElem_cons_zero, List.getElem_cons_succ, Act.put, List.setIfInBounds_toArray, List.set_cons_zero, List.set_cons_succ])
  refine wpAnyH_take (i := 10) (v := ?_) rfl (by kernel_rfl) (by kernel_rfl) (by kernel_rfl) (fun _ _ _ h => h) (Or.inl ⟨by rfl, ?_⟩) (by assumption) ?_
  rotate_left
  · (intro w hSw; obtain ⟨q0, q1, q2⟩ := hSw; go_simp; (try with_reducible rfl))
  (try simp only [List.getElem_toArray, List.getElem_cons_zero, List.getElem_cons_succ, Act.put, List.setIfInBounds_toArray, List.set_cons_zero, List.set_cons_succ])
  refine wpAnyH_take (i := 11) (v := ?_) rfl (by kernel_rfl) (by kernel_rfl) (by kernel_rfl) (fun _ _ _ h => h) (Or.inl ⟨by rfl, ?_⟩) (by assumption) ?_
  rotate_left
  · (intro w hSw; obtain ⟨q0, q1, q2⟩ := hSw; go_simp; (try with_reducible rfl))
  (try simp only [List.getElem_toArray, List.getElem_cons_zero, List.getElem_cons_succ, Act.put, List.setIfInBounds_toArray, List.set_cons_zero, List.set_cons_succ])
  refine wpAnyH_take (i := 12) (v := ?_) rfl (by kernel_rfl) (by kernel_rfl) (by kernel_rfl) (fun _ _ _ h => h) (Or.inl ⟨by rfl, ?_⟩) (by assumption) ?_
  rotate_left
  · (intro w hSw; obtain ⟨q0, q1, q2⟩ := hSw; go_simp; (try with_reducible rfl))
  (try simp only [List.getElem_toArray, List.getElem_cons_zero, List.getElem_cons_succ, Act.put, List.setIfInBounds_toArray, List.set_cons_zero, List.set_cons_succ])
  refine wpAnyH_take (i := 13) (v := ?_) rfl (by kernel_rfl) (by kernel_rfl) (by kernel_rfl) (fun _ _ _ h => h) (Or.inl ⟨by rfl, ?_⟩) (by assumption) ?_
  rotate_left
  · (intro w hSw; obtain ⟨q0, q1, q2⟩ := hSw; go_simp; (try with_reducible rfl))
  (try simp only [List.getElem_toArray, List.getElem_cons_zero, List.getElem_cons_succ, Act.put, List.setIfInBounds_toArray, List.set_cons_zero, List.set_cons_succ])
  refine wpAnyH_ready (rs := [14]) (by kernel_rfl) (by simp) ?_
  refine AllReadyH.cons rfl (fun K hK => ?_) AllReadyH.nil
  go_simp
  refine (HF.out _ (mv_dr hb0)).mono ?_
  rintro ee w1 ⟨rfl, hbx⟩
  (try go_wp2_with fail)
  refine hK.out _ _ (KC.out _ hbx) (fun hHeld => ?_)
  clear hK K
  (try simp only [List.getElem_toArray, List.getElem_cons_zero, List.getElem_cons_succ, Act.put, List.setIfInBounds_toArray, List.set_cons_zero, List.set_cons_succ])
  refine wpAnyH_take (i := 15) (v := ?_) rfl (by kernel_rfl) (by kernel_rfl) (by kernel_rfl) (fun _ _ _ h => h) (Or.inl ⟨by rfl, ?_⟩) (by assumption) ?_
  rotate_left
  · (intro w hSw; obtain ⟨q0, q1, q2⟩ := hSw; go_simp; (try with_reducible rfl))
  (try simp only [List.getElem_toArray, List.getElem_cons_zero, List.getElem_cons_succ, Act.put, List.setIfInBounds_toArray, List.set_cons_zero, List.set_cons_succ])
  refine wpAnyH_take (i := 16) (v := ?_) rfl (by kernel_rfl) (by kernel_rfl) (by kernel_rfl) (fun _ _ _ h => h) (Or.inl ⟨by rfl, ?_⟩) (by assumption) ?_
  rotate_left
  · (intro w hSw; obtain ⟨q0, q1, q2⟩ := hSw; go_simp; (try with_reducible rfl))
  (try simp only [List.getElem_toArray, List.getElem_cons_zero, List.getElem_cons_succ, Act.put, List.setIfInBounds_toArray, List.set_cons_zero, List.set_cons_succ])
  refine wpAnyH_take (i := 17) (v := ?_) rfl (by kernel_rfl) (by kernel_rfl) (by kernel_rfl) (fun _ _ _ h => h) (Or.inl ⟨by rfl, ?_⟩) (by assumption) ?_
  rotate_left
  · (intro w hSw; obtain ⟨q0, q1, q2⟩ := hSw; go_simp; (try with_reducible rfl))
  (try simp only [List.getElem_toArray, List.getElem_cons_zero, List.getElem_cons_succ, Act.put, List.setIfInBounds_toArray, List.set_cons_zero, List.set_cons_succ])
  refine wpAnyH_take (i := 18) (v := ?_) rfl (by kernel_rfl) (by kernel_rfl) (by kernel_rfl) (fun _ _ _ h => h) (Or.inl ⟨by rfl, ?_⟩) (by assumption) ?_
  rotate_left
  · (intro w hSw; obtain ⟨q0, q1, q2⟩ := hSw; go_simp; (try with_reducible rfl))
  (try simp only [List.getElem_toArray, List.getElem_cons_zero, List.getElem_cons_succ, Act.put, List.setIfInBounds_toArray, List.set_cons_zero, List.set_cons_succ])
  refine wpAnyH_take (i := 19) (v := ?_) rfl (by kernel_rfl) (by kernel_rfl) (by kernel_rfl) (fun _ _ _ h => h) (Or.inl ⟨by rfl, ?_⟩) (by assumption) ?_
  rotate_left
  · (intro w hSw; obtain ⟨q0, q1, q2⟩ := hSw; go_simp; (try with_reducible rfl))
  (try simp only [List.getElem_toArray, List.getElem_cons_zero, List.getElem_cons_succ, Act.put, List.setIfInBounds_toArray, List.set_cons_zero, List.set_cons_succ])
  refine wpAnyH_take (i := 20) (v := ?_) rfl (by kernel_rfl) (by kernel_rfl) (by kernel_rfl) (fun _ _ _ h => h) (Or.inl ⟨by rfl, ?_⟩) (by assumption) ?_
  rotate_left
  · (intro w hSw; obtain ⟨q0, q1, q2⟩ := hSw; go_simp; (try with_reducible rfl))
  (try simp only [List.getElem_toArray, List.getElem_cons_zero, List.getElem_cons_succ, Act.put, List.setIfInBounds_toArray, List.set_cons_zero, List.set_cons_succ])
  refine wpAnyH_take (i := 21) (v := ?_) rfl (by kernel_rfl) (by kernel_rfl) (by kernel_rfl) (fun _ _ _ h => h) (Or.inl ⟨by rfl, ?_⟩) (by assumption) ?_
  rotate_left
  · (intro w hSw; obtain ⟨q0, q1, q2⟩ := hSw; go_simp; (try with_reducible rfl))
  (try simp only [List.getElem_toArray, List.getElem_cons_zero, List.getElem_cons_succ, Act.put, List.setIfInBounds_toArray, List.set_cons_zero, List.set_cons_succ])
  refine wpAnyH_done (by kernel_rfl) ?_ _
  go_wp2_with fail
  go_ret3
  exact ⟨rfl, B0.out.trans (hbx.mono B0.out.size)⟩
set_option maxRecDepth 100000 in
set_option maxHeartbeats 2000000 in
theorem mvGoal_j (x : ScM) (k : ScOk x) (P : Nat) (g c : Int) (_hc : -9223372036854775808 ≤ c ∧ c ≤ 9223372036854775807) (w : World) (h : IsSc w P x) (hq : x.q ≤ 1000001) :
    Calls Tryz.prog 94 #[.pointer (some ⟨P, 0, none⟩), .agg #[.int .i32 106, .int .i32 g, .int .i64 c]] w fun e w' => e = .returned (.tuple #[.int .i64 ((inLineR x ((x.q : Int) + (x.n : Int))).getD 0 : Nat), .int .i64 2, .bool (inLineR x ((x.q : Int) + (x.n : Int))).isSome]) ∧ Below w.heap.size w w' := by
  have HF0 := Lib.hid (fun wz (hz : IsSc wz P x) => mvInLine_any x k P ((x.q : Int) + (x.n : Int)) wz hz)
  have hn := k.many
  clear k
  generalize inLineR x ((x.q : Int) + (x.n : Int)) = v at *
  go_enter Tryz.func94, Tryz.ntmps94
  go_upto_region 1 with fail
  have B0 := Lib.hid ((Below.refl w.heap.size w).alloc (Nat.le_refl _) (.cells #[.int .i32 106, .int .i32 g, .int .i64 c] 73))
  have C0 := Lib.hid (Blk.new w 73 (motC 106 g c))
  change Hid (Blk (w.alloc (.cells #[.int .i32 106, .int .i32 g, .int .i64 c] 73)) w.heap.size 73 (motC 106 g c)) at C0
  generalize w.alloc (.cells #[.int .i32 106, .int .i32 g, .int .i64 c] 73) = wb at *
  have HS : Hid (∀ wz, Below wb.heap.size wb wz → IsSc wz P x) := fun wz hb => h.below (B0.out.trans (hb.mono B0.out.size))
  have HM : Hid (∀ wz, Below wb.heap.size wb wz → wz.cell? ⟨w.heap.size, 0, none⟩ = some (.int .i32 106) ∧ wz.cell? ⟨w.heap.size, 1, none⟩ = some (.int .i32 g) ∧ wz.cell? ⟨w.heap.size, 2, none⟩ = some (.int .i64 c)) := fun wz hb => mot_cells (C0.out.below hb C0.out.lt)
  have hb0 : Below wb.heap.size wb wb := Below.refl _ _
  clear C0 h
  obtain ⟨m0, m1, m2⟩ := HM.out _ hb0
  have HF := mv_in (A := wb) fun wz hb => HF0.out wz (HS.out wz hb)
  have KC : Hid (∀ wz, Below wb.heap.size wb wz → wz.cell? ⟨P, 2, none⟩ = some (.int .i64 (x.q : Nat)) ∧ wz.cell? ⟨P, 5, none⟩ = some (.int .i64 (x.n : Nat))) := fun wz hb => ⟨(HS.out wz hb).q, (HS.out wz hb).n⟩
  clear HF0 HS HM
  generalize x.q = q at *
  generalize x.n = n at *
  obtain ⟨hn1, hn2⟩ := hn
  have hw1 := wrapM_near ((q : Int) + (n : Int)) (by omega) (by omega)
  go_upto_region 19 with fail
  refine wp_region_held_drew (S := fun w' => w'.cell? ⟨P, 2, none⟩ = some (.int .i64 (q : Nat)) ∧ w'.cell? ⟨P, 5, none⟩ = some (.int .i64 (n : Nat))) (by kernel_rfl) (KC.out _ (mv_dr hb0)) (fun hHeld => ?_)
  refine wpAnyH_take (i := 0) (v := ?_) rfl (by kernel_rfl) (by kernel_rfl) (by kernel_rfl) (fun _ _ _ h => h) (Or.inl ⟨by rfl, ?_⟩) (by assumption) ?_
  rotate_left
  · (intro w hSw; obtain ⟨q0, q1⟩ := hSw; go_simp; (try with_reducible rfl))
  (try simp only [List.getElem_toArray, List.getElem_cons_zero, Act.put, List.setIfInBounds_toArray, List.set_cons_zero, List.set_cons_succ])
  refine wpAnyH_take (i := 1) (v := ?_) rfl (by kernel_rfl) (by kernel_rfl) (by kernel_rfl) (fun _ _ _ h => h) (Or.inl ⟨by rfl, ?_⟩) (by assumption) ?_
  rotate_left
  · (intro w hSw; obtain ⟨q0, q1⟩ := hSw; go_simp; (try with_reducible rfl))
  (try simp only [List.getElem_toArray, List.getElem_cons_zero, List.getElem_cons_succ, Act.put, List.setIfInBounds_toArray, List.set_cons_zero, List.set_cons_succ])
  refine wpAnyH_take (i := 2) (v := ?_) rfl (by kernel_rfl) (by kernel_rfl) (by kernel_rfl) (fun _ _ _ h => h) (Or.inl ⟨by rfl, ?_⟩) (by assumption) ?_
  rotate_left
  · (intro w hSw; obtain ⟨q0, q1⟩ := hSw; go_simp; (try with_reducible rfl))
  (try simp only [List.getElem_toArray, List.getElem_cons_zero, List.getElem_cons_succ, Act.put, List.setIfInBounds_toArray, List.set_cons_zero, List.set_cons_succ])
  refine wpAnyH_take (i := 3) (v := ?_) rfl (by kernel_rfl) (by kernel_rfl) (by kernel_rfl) (fun _ _ _ h => h) (Or.inl ⟨by rfl, ?_⟩) (by assumption) ?_
  rotate_left
  · (intro w hSw; obtain ⟨q0, q1⟩ := hSw; go_simp; (try with_reducible rfl))
  (try simp only [List.getElem_toArray, List.getElem_cons_zero, List.getElem_cons_succ, Act.put, List.setIfInBounds_toArray, List.set_cons_zero, List.set_cons_succ])
  refine wpAnyH_take (i := 4) (v := ?_) rfl (by kernel_rfl) (by kernel_rfl) (by kernel_rfl) (fun _ _ _ h => h) (Or.inl ⟨by rfl, ?_⟩) (by assumption) ?_
  rotate_left
  · (intro w hSw; obtain ⟨q0, q1⟩ := hSw; go_simp; (try with_reducible rfl))
  (try simp only [List.getElem_toArray, List.getElem_cons_zero, List.getElem_cons_succ, Act.put, List.setIfInBounds_toArray, List.set_cons_zero, List.set_cons_succ])
  refine wpAnyH_take (i := 5) (v := ?_) rfl (by kernel_rfl) (by kernel_rfl) (by kernel_rfl) (fun _ _ _ h => h) (Or.inl ⟨by rfl, ?_⟩) (by assumption) ?_
  rotate_left
  · (intro w hSw; obtain ⟨q0, q1⟩ := hSw; go_simp; (try with_reducible rfl))
  (try simp only [List.getElem_toArray, List.getElem_cons_zero, List.getElem_cons_succ, Act.put, List.setIfInBounds_toArray, List.set_cons_zero, List.set_cons_succ])
  refine wpAnyH_take (i := 6) (v := ?_) rfl (by kernel_rfl) (by kernel_rfl) (by kernel_rfl) (fun _ _ _ h => h) (Or.inl ⟨by rfl, ?_⟩) (by assumption) ?_
  rotate_left
  · (intro w hSw; obtain ⟨q0, q1⟩ := hSw; go_simp; (try with_reducible rfl))
  (try simp only [List.getElem_toArray, List.getElem_cons_zero, List.getElem_cons_succ, Act.put, List.setIfInBounds_toArray, List.set_cons_zero, List.set_cons_succ])
  refine wpAnyH_take (i := 7) (v := ?_) rfl (by kernel_rfl) (by kernel_rfl) (by kernel_rfl) (fun _ _ _ h => h) (Or.inl ⟨by rfl, ?_⟩) (by assumption) ?_
  rotate_left
  · (intro w hSw; obtain ⟨q0, q1⟩ := hSw; go_simp; (try with_reducible rfl))
  (try simp only [List.getElem_toArray, List.getElem_cons_zero, List.getElem_cons_succ, Act.put, List.setIfInBounds_toArray, List.set_cons_zero, List.set_cons_succ])
  refine wpAnyH_take (i := 8) (v := ?_) rfl (by kernel_rfl) (by kernel_rfl) (by kernel_rfl) (fun _ _ _ h => h) (Or.inl ⟨by rfl, ?_⟩) (by assumption) ?_
  rotate_left
  · (intro w hSw; obtain ⟨q0, q1⟩ := hSw; go_simp; (try with_reducible rfl))
  (try simp only [List.getElem_toArray, List.getElem_cons_zero, List.getElem_cons_succ, Act.put, List.setIfInBounds_toArray, List.set_cons_zero, List.set_cons_succ])
  refine wpAnyH_take (i := 9) (v := ?_) rfl (by kernel_rfl) (by kernel_rfl) (by kernel_rfl) (fun _ _ _ h => h) (Or.inl ⟨by rfl, ?_⟩) (by assumption) ?_
  rotate_left
  · (intro w hSw; obtain ⟨q0, q1⟩ := hSw; go_simp; (try with_reducible rfl))
  (try simp only [List.getElem_toArray, List.getElem_cons_zero, List.getElem_cons_succ, Act.put, List.setIfInBounds_toArray, List.set_cons_zero, List.set_cons_succ])
  refine wpAnyH_ready (rs := [10]) (by kernel_rfl) (by simp) ?_
  refine AllReadyH.cons rfl (fun K hK => ?_) AllReadyH.nil
  go_simp
  refine (HF.out _ (mv_dr hb0)).mono ?_
  rintro ee w1 ⟨rfl, hbx⟩
  (try go_wp2_with fail)
  refine hK.out _ _ (KC.out _ hbx) (fun hHeld => ?_)
  clear hK K
  (try simp only [List.getElem_toArray, List.getElem_cons_zero, List.getElem_cons_succ, Act.put, List.setIfInBounds_toArray, List.set_cons_zero, List.set_cons_succ])
  refine wpAnyH_take (i := 11) (v := ?_) rfl (by kernel_rfl) (by kernel_rfl) (by kernel_rfl) (fun _ _ _ h => h) (Or.inl ⟨by rfl, ?_⟩) (by assumption) ?_
  rotate_left
  · (intro w hSw; obtain ⟨q0, q1⟩ := hSw; go_simp; (try with_reducible rfl))
  (try simp only [List.getElem_toArray, List.getElem_cons_zero, List.getElem_cons_succ, Act.put, List.setIfInBounds_toArray, List.set_cons_zero, List.set_cons_succ])
  refine wpAnyH_take (i := 12) (v := ?_) rfl (by kernel_rfl) (by kernel_rfl) (by kernel_rfl) (fun _ _ _ h => h) (Or.inl ⟨by rfl, ?_⟩) (by assumption) ?_
  rotate_left
  · (intro w hSw; obtain ⟨q0, q1⟩ := hSw; go_simp; (try with_reducible rfl))
  (try simp only [List.getElem_toArray, List.getElem_cons_zero, List.getElem_cons_succ, Act.put, List.setIfInBounds_toArray, List.set_cons_zero, List.set_cons_succ])
  refine wpAnyH_take (i := 13) (v := ?_) rfl (by kernel_rfl) (by kernel_rfl) (by kernel_rfl) (fun _ _ _ h => h) (Or.inl ⟨by rfl, ?_⟩) (by assumption) ?_
  rotate_left
  · (intro w hSw; obtain ⟨q0, q1⟩ := hSw; go_simp; (try with_reducible rfl))
  (try simp only [List.getElem_toArray, List.getElem_cons_zero, List.getElem_cons_succ, Act.put, List.setIfInBounds_toArray, List.set_cons_zero, List.set_cons_succ])
  refine wpAnyH_take (i := 14) (v := ?_) rfl (by kernel_rfl) (by kernel_rfl) (by kernel_rfl) (fun _ _ _ h => h) (Or.inl ⟨by rfl, ?_⟩) (by assumption) ?_
  rotate_left
  · (intro w hSw; obtain ⟨q0, q1⟩ := hSw; go_simp; (try with_reducible rfl))
  (try simp only [List.getElem_toArray, List.getElem_cons_zero, List.getElem_cons_succ, Act.put, List.setIfInBounds_toArray, List.set_cons_zero, List.set_cons_succ])
  refine wpAnyH_take (i := 15) (v := ?_) rfl (by kernel_rfl) (by kernel_rfl) (by kernel_rfl) (fun _ _ _ h => h) (Or.inl ⟨by rfl, ?_⟩) (by assumption) ?_
  rotate_left
  · (intro w hSw; obtain ⟨q0, q1⟩ := hSw; go_simp; (try with_reducible rfl))
  (try simp only [List.getElem_toArray, List.getElem_cons_zero, List.getElem_cons_succ, Act.put, List.setIfInBounds_toArray, List.set_cons_zero, List.set_cons_succ])
  refine wpAnyH_done (by kernel_rfl) ?_ _
  go_wp2_with fail
  go_ret3
  exact ⟨rfl, B0.out.trans (hbx.mono B0.out.size)⟩
set_option maxRecDepth 100000 in
set_option maxHeartbeats 2000000 in
theorem mvGoal_k (x : ScM) (k : ScOk x) (P : Nat) (g c : Int) (_hc : -9223372036854775808 ≤ c ∧ c ≤ 9223372036854775807) (w : World) (h : IsSc w P x) (hq : x.q ≤ 1000001) :
    Calls Tryz.prog 94 #[.pointer (some ⟨P, 0, none⟩), .agg #[.int .i32 107, .int .i32 g, .int .i64 c]] w fun e w' => e = .returned (.tuple #[.int .i64 ((inLineR x ((x.q : Int) - (x.n : Int))).getD 0 : Nat), .int .i64 2, .bool (inLineR x ((x.q : Int) - (x.n : Int))).isSome]) ∧ Below w.heap.size w w' := by
  have HF0 := Lib.hid (fun wz (hz : IsSc wz P x) => mvInLine_any x k P ((x.q : Int) - (x.n : Int)) wz hz)
  have hn := k.many
  clear k
  generalize inLineR x ((x.q : Int) - (x.n : Int)) = v at *
  go_enter Tryz.func94, Tryz.ntmps94
  go_upto_region 1 with fail
  have B0 := Lib.hid ((Below.refl w.heap.size w).alloc (Nat.le_refl _) (.cells #[.int .i32 107, .int .i32 g, .int .i64 c] 73))
  have C0 := Lib.hid (Blk.new w 73 (motC 107 g c))
  change Hid (Blk (w.alloc (.cells #[.int .i32 107, .int .i32 g, .int .i64 c] 73)) w.heap.size 73 (motC 107 g c)) at C0
  generalize w.alloc (.cells #[.int .i32 107, .int .i32 g, .int .i64 c] 73) = wb at *
  have HS : Hid (∀ wz, Below wb.heap.size wb wz → IsSc wz P x) := fun wz hb => h.below (B0.out.trans (hb.mono B0.out.size))
  have HM : Hid (∀ wz, Below wb.heap.size wb wz → wz.cell? ⟨w.heap.size, 0, none⟩ = some (.int .i32 107) ∧ wz.cell? ⟨w.heap.size, 1, none⟩ = some (.int .i32 g) ∧ wz.cell? ⟨w.heap.size, 2, none⟩ = some (.int .i64 c)) := fun wz hb => mot_cells (C0.out.below hb C0.out.lt)
  have hb0 : Below wb.heap.size wb wb := Below.refl _ _
  clear C0 h
  obtain ⟨m0, m1, m2⟩ := HM.out _ hb0
  have HF := mv_in (A := wb) fun wz hb => HF0.out wz (HS.out wz hb)
  have KC : Hid (∀ wz, Below wb.heap.size wb wz → wz.cell? ⟨P, 2, none⟩ = some (.int .i64 (x.q : Nat)) ∧ wz.cell? ⟨P, 5, none⟩ = some (.int .i64 (x.n : Nat))) := fun wz hb => ⟨(HS.out wz hb).q, (HS.out wz hb).n⟩
  clear HF0 HS HM
  generalize x.q = q at *
  generalize x.n = n at *
  obtain ⟨hn1, hn2⟩ := hn
  have hw1 := wrapM_near ((q : Int) - (n : Int)) (by omega) (by omega)
  go_upto_region 22 with fail
  refine wp_region_held_drew (S := fun w' => w'.cell? ⟨P, 2, none⟩ = some (.int .i64 (q : Nat)) ∧ w'.cell? ⟨P, 5, none⟩ = some (.int .i64 (n : Nat))) (by kernel_rfl) (KC.out _ (mv_dr hb0)) (fun hHeld => ?_)
  refine wpAnyH_take (i := 0) (v := ?_) rfl (by kernel_rfl) (by kernel_rfl) (by kernel_rfl) (fun _ _ _ h => h) (Or.inl ⟨by rfl, ?_⟩) (by assumption) ?_
  rotate_left
  · (intro w hSw; obtain ⟨q0, q1⟩ := hSw; go_simp; (try with_reducible rfl))
  (try simp only [List.getElem_toArray, List.getElem_cons_zero, Act.put, List.setIfInBounds_toArray, List.set_cons_zero, List.set_cons_succ])
  refine wpAnyH_take (i := 1) (v := ?_) rfl (by kernel_rfl) (by kernel_rfl) (by kernel_rfl) (fun _ _ _ h => h) (Or.inl ⟨by rfl, ?_⟩) (by assumption) ?_
  rotate_left
  · (intro w hSw; obtain ⟨q0, q1⟩ := hSw; go_simp; (try with_reducible rfl))
  (try simp only [List.getElem_toArray, List.getElem_cons_zero, List.getElem_cons_succ, Act.put, List.setIfInBounds_toArray, List.set_cons_zero, List.set_cons_succ])
  refine wpAnyH_take (i := 2) (v := ?_) rfl (by kernel_rfl) (by kernel_rfl) (by kernel_rfl) (fun _ _ _ h => h) (Or.inl ⟨by rfl, ?_⟩) (by assumption) ?_
  rotate_left
  · (intro w hSw; obtain ⟨q0, q1⟩ := hSw; go_simp; (try with_reducible rfl))
  (try simp only [List.getElem_toArray, List.getElem_cons_zero, List.getElem_cons_succ, Act.put, List.setIfInBounds_toArray, List.set_cons_zero, List.set_cons_succ])
  refine wpAnyH_take (i := 3) (v := ?_) rfl (by kernel_rfl) (by kernel_rfl) (by kernel_rfl) (fun _ _ _ h => h) (Or.inl ⟨by rfl, ?_⟩) (by assumption) ?_
  rotate_left
  · (intro w hSw; obtain ⟨q0, q1⟩ := hSw; go_simp; (try with_reducible rfl))
  (try simp only [List.getElem_toArray, List.getElem_cons_zero, List.getElem_cons_succ, Act.put, List.setIfInBounds_toArray, List.set_cons_zero, List.set_cons_succ])
  refine wpAnyH_take (i := 4) (v := ?_) rfl (by kernel_rfl) (by kernel_rfl) (by kernel_rfl) (fun _ _ _ h => h) (Or.inl ⟨by rfl, ?_⟩) (by assumption) ?_
  rotate_left
  · (intro w hSw; obtain ⟨q0, q1⟩ := hSw; go_simp; (try with_reducible rfl))
  (try simp only [List.getElem_toArray, List.getElem_cons_zero, List.getElem_cons_succ, Act.put, List.setIfInBounds_toArray, List.set_cons_zero, List.set_cons_succ])
  refine wpAnyH_take (i := 5) (v := ?_) rfl (by kernel_rfl) (by kernel_rfl) (by kernel_rfl) (fun _ _ _ h => h) (Or.inl ⟨by rfl, ?_⟩) (by assumption) ?_
  rotate_left
  · (intro w hSw; obtain ⟨q0, q1⟩ := hSw; go_simp; (try with_reducible rfl))
  (try simp only [List.getElem_toArray, List.getElem_cons_zero, List.getElem_cons_succ, Act.put, List.setIfInBounds_toArray, List.set_cons_zero, List.set_cons_succ])
  refine wpAnyH_take (i := 6) (v := ?_) rfl (by kernel_rfl) (by kernel_rfl) (by kernel_rfl) (fun _ _ _ h => h) (Or.inl ⟨by rfl, ?_⟩) (by assumption) ?_
  rotate_left
  · (intro w hSw; obtain ⟨q0, q1⟩ := hSw; go_simp; (try with_reducible rfl))
  (try simp only [List.getElem_toArray, List.getElem_cons_zero, List.getElem_cons_succ, Act.put, List.setIfInBounds_toArray, List.set_cons_zero, List.set_cons_succ])
  refine wpAnyH_take (i := 7) (v := ?_) rfl (by kernel_rfl) (by kernel_rfl) (by kernel_rfl) (fun _ _ _ h => h) (Or.inl ⟨by rfl, ?_⟩) (by assumption) ?_
  rotate_left
  · (intro w hSw; obtain ⟨q0, q1⟩ := hSw; go_simp; (try with_reducible rfl))
  (try simp only [List.getElem_toArray, List.getElem_cons_zero, List.getElem_cons_succ, Act.put, List.setIfInBounds_toArray, List.set_cons_zero, List.set_cons_succ])
  refine wpAnyH_take (i := 8) (v := ?_) rfl (by kernel_rfl) (by kernel_rfl) (by kernel_rfl) (fun _ _ _ h => h) (Or.inl ⟨by rfl, ?_⟩) (by assumption) ?_
  rotate_left
  · (intro w hSw; obtain ⟨q0, q1⟩ := hSw; go_simp; (try with_reducible rfl))
  (try simp only [List.getElem_toArray, List.getElem_cons_zero, List.getElem_cons_succ, Act.put, List.setIfInBounds_toArray, List.set_cons_zero, List.set_cons_succ])
  refine wpAnyH_take (i := 9) (v := ?_) rfl (by kernel_rfl) (by kernel_rfl) (by kernel_rfl) (fun _ _ _ h => h) (Or.inl ⟨by rfl, ?_⟩) (by assumption) ?_
  rotate_left
  · (intro w hSw; obtain ⟨q0, q1⟩ := hSw; go_simp; (try with_reducible rfl))
  (try simp only [List.getElem_toArray, List.getElem_cons_zero, List.getElem_cons_succ, Act.put, List.setIfInBounds_toArray, List.set_cons_zero, List.set_cons_succ])
  refine wpAnyH_ready (rs := [10]) (by kernel_rfl) (by simp) ?_
  refine AllReadyH.cons rfl (fun K hK => ?_) AllReadyH.nil
  go_simp
  refine (HF.out _ (mv_dr hb0)).mono ?_
  rintro ee w1 ⟨rfl, hbx⟩
  (try go_wp2_with fail)
  refine hK.out _ _ (KC.out _ hbx) (fun hHeld => ?_)
  clear hK K
  (try simp only [List.getElem_toArray, List.getElem_cons_zero, List.getElem_cons_succ, Act.put, List.setIfInBounds_toArray, List.set_cons_zero, List.set_cons_succ])
  refine wpAnyH_take (i := 11) (v := ?_) rfl (by kernel_rfl) (by kernel_rfl) (by kernel_rfl) (fun _ _ _ h => h) (Or.inl ⟨by rfl, ?_⟩) (by assumption) ?_
  rotate_left
  · (intro w hSw; obtain ⟨q0, q1⟩ := hSw; go_simp; (try with_reducible rfl))
  (try simp only [List.getElem_toArray, List.getElem_cons_zero, List.getElem_cons_succ, Act.put, List.setIfInBounds_toArray, List.set_cons_zero, List.set_cons_succ])
  refine wpAnyH_take (i := 12) (v := ?_) rfl (by kernel_rfl) (by kernel_rfl) (by kernel_rfl) (fun _ _ _ h => h) (Or.inl ⟨by rfl, ?_⟩) (by assumption) ?_
  rotate_left
  · (intro w hSw; obtain ⟨q0, q1⟩ := hSw; go_simp; (try with_reducible rfl))
  (try simp only [List.getElem_toArray, List.getElem_cons_zero, List.getElem_cons_succ, Act.put, List.setIfInBounds_toArray, List.set_cons_zero, List.set_cons_succ])
  refine wpAnyH_take (i := 13) (v := ?_) rfl (by kernel_rfl) (by kernel_rfl) (by kernel_rfl) (fun _ _ _ h => h) (Or.inl ⟨by rfl, ?_⟩) (by assumption) ?_
  rotate_left
  · (intro w hSw; obtain ⟨q0, q1⟩ := hSw; go_simp; (try with_reducible rfl))
  (try simp only [List.getElem_toArray, List.getElem_cons_zero, List.getElem_cons_succ, Act.put, List.setIfInBounds_toArray, List.set_cons_zero, List.set_cons_succ])
  refine wpAnyH_take (i := 14) (v := ?_) rfl (by kernel_rfl) (by kernel_rfl) (by kernel_rfl) (fun _ _ _ h => h) (Or.inl ⟨by rfl, ?_⟩) (by assumption) ?_
  rotate_left
  · (intro w hSw; obtain ⟨q0, q1⟩ := hSw; go_simp; (try with_reducible rfl))
  (try simp only [List.getElem_toArray, List.getElem_cons_zero, List.getElem_cons_succ, Act.put, List.setIfInBounds_toArray, List.set_cons_zero, List.set_cons_succ])
  refine wpAnyH_take (i := 15) (v := ?_) rfl (by kernel_rfl) (by kernel_rfl) (by kernel_rfl) (fun _ _ _ h => h) (Or.inl ⟨by rfl, ?_⟩) (by assumption) ?_
  rotate_left
  · (intro w hSw; obtain ⟨q0, q1⟩ := hSw; go_simp; (try with_reducible rfl))
  (try simp only [List.getElem_toArray, List.getElem_cons_zero, List.getElem_cons_succ, Act.put, List.setIfInBounds_toArray, List.set_cons_zero, List.set_cons_succ])
  refine wpAnyH_done (by kernel_rfl) ?_ _
  go_wp2_with fail
  go_ret3
  exact ⟨rfl, B0.out.trans (hbx.mono B0.out.size)⟩
set_option maxRecDepth 100000 in
set_option maxHeartbeats 2000000 in
theorem mvGoal_G (x : ScM) (k : ScOk x) (P : Nat) (g c : Int) (hc : -9223372036854775808 ≤ c ∧ c ≤ 9223372036854775807) (w : World) (h : IsSc w P x) :
    Calls Tryz.prog 94 #[.pointer (some ⟨P, 0, none⟩), .agg #[.int .i32 71, .int .i32 g, .int .i64 c]] w fun e w' => e = .returned (.tuple #[.int .i64 (firstL x.s (meantM x.s 71 c : Nat) : Nat), .int .i64 2, .bool true]) ∧ Below w.heap.size w w' := by
  have HF0 := Lib.hid (fun wz => linFirst_any x.s k.len (meantM x.s 71 c : Nat) wz)
  have HE0 := Lib.hid (fun wz (hz : IsSc wz P x) => mvMeant_any x k.len 71 g c hc P wz hz)
  clear k
  generalize firstL x.s (meantM x.s 71 c : Nat) = v at *
  generalize meantM x.s 71 c = u at *
  go_enter Tryz.func94, Tryz.ntmps94
  go_upto_region 1 with fail
  have B0 := Lib.hid ((Below.refl w.heap.size w).alloc (Nat.le_refl _) (.cells #[.int .i32 71, .int .i32 g, .int .i64 c] 73))
  have C0 := Lib.hid (Blk.new w 73 (motC 71 g c))
  change Hid (Blk (w.alloc (.cells #[.int .i32 71, .int .i32 g, .int .i64 c] 73)) w.heap.size 73 (motC 71 g c)) at C0
  generalize w.alloc (.cells #[.int .i32 71, .int .i32 g, .int .i64 c] 73) = wb at *
  have HS : Hid (∀ wz, Below wb.heap.size wb wz → IsSc wz P x) := fun wz hb => h.below (B0.out.trans (hb.mono B0.out.size))
  have HM : Hid (∀ wz, Below wb.heap.size wb wz → wz.cell? ⟨w.heap.size, 0, none⟩ = some (.int .i32 71) ∧ wz.cell? ⟨w.heap.size, 1, none⟩ = some (.int .i32 g) ∧ wz.cell? ⟨w.heap.size, 2, none⟩ = some (.int .i64 c)) := fun wz hb => mot_cells (C0.out.below hb C0.out.lt)
  have hb0 : Below wb.heap.size wb wb := Below.refl _ _
  clear C0 h
  obtain ⟨m0, m1, m2⟩ := HM.out _ hb0
  have HF := mv_in (A := wb) fun wz _ => HF0.out wz
  have HE := mv_in (A := wb) fun wz hb => HE0.out wz (HS.out wz hb)
  have KC : Hid (∀ wz, Below wb.heap.size wb wz → wz.cell? ⟨P, 0, none⟩ = some (.string ⟨x.s.toArray⟩) ∧ wz.cell? ⟨w.heap.size, 0, none⟩ = some (.int .i32 71) ∧ wz.cell? ⟨w.heap.size, 1, none⟩ = some (.int .i32 g) ∧ wz.cell? ⟨w.heap.size, 2, none⟩ = some (.int .i64 c)) := fun wz hb => ⟨(HS.out wz hb).s, HM.out wz hb⟩
  go_upto_region 26 with fail
  go_region_held3 (fun w' => w'.cell? ⟨P, 0, none⟩ = some (.string ⟨x.s.toArray⟩) ∧ w'.cell? ⟨w.heap.size, 0, none⟩ = some (.int .i32 71) ∧ w'.cell? ⟨w.heap.size, 1, none⟩ = some (.int .i32 g) ∧ w'.cell? ⟨w.heap.size, 2, none⟩ = some (.int .i64 c))
    ((refine KC.out _ ?_; first | assumption | exact mv_dr hb0))
    (first
      | (go_at_call 142; refine (HE.out _ ?_).mono ?_; (first | assumption | exact mv_dr hb0); rintro e w1 ⟨rfl, hbx⟩)
      | (go_at_call 103; refine (HF.out _ ?_).mono ?_; (first | assumption | exact mv_dr hb0); rintro e w2 ⟨rfl, hby⟩))
  all_goals go_wp2_with fail
  all_goals go_ret3
  all_goals exact ⟨rfl, B0.out.trans (hby.mono B0.out.size)⟩
set_option maxRecDepth 100000 in
set_option maxHeartbeats 2000000 in
theorem mvGoal_g (x : ScM) (k : ScOk x) (P : Nat) (g c : Int) (hc : -9223372036854775808 ≤ c ∧ c ≤ 9223372036854775807) (w : World) (h : IsSc w P x) :
    Calls Tryz.prog 94 #[.pointer (some ⟨P, 0, none⟩), .agg #[.int .i32 103, .int .i32 g, .int .i64 c]] w fun e w' => e = .returned (.tuple #[.int .i64 (firstL x.s (meantM x.s 103 c : Nat) : Nat), .int .i64 2, .bool true]) ∧ Below w.heap.size w w' := by
  have HF0 := Lib.hid (fun wz => linFirst_any x.s k.len (meantM x.s 103 c : Nat) wz)
  have HE0 := Lib.hid (fun wz (hz : IsSc wz P x) => mvMeant_any x k.len 103 g c hc P wz hz)
  clear k
  generalize firstL x.s (meantM x.s 103 c : Nat) = v at *
  generalize meantM x.s 103 c = u at *
  go_enter Tryz.func94, Tryz.ntmps94
  go_upto_region 1 with fail
  have B0 := Lib.hid ((Below.refl w.heap.size w).alloc (Nat.le_refl _) (.cells #[.int .i32 103, .int .i32 g, .int .i64 c] 73))
  have C0 := Lib.hid (Blk.new w 73 (motC 103 g c))
  change Hid (Blk (w.alloc (.cells #[.int .i32 103, .int .i32 g, .int .i64 c] 73)) w.heap.size 73 (motC 103 g c)) at C0
  generalize w.alloc (.cells #[.int .i32 103, .int .i32 g, .int .i64 c] 73) = wb at *
  have HS : Hid (∀ wz, Below wb.heap.size wb wz → IsSc wz P x) := fun wz hb => h.below (B0.out.trans (hb.mono B0.out.size))
  have HM : Hid (∀ wz, Below wb.heap.size wb wz → wz.cell? ⟨w.heap.size, 0, none⟩ = some (.int .i32 103) ∧ wz.cell? ⟨w.heap.size, 1, none⟩ = some (.int .i32 g) ∧ wz.cell? ⟨w.heap.size, 2, none⟩ = some (.int .i64 c)) := fun wz hb => mot_cells (C0.out.below hb C0.out.lt)
  have hb0 : Below wb.heap.size wb wb := Below.refl _ _
  clear C0 h
  obtain ⟨m0, m1, m2⟩ := HM.out _ hb0
  have HF := mv_in (A := wb) fun wz _ => HF0.out wz
  have HE := mv_in (A := wb) fun wz hb => HE0.out wz (HS.out wz hb)
  have KC : Hid (∀ wz, Below wb.heap.size wb wz → wz.cell? ⟨P, 0, none⟩ = some (.string ⟨x.s.toArray⟩) ∧ wz.cell? ⟨w.heap.size, 0, none⟩ = some (.int .i32 103) ∧ wz.cell? ⟨w.heap.size, 1, none⟩ = some (.int .i32 g) ∧ wz.cell? ⟨w.heap.size, 2, none⟩ = some (.int .i64 c)) := fun wz hb => ⟨(HS.out wz hb).s, HM.out wz hb⟩
  go_upto_region 26 with fail
  go_region_held3 (fun w' => w'.cell? ⟨P, 0, none⟩ = some (.string ⟨x.s.toArray⟩) ∧ w'.cell? ⟨w.heap.size, 0, none⟩ = some (.int .i32 103) ∧ w'.cell? ⟨w.heap.size, 1, none⟩ = some (.int .i32 g) ∧ w'.cell? ⟨w.heap.size, 2, none⟩ = some (.int .i64 c))
    ((refine KC.out _ ?_; first | assumption | exact mv_dr hb0))
    (first
      | (go_at_call 142; refine (HE.out _ ?_).mono ?_; (first | assumption | exact mv_dr hb0); rintro e w1 ⟨rfl, hbx⟩)
      | (go_at_call 103; refine (HF.out _ ?_).mono ?_; (first | assumption | exact mv_dr hb0); rintro e w2 ⟨rfl, hby⟩))
  all_goals go_wp2_with fail
  all_goals go_ret3
  all_goals exact ⟨rfl, B0.out.trans (hby.mono B0.out.size)⟩
end Go.Proofs.YtgpmfkedcoiopaaGreatDoor
