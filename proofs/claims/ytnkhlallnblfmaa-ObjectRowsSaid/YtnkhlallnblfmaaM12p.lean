/-
  Merged: MvWith, MvTwic, MvTwo, MvFin.
-/
import Derived.Test.YtnkhlallnblfmaaM12r
/-
  Where motions lead is a sign's beginning, or the end: layer 12.
-/
namespace Go.Proofs.Ytnkhlallnblfmaa
open Go.RowKit

/-- a sign begins here, or the text ends -/
def Beg (S : List UInt8) (x : Nat) : Prop := ∃ i, i ≤ (chars S).length ∧ x = width ((chars S).take i)
theorem Beg.take (S : List UInt8) (i : Nat) : Beg S (width ((chars S).take i)) := by
  rcases Nat.le_total i (chars S).length with h | h
  · exact ⟨i, h, rfl⟩
  · exact ⟨(chars S).length, Nat.le_refl _, by rw [List.take_of_length_le h, List.take_of_length_le (Nat.le_refl _)]⟩
theorem Beg.le {S : List UInt8} {x : Nat} (h : Beg S x) : x ≤ S.length := by
  obtain ⟨i, _, rfl⟩ := h
  have := width_le_take (chars S) i
  rwa [width_chars] at this
theorem Beg.align {S : List UInt8} {x : Nat} (h : Beg S x) : alignM S (x : Nat) = x := by
  obtain ⟨i, hi, rfl⟩ := h
  unfold alignM
  rw [← (which_self hi).unique (which_is _ _)]
theorem Beg.zero (S : List UInt8) : Beg S 0 := ⟨0, Nat.zero_le _, by simp [width]⟩
theorem Beg.last (S : List UInt8) : Beg S S.length := ⟨(chars S).length, Nat.le_refl _, by rw [List.take_of_length_le (Nat.le_refl _), width_chars]⟩
theorem Beg.alignM (S : List UInt8) (p : Int) : Beg S (alignM S p) := Beg.take S _
theorem Beg.nextM (S : List UInt8) (p : Int) : Beg S (nextM S p) := Beg.take S _
theorem Beg.prevM (S : List UInt8) (p : Int) : Beg S (prevM S p) := Beg.take S _
theorem Beg.line {S : List UInt8} {n : Nat} (h : n < countL S) (k : Nat) (hk : k ≤ (signsL S n).length) : Beg S (begL S n + width ((signsL S n).take k)) := by
  obtain ⟨A, C, h1, h2, _, _⟩ := line_signs h
  refine ⟨A.length + k, by rw [h1]; simp; omega, ?_⟩
  rw [h1, List.append_assoc, List.take_length_add_append, List.take_append_of_le_length hk, width_append, h2]
theorem Beg.begL {S : List UInt8} {n : Nat} (h : n < countL S) : Beg S (begL S n) := by
  have := Beg.line h 0 (Nat.zero_le _)
  simpa [width] using this
theorem Beg.endL {S : List UInt8} {n : Nat} (h : n < countL S) : Beg S (endL S n) := by
  obtain ⟨A, C, h1, h2, h3, _⟩ := line_signs h
  have := Beg.line h (signsL S n).length (Nat.le_refl _)
  rw [List.take_of_length_le (Nat.le_refl _)] at this
  rwa [← h2, h3] at this
theorem Beg.bounds {S : List UInt8} {n : Int} (h : 0 ≤ n ∧ n < (countL S : Int)) : Beg S (boundsL S n).1.1 ∧ Beg S (boundsL S n).1.2 := by
  obtain ⟨m, rfl⟩ : ∃ m : Nat, n = m := ⟨n.toNat, by omega⟩
  have hm : m < countL S := by omega
  rw [boundsL_nat hm]
  exact ⟨Beg.begL hm, Beg.endL hm⟩
theorem Beg.firstL (S : List UInt8) (n : Int) : Beg S (firstL S n) := by
  have hb := brought_lt S n
  refine Beg.line hb _ ?_
  unfold firstJ
  omega
theorem Beg.placeL (S : List UInt8) (n c : Int) : Beg S (placeL S n c) := by
  have hb := brought_lt S n
  rw [placeL_eq]
  exact Beg.line hb _ (by omega)
theorem Beg.places {S : List UInt8} {q : Nat → Bool} {k x : Nat} (h : x ∈ placesTo (chars S) q k) : Beg S x := by
  unfold placesTo at h
  obtain ⟨i, _, rfl⟩ := List.mem_map.1 h
  exact Beg.take S i
theorem Beg.empt {S : List UInt8} {x : Nat} (h : x ∈ emptM S) : Beg S x := by
  unfold emptM emptTo pickTo at h
  obtain ⟨i, hi, rfl⟩ := List.mem_map.1 h
  have := List.mem_range.1 (List.mem_filter.1 hi).1
  exact (Beg.bounds (S := S) (n := (i : Int)) (by omega)).1
theorem Beg.behind {S : List UInt8} {l : List Nat} {a n d : Nat} (hl : ∀ x ∈ l, Beg S x) (hd : Beg S d) : Beg S ((behindM l a n).getD d) := by
  rcases h : behindM l a n with _ | x
  · exact hd
  · exact hl x (behindM_mem h).1
theorem Beg.ahead {S : List UInt8} {l : List Nat} {a n d : Nat} (hl : ∀ x ∈ l, Beg S x) (hd : Beg S d) : Beg S ((aheadM l a n).getD d) := by
  rcases h : aheadM l a n with _ | x
  · exact hd
  · exact hl x (aheadM_mem h).1
theorem Beg.of (S : List UInt8) (p : Int) : Beg S (boundsL S (ofL S p : Nat)).1.1 ∧ Beg S (boundsL S (ofL S p : Nat)).1.2 := Beg.bounds (by have := ofL_le S p; omega)
theorem sideM_beg {S : List UInt8} {a n x : Nat} {key : Int} (hn : 1 ≤ n) (h : sideM S a n key = some x) : Beg S x := by
  have hof := Beg.of S (a : Nat)
  unfold sideM at h
  split at h
  · injection h with h; subst h; exact Beg.ahead (fun x hx => Beg.places hx) hof.1
  · split at h
    · injection h with h; subst h; exact Beg.behind (fun x hx => Beg.places hx) hof.2
    · split at h
      · injection h with h; subst h; exact hof.1
      · split at h
        · injection h with h; subst h; exact Beg.firstL S _
        · split at h
          · next h2 => injection h with h; subst h; exact (Beg.bounds ⟨by omega, h2⟩).2
          · cases h
theorem wordsM_beg (S : List UInt8) (a n : Nat) (key : Int) : Beg S (wordsM S a n key) := by
  unfold wordsM
  split
  · exact Beg.behind (fun x hx => Beg.places hx) (Beg.last S)
  · split
    · exact Beg.ahead (fun x hx => Beg.places hx) (Beg.zero S)
    · split
      · exact Beg.behind (fun x hx => Beg.empt hx) (Beg.last S)
      · exact Beg.ahead (fun x hx => Beg.empt hx) (Beg.zero S)
theorem findsM_beg {S : List UInt8} {a n x : Nat} {key arg : Int} (h : findsM S a n key arg = some x) : Beg S x := by
  unfold findsM at h
  split at h
  · cases h
  · split at h
    · exact Beg.places (behindM_mem h).1
    · split at h
      · obtain ⟨y, _, rfl⟩ := Option.map_eq_some_iff.1 h; exact Beg.prevM S _
      · split at h
        · obtain ⟨y, _, rfl⟩ := Option.map_eq_some_iff.1 h; exact Beg.nextM S _
        · exact Beg.places (aheadM_mem h).1
theorem linesM_beg {S : List UInt8} {a n x : Nat} {key count : Int} (h : linesM S a n key count = some x) : Beg S x := by
  unfold linesM at h
  split at h
  · injection h with h
    subst h
    split
    · exact Beg.placeL S _ _
    · exact Beg.firstL S _
  · cases h
theorem exclM_some {a : Nat} {r : Option Nat} {x k : Nat} (h : exclM a r = some (x, k)) : r = some x ∧ k = 0 ∧ x ≠ a := by
  unfold exclM at h
  obtain ⟨y, rfl, h'⟩ := Option.bind_eq_some_iff.1 h
  split at h'
  · cases h'
  · next hy => injection h' with h'; injection h' with h1 h2; subst h1; exact ⟨rfl, h2.symm, hy⟩
theorem inclM_some {r : Option Nat} {x k : Nat} (h : inclM r = some (x, k)) : r = some x ∧ k = 1 := by
  unfold inclM at h
  obtain ⟨y, rfl, h'⟩ := Option.map_eq_some_iff.1 h
  injection h' with h1 h2
  subst h1
  exact ⟨rfl, h2.symm⟩
theorem many_pos (c : Int) : 1 ≤ manyM c ∧ manyM c ≤ 999 := by unfold manyM; omega
/-- where a motion leads -/
theorem toM_within {S : List UInt8} {p key arg c : Int} {x k : Nat} (h : toM S p key arg c = some (x, k)) : Beg S x ∧ k ≤ 2 ∧ (k = 0 → x ≠ alignM S p) := by
  have hn := (many_pos c).1
  unfold toM at h
  dsimp only at h
  split at h
  · obtain ⟨h1, h2, h3⟩ := exclM_some h; exact ⟨sideM_beg hn h1, by omega, fun _ => h3⟩
  · split at h
    · obtain ⟨h1, h2, h3⟩ := exclM_some h
      injection h1 with h1
      subst h1
      exact ⟨wordsM_beg S _ _ _, by omega, fun _ => h3⟩
    · split at h
      · split at h
        · injection h with h
          injection h with h1 h2
          subst h1 h2
          exact ⟨Beg.behind (fun x hx => Beg.places hx) (Beg.prevM S _), by omega, fun h => by cases h⟩
        · cases h
      · split at h
        · obtain ⟨h1, h2⟩ := inclM_some h; exact ⟨findsM_beg h1, by omega, fun h => by omega⟩
        · split at h
          · obtain ⟨h1, h2, h3⟩ := exclM_some h; exact ⟨findsM_beg h1, by omega, fun _ => h3⟩
          · split at h
            · obtain ⟨y, h1, h2⟩ := Option.map_eq_some_iff.1 h
              injection h2 with h2 h3
              subst h2 h3
              exact ⟨linesM_beg h1, by omega, fun h => by cases h⟩
            · cases h
end Go.Proofs.Ytnkhlallnblfmaa

/-
  Two motions of one kind, one behind the other, as plain functions: layer 12.
-/
namespace Go.Proofs.Ytnkhlallnblfmaa
open Go.RowKit

/-- a list that rises -/
def Rises (l : List Nat) : Prop := l.Pairwise (· < ·)
theorem rises_filter_drop : ∀ {l : List Nat}, Rises l → ∀ {k x : Nat}, l[k]? = some x → l.filter (fun y => decide (x < y)) = l.drop (k + 1) := by
  intro l
  induction l with
  | nil => intro _ k x h; simp at h
  | cons b l ih =>
    intro hr k x h
    have hr' := List.pairwise_cons.1 hr
    cases k with
    | zero =>
      simp at h
      subst h
      rw [List.filter_cons_of_neg (by simp), List.filter_eq_self.2 (fun y hy => decide_eq_true (hr'.1 y hy))]
      rfl
    | succ k =>
      simp at h
      have hb : b < x := hr'.1 x (List.mem_of_getElem? h)
      rw [List.filter_cons_of_neg (by simp; omega), ih hr'.2 h]
      rfl
theorem rises_filter_take : ∀ {l : List Nat}, Rises l → ∀ {k x : Nat}, l[k]? = some x → l.filter (fun y => decide (y < x)) = l.take k := by
  intro l
  induction l with
  | nil => intro _ k x h; simp at h
  | cons b l ih =>
    intro hr k x h
    have hr' := List.pairwise_cons.1 hr
    cases k with
    | zero =>
      simp at h
      subst h
      rw [List.filter_cons_of_neg (by simp), List.take_zero]
      exact List.filter_eq_nil_iff.2 (fun y hy => by have := hr'.1 y hy; simp; omega)
    | succ k =>
      simp at h
      have hb : b < x := hr'.1 x (List.mem_of_getElem? h)
      rw [List.filter_cons_of_pos (by simpa using hb), ih hr'.2 h]
      rfl
theorem filter_filter_lt (l : List Nat) {a x : Nat} (h : a < x) : (l.filter fun y => decide (a < y)).filter (fun y => decide (x < y)) = l.filter (fun y => decide (x < y)) := by
  rw [List.filter_filter]
  congr 1
  funext y
  by_cases hy : x < y
  · simp [hy, show a < y by omega]
  · simp [hy]
theorem filter_filter_gt (l : List Nat) {a x : Nat} (h : x < a) : (l.filter fun y => decide (y < a)).filter (fun y => decide (y < x)) = l.filter (fun y => decide (y < x)) := by
  rw [List.filter_filter]
  congr 1
  funext y
  by_cases hy : y < x
  · simp [hy, show y < a by omega]
  · simp [hy]
theorem behindM_twice {l : List Nat} (hr : Rises l) {a n x m : Nat} (hn : 1 ≤ n) (hm : 1 ≤ m) (h : behindM l a n = some x) : behindM l x m = behindM l a (n + m) := by
  have hx := (behindM_mem h).2
  unfold behindM at h ⊢
  rw [← filter_filter_lt l hx, rises_filter_drop (hr.filter _) h, List.getElem?_drop]
  congr 1
  omega
theorem aheadM_twice {l : List Nat} (hr : Rises l) {a n x m : Nat} (hn : 1 ≤ n) (hm : 1 ≤ m) (h : aheadM l a n = some x) : aheadM l x m = aheadM l a (n + m) := by
  have hx := (aheadM_mem h).2
  unfold aheadM at h ⊢
  generalize hf : l.filter (fun y => decide (y < a)) = f at h
  have hrf : Rises f := by rw [← hf]; exact hr.filter _
  have hlt : n - 1 < f.length := by
    rcases Nat.lt_or_ge (n - 1) f.length with h' | h'
    · exact h'
    · rw [List.getElem?_eq_none (by rw [List.length_reverse]; exact h')] at h; cases h
  rw [List.getElem?_reverse hlt] at h
  have e : l.filter (fun y => decide (y < x)) = f.take (f.length - 1 - (n - 1)) := by
    rw [← filter_filter_gt l hx, hf]
    exact rises_filter_take hrf h
  rw [e]
  by_cases hmm : m - 1 < f.length - 1 - (n - 1)
  · rw [List.getElem?_reverse (by rw [List.length_take]; omega), List.getElem?_reverse (by omega), List.length_take, List.getElem?_take_of_lt (by omega)]
    congr 1
    omega
  · rw [List.getElem?_eq_none (by rw [List.length_reverse, List.length_take]; omega), List.getElem?_eq_none (by rw [List.length_reverse]; omega)]
theorem behindM_far {l : List Nat} {a n : Nat} (hn : 1 ≤ n) (h : ∀ x ∈ l, x ≤ a) : behindM l a n = none := by
  refine behindM_none ?_
  rw [List.filter_eq_nil_iff.2 (fun y hy => by have := h y hy; simp; omega)]
  simp; omega
theorem aheadM_far {l : List Nat} {a n : Nat} (hn : 1 ≤ n) (h : ∀ x ∈ l, a ≤ x) : aheadM l a n = none := by
  refine aheadM_none ?_
  rw [List.filter_eq_nil_iff.2 (fun y hy => by have := h y hy; simp; omega)]
  simp; omega
theorem behindM_more {l : List Nat} {a n m : Nat} (hn : 1 ≤ n) (h : behindM l a n = none) : behindM l a (n + m) = none := by
  unfold behindM at h ⊢
  have := List.getElem?_eq_none_iff.1 h
  exact List.getElem?_eq_none (by omega)
theorem aheadM_more {l : List Nat} {a n m : Nat} (hn : 1 ≤ n) (h : aheadM l a n = none) : aheadM l a (n + m) = none := by
  unfold aheadM at h ⊢
  have := List.getElem?_eq_none_iff.1 h
  exact List.getElem?_eq_none (by omega)
/-- places rise -/
theorem width_lt {S : List UInt8} {i j : Nat} (h : i < j) (hj : j ≤ (chars S).length) : width ((chars S).take i) < width ((chars S).take j) := by
  have h1 := width_succ (chars S) i (by omega)
  have h2 := width_take_mono (chars S) (show i + 1 ≤ j by omega)
  have h3 := chars_wide (S := S) _ (List.getElem_mem (show i < (chars S).length by omega))
  omega
theorem range_rises (k : Nat) : Rises (List.range k) := List.pairwise_lt_range
theorem places_rises (S : List UInt8) (q : Nat → Bool) : Rises (placesTo (chars S) q (chars S).length) := by
  unfold placesTo Rises
  rw [List.pairwise_map]
  refine List.Pairwise.imp_of_mem (R := (· < ·)) ?_ ((range_rises _).filter _)
  intro i j _ hj hij
  have := List.mem_range.1 (List.mem_filter.1 hj).1
  exact width_lt hij (by omega)
theorem places_lt {S : List UInt8} {q : Nat → Bool} : ∀ x ∈ placesTo (chars S) q (chars S).length, x < S.length := by
  intro x hx
  unfold placesTo at hx
  obtain ⟨i, hi, rfl⟩ := List.mem_map.1 hx
  have hi' := List.mem_range.1 (List.mem_filter.1 hi).1
  have := width_lt (S := S) hi' (Nat.le_refl _)
  rwa [List.take_of_length_le (Nat.le_refl _), width_chars] at this
theorem endL_mono {S : List UInt8} {i : Nat} : ∀ d, i + d < countL S → endL S i ≤ endL S (i + d) := by
  intro d
  induction d with
  | zero => intro _; exact Nat.le_refl _
  | succ d ih =>
    intro hd
    have h1 := ih (by omega)
    have h2 := beg_succ S (i + d)
    have h3 := beg_end (S := S) (n := i + d + 1) hd
    rw [show i + (d + 1) = i + d + 1 by omega]
    omega
theorem beg_lt {S : List UInt8} {i j : Nat} (h : i < j) (hj : j < countL S) : begL S i < begL S j := by
  obtain ⟨k, rfl⟩ : ∃ k, j = i + k + 1 := ⟨j - i - 1, by omega⟩
  rw [beg_succ]
  have h1 := beg_end (S := S) (n := i) (by omega)
  have h2 := endL_mono (S := S) (i := i) k (by omega)
  omega
theorem empt_eq (S : List UInt8) : emptM S = ((List.range (countL S)).filter fun n => decide (begL S n = endL S n)).map (begL S) := by
  unfold emptM emptTo pickTo
  have hf : (List.range (countL S)).filter (fun n : Nat => decide ((boundsL S (n : Int)).1.1 = (boundsL S (n : Int)).1.2)) = (List.range (countL S)).filter fun n : Nat => decide (begL S n = endL S n) := by
    refine List.filter_congr fun n hn => ?_
    rw [boundsL_nat (List.mem_range.1 hn)]
  rw [hf]
  refine List.map_congr_left fun n hn => ?_
  rw [boundsL_nat (List.mem_range.1 (List.mem_filter.1 hn).1)]
theorem empt_rises (S : List UInt8) : Rises (emptM S) := by
  rw [empt_eq]
  unfold Rises
  rw [List.pairwise_map]
  refine List.Pairwise.imp_of_mem (R := (· < ·)) ?_ ((range_rises _).filter _)
  intro i j _ hj hij
  exact beg_lt hij (List.mem_range.1 (List.mem_filter.1 hj).1)
/-- the line of a place within a line -/
theorem of_line {S : List UInt8} {n x : Nat} (h : n < countL S) (h1 : begL S n ≤ x) (h2 : x ≤ endL S n) : ofL S (x : Nat) = n := by
  have hle := end_le h
  obtain ⟨p1, p2, p3⟩ := place_line (S := S) (a := x) (by omega)
  have ho : ofL S (x : Nat) = (endsTo S x).length := by unfold ofL; rw [Int.toNat_natCast, Nat.min_eq_right (by omega)]
  rw [ho]
  rcases Nat.lt_trichotomy (endsTo S x).length n with h' | h' | h'
  · exfalso
    obtain ⟨k, rfl⟩ : ∃ k, n = k + 1 := ⟨n - 1, by omega⟩
    rw [beg_succ] at h1
    have hm := endsTo_mono S h1
    have hb := beg_ends (S := S) (n := k + 1) h
    rw [beg_succ] at hb
    omega
  · exact h'
  · exfalso
    have hb := beg_lt h' p1
    obtain ⟨k, hk⟩ : ∃ k, (endsTo S x).length = k + 1 := ⟨(endsTo S x).length - 1, by omega⟩
    rw [hk, beg_succ] at p2
    have : endL S n ≤ endL S k := by
      have := endL_mono (S := S) (i := n) (k - n) (by omega)
      rwa [show n + (k - n) = k by omega] at this
    omega
end Go.Proofs.Ytnkhlallnblfmaa

/-
  Two motions lead where one leads that goes as far as both; lines down, and up again: layer 12.
-/
namespace Go.Proofs.Ytnkhlallnblfmaa
open Go.RowKit

theorem many_nat {n : Nat} (h1 : 1 ≤ n) (h2 : n ≤ 999) : manyM (n : Int) = n := by unfold manyM; omega
theorem toM_h (S : List UInt8) (p g c : Int) : toM S p 104 g c = exclM (alignM S p) (some ((aheadM (inLineM S (ofL S (alignM S p : Nat) : Nat) (-1)) (alignM S p) (manyM c)).getD (boundsL S (ofL S (alignM S p : Nat) : Nat)).1.1)) := rfl
theorem toM_l (S : List UInt8) (p g c : Int) : toM S p 108 g c = exclM (alignM S p) (some ((behindM (inLineM S (ofL S (alignM S p : Nat) : Nat) (-1)) (alignM S p) (manyM c)).getD (boundsL S (ofL S (alignM S p : Nat) : Nat)).1.2)) := rfl
theorem toM_w (S : List UInt8) (p g c : Int) : toM S p 119 g c = exclM (alignM S p) (some ((behindM (begsM (chars S)) (alignM S p) (manyM c)).getD S.length)) := rfl
theorem toM_b (S : List UInt8) (p g c : Int) : toM S p 98 g c = exclM (alignM S p) (some ((aheadM (begsM (chars S)) (alignM S p) (manyM c)).getD 0)) := rfl
theorem toM_rb (S : List UInt8) (p g c : Int) : toM S p 125 g c = exclM (alignM S p) (some ((behindM (emptM S) (boundsL S (ofL S (alignM S p : Nat) : Nat)).1.2 (manyM c)).getD S.length)) := rfl
theorem toM_lb (S : List UInt8) (p g c : Int) : toM S p 123 g c = exclM (alignM S p) (some ((aheadM (emptM S) (boundsL S (ofL S (alignM S p : Nat) : Nat)).1.1 (manyM c)).getD 0)) := rfl
theorem toM_e (S : List UInt8) (p g c : Int) : toM S p 101 g c = if alignM S p < (behindM (endsM (chars S)) (alignM S p) (manyM c)).getD (prevM S (S.length : Nat)) then some ((behindM (endsM (chars S)) (alignM S p) (manyM c)).getD (prevM S (S.length : Nat)), 1) else none := rfl
theorem inLine_mem {S : List UInt8} {n r : Int} {x : Nat} (h : x ∈ inLineM S n r) : (boundsL S n).1.1 ≤ x ∧ x < (boundsL S n).1.2 := by
  unfold inLineM placesTo at h
  obtain ⟨i, hi, rfl⟩ := List.mem_map.1 h
  have := (List.mem_filter.1 hi).2
  unfold lineQ at this
  rw [Bool.and_eq_true, Bool.and_eq_true, decide_eq_true_iff, decide_eq_true_iff] at this
  exact ⟨this.1.1, this.1.2⟩
theorem inLine_rises (S : List UInt8) (n r : Int) : Rises (inLineM S n r) := places_rises S _
theorem begs_rises (S : List UInt8) : Rises (begsM (chars S)) := places_rises S _
theorem ends_rises (S : List UInt8) : Rises (endsM (chars S)) := places_rises S _
theorem begs_lt {S : List UInt8} : ∀ x ∈ begsM (chars S), x < S.length := places_lt
/-- the line of a place -/
theorem line_of {S : List UInt8} {a : Nat} (ha : a ≤ S.length) : ∃ q, ofL S (a : Nat) = q ∧ q < countL S ∧ begL S q ≤ a ∧ a ≤ endL S q := by
  obtain ⟨p1, p2, p3⟩ := place_line ha
  exact ⟨_, by unfold ofL; rw [Int.toNat_natCast, Nat.min_eq_right ha], p1, p2, p3⟩
theorem excl_two {a x k : Nat} {r : Nat} (h : exclM a (some r) = some (x, k)) : r = x ∧ k = 0 ∧ x ≠ a := by
  obtain ⟨h1, h2, h3⟩ := exclM_some h
  injection h1 with h1
  exact ⟨h1, h2, h3⟩
theorem excl_mk {a x : Nat} (h : x ≠ a) : exclM a (some x) = some (x, 0) := if_neg h
theorem empt_mem {S : List UInt8} {x : Nat} (h : x ∈ emptM S) : ∃ n, n < countL S ∧ x = begL S n ∧ begL S n = endL S n ∧ ofL S (x : Nat) = n := by
  rw [empt_eq] at h
  obtain ⟨n, hn, rfl⟩ := List.mem_map.1 h
  obtain ⟨h1, h2⟩ := List.mem_filter.1 hn
  have h1 := List.mem_range.1 h1
  have h2 := of_decide_eq_true h2
  exact ⟨n, h1, rfl, h2, of_line h1 (Nat.le_refl _) (Nat.le_of_eq h2)⟩
theorem ends_prev {S : List UInt8} : ∀ x ∈ endsM (chars S), x ≤ prevM S (S.length : Nat) := by
  intro x hx
  unfold endsM placesTo at hx
  obtain ⟨i, hi, rfl⟩ := List.mem_map.1 hx
  have hi' := List.mem_range.1 (List.mem_filter.1 hi).1
  unfold prevM
  have hw : whichM (chars S) (S.length : Nat) = (chars S).length := by
    have h1 := which_self (S := S) (i := (chars S).length) (Nat.le_refl _)
    rw [List.take_of_length_le (Nat.le_refl _), width_chars] at h1
    exact (h1.unique (which_is _ _)).symm
  rw [hw]
  exact width_take_mono _ (by omega)
theorem toM_twice {S : List UInt8} {p key : Int} {n m a b x y : Nat} (hk : key = 104 ∨ key = 108 ∨ key = 119 ∨ key = 98 ∨ key = 101 ∨ key = 123 ∨ key = 125) (hn : 1 ≤ n) (hm : 1 ≤ m) (hs : n + m ≤ 999)
    (h1 : toM S p key 0 (n : Nat) = some (a, x)) (h2 : toM S (a : Nat) key 0 (m : Nat) = some (b, y)) : toM S p key 0 ((n + m : Nat) : Int) = some (b, y) ∧ x = y := by
  have hba := (toM_within h1).1
  have hal := hba.align
  have hle := hba.le
  have en := many_nat hn (by omega)
  have em := many_nat hm (by omega)
  have es := many_nat (n := n + m) (by omega) hs
  have hA := Beg.alignM S p
  have hAl := hA.le
  obtain ⟨q, hq, hqc, hq1, hq2⟩ := line_of hAl
  have hqb : boundsL S (q : Nat) = ((begL S q, endL S q), 0) := boundsL_nat hqc
  rcases hk with rfl | rfl | rfl | rfl | rfl | rfl | rfl
  · rw [toM_h] at h1 h2 ⊢
    rw [hq, hqb] at h1 ⊢
    rw [hal] at h2
    rw [en] at h1
    rw [em] at h2
    rw [es]
    obtain ⟨e1, rfl, d1⟩ := excl_two h1
    obtain ⟨e2, rfl, d2⟩ := excl_two h2
    have ho : ofL S (a : Nat) = q := by
      refine of_line hqc ?_ ?_
      · rcases hz : aheadM (inLineM S (q : Nat) (-1)) (alignM S p) n with _ | z
        · rw [hz] at e1; exact Nat.le_of_eq e1
        · rw [hz] at e1
          have := (inLine_mem (aheadM_mem hz).1).1
          rw [hqb] at this
          exact Nat.le_trans this (Nat.le_of_eq e1)
      · rcases hz : aheadM (inLineM S (q : Nat) (-1)) (alignM S p) n with _ | z
        · rw [hz] at e1; have : begL S q = a := e1; omega
        · rw [hz] at e1; have : z = a := e1; have := (aheadM_mem hz).2; omega
    rw [ho, hqb] at e2
    rcases hz : aheadM (inLineM S (q : Nat) (-1)) (alignM S p) n with _ | z
    · rw [hz] at e1
      have e1 : begL S q = a := e1
      rw [aheadM_far hm (fun x hx => by have := (inLine_mem hx).1; rw [hqb] at this; rw [← e1]; exact this)] at e2
      exact absurd (e2.symm.trans e1) d2
    · rw [hz] at e1
      obtain rfl : z = a := e1
      rw [aheadM_twice (inLine_rises S _ _) hn hm hz] at e2
      rw [e2]
      have hlt : b ≤ z := by
        rcases hy : aheadM (inLineM S (q : Nat) (-1)) (alignM S p) (n + m) with _ | u
        · rw [hy] at e2
          have := (inLine_mem (aheadM_mem hz).1).1
          rw [hqb] at this
          exact Nat.le_trans (Nat.le_of_eq e2.symm) this
        · rw [← aheadM_twice (inLine_rises S _ _) hn hm hz] at hy
          rw [← aheadM_twice (inLine_rises S _ _) hn hm hz, hy] at e2
          have := (aheadM_mem hy).2
          have : u = b := e2
          omega
      have := (aheadM_mem hz).2
      exact ⟨excl_mk (by omega), rfl⟩
  · rw [toM_l] at h1 h2 ⊢
    rw [hq, hqb] at h1 ⊢
    rw [hal] at h2
    rw [en] at h1
    rw [em] at h2
    rw [es]
    obtain ⟨e1, rfl, d1⟩ := excl_two h1
    obtain ⟨e2, rfl, d2⟩ := excl_two h2
    have ho : ofL S (a : Nat) = q := by
      refine of_line hqc ?_ ?_
      · rcases hz : behindM (inLineM S (q : Nat) (-1)) (alignM S p) n with _ | z
        · rw [hz] at e1; have : endL S q = a := e1; omega
        · rw [hz] at e1; have : z = a := e1; have := (behindM_mem hz).2; omega
      · rcases hz : behindM (inLineM S (q : Nat) (-1)) (alignM S p) n with _ | z
        · rw [hz] at e1; have : endL S q = a := e1; omega
        · rw [hz] at e1
          have : z = a := e1
          have := (inLine_mem (behindM_mem hz).1).2
          rw [hqb] at this
          have : z < endL S q := this
          omega
    rw [ho, hqb] at e2
    rcases hz : behindM (inLineM S (q : Nat) (-1)) (alignM S p) n with _ | z
    · rw [hz] at e1
      have e1 : endL S q = a := e1
      rw [behindM_far hm (fun x hx => by have := (inLine_mem hx).2; rw [hqb] at this; have : x < endL S q := this; omega)] at e2
      exact absurd (e2.symm.trans e1) d2
    · rw [hz] at e1
      obtain rfl : z = a := e1
      rw [behindM_twice (inLine_rises S _ _) hn hm hz] at e2
      rw [e2]
      have hlt : z ≤ b := by
        rcases hy : behindM (inLineM S (q : Nat) (-1)) (alignM S p) (n + m) with _ | u
        · rw [hy] at e2
          have := (inLine_mem (behindM_mem hz).1).2
          rw [hqb] at this
          have : z < endL S q := this
          have : endL S q = b := e2
          omega
        · rw [← behindM_twice (inLine_rises S _ _) hn hm hz] at hy
          rw [← behindM_twice (inLine_rises S _ _) hn hm hz, hy] at e2
          have := (behindM_mem hy).2
          have : u = b := e2
          omega
      have := (behindM_mem hz).2
      exact ⟨excl_mk (by omega), rfl⟩
  · rw [toM_w] at h1 h2 ⊢
    rw [hal] at h2
    rw [en] at h1
    rw [em] at h2
    rw [es]
    obtain ⟨e1, rfl, d1⟩ := excl_two h1
    obtain ⟨e2, rfl, d2⟩ := excl_two h2
    rcases hz : behindM (begsM (chars S)) (alignM S p) n with _ | z
    · rw [hz] at e1
      have e1 : S.length = a := e1
      rw [behindM_far hm (fun x hx => by have := begs_lt x hx; omega)] at e2
      exact absurd (e2.symm.trans e1) d2
    · rw [hz] at e1
      obtain rfl : z = a := e1
      rw [behindM_twice (begs_rises S) hn hm hz] at e2
      rw [e2]
      have h3 := (behindM_mem hz).2
      rcases hy : behindM (begsM (chars S)) (alignM S p) (n + m) with _ | u
      · rw [hy] at e2
        have : S.length = b := e2
        have := begs_lt z (behindM_mem hz).1
        exact ⟨excl_mk (by omega), rfl⟩
      · rw [hy] at e2
        have : u = b := e2
        have := (behindM_mem hy).2
        exact ⟨excl_mk (by omega), rfl⟩
  · rw [toM_b] at h1 h2 ⊢
    rw [hal] at h2
    rw [en] at h1
    rw [em] at h2
    rw [es]
    obtain ⟨e1, rfl, d1⟩ := excl_two h1
    obtain ⟨e2, rfl, d2⟩ := excl_two h2
    rcases hz : aheadM (begsM (chars S)) (alignM S p) n with _ | z
    · rw [hz] at e1
      have e1 : 0 = a := e1
      rw [aheadM_far hm (fun x hx => by omega)] at e2
      exact absurd (e2.symm.trans e1) d2
    · rw [hz] at e1
      obtain rfl : z = a := e1
      rw [aheadM_twice (begs_rises S) hn hm hz] at e2
      rw [e2]
      have h3 := (aheadM_mem hz).2
      rcases hy : aheadM (begsM (chars S)) (alignM S p) (n + m) with _ | u
      · rw [hy] at e2
        have : 0 = b := e2
        exact ⟨excl_mk (by omega), rfl⟩
      · rw [hy] at e2
        have : u = b := e2
        have := (aheadM_mem hy).2
        exact ⟨excl_mk (by omega), rfl⟩
  · rw [toM_e] at h1 h2 ⊢
    rw [hal] at h2
    rw [en] at h1
    rw [em] at h2
    rw [es]
    split at h1
    · next g1 =>
      split at h2
      · next g2 =>
        injection h1 with h1
        injection h1 with e1 f1
        injection h2 with h2
        injection h2 with e2 f2
        subst f1 f2
        rcases hz : behindM (endsM (chars S)) (alignM S p) n with _ | z
        · rw [hz] at e1
          have e1 : prevM S (S.length : Nat) = a := e1
          rw [behindM_far hm (fun x hx => by have := ends_prev x hx; omega)] at e2
          rw [behindM_far hm (fun x hx => by have := ends_prev x hx; omega)] at g2
          have : a < prevM S (S.length : Nat) := g2
          omega
        · rw [hz] at e1
          obtain rfl : z = a := e1
          rw [behindM_twice (ends_rises S) hn hm hz] at e2 g2
          have h3 := (behindM_mem hz).2
          rw [if_pos (by omega), e2]
          exact ⟨rfl, rfl⟩
      · cases h2
    · cases h1
  · rw [toM_lb] at h1 h2 ⊢
    rw [hq, hqb] at h1 ⊢
    rw [hal] at h2
    rw [en] at h1
    rw [em] at h2
    rw [es]
    obtain ⟨e1, rfl, d1⟩ := excl_two h1
    obtain ⟨e2, rfl, d2⟩ := excl_two h2
    rcases hz : aheadM (emptM S) (begL S q) n with _ | z
    · rw [hz] at e1
      have e1 : 0 = a := e1
      subst e1
      obtain ⟨q2, k1, k2, k3, k4⟩ := line_of (S := S) (a := 0) (Nat.zero_le _)
      rw [k1, boundsL_nat k2] at e2
      have h0 : begL S q2 = 0 := by omega
      rw [show ((begL S q2, endL S q2), 0).1.1 = 0 from h0, aheadM_far hm (fun x hx => by omega)] at e2
      exact absurd e2.symm d2
    · rw [hz] at e1
      obtain rfl : z = a := e1
      obtain ⟨i, hi, hib, hie, hio⟩ := empt_mem (aheadM_mem hz).1
      rw [hio, boundsL_nat hi] at e2
      have e2 : (aheadM (emptM S) (begL S i) m).getD 0 = b := e2
      rw [← hib, aheadM_twice (empt_rises S) hn hm hz] at e2
      rw [show ((begL S q, endL S q), 0).1.1 = begL S q from rfl, e2]
      have h3 := (aheadM_mem hz).2
      rcases hy : aheadM (emptM S) (begL S q) (n + m) with _ | u
      · rw [hy] at e2
        have : 0 = b := e2
        exact ⟨excl_mk (by omega), rfl⟩
      · rw [hy] at e2
        have : u = b := e2
        have := (aheadM_mem hy).2
        exact ⟨excl_mk (by omega), rfl⟩
  · rw [toM_rb] at h1 h2 ⊢
    rw [hq, hqb] at h1 ⊢
    rw [hal] at h2
    rw [en] at h1
    rw [em] at h2
    rw [es]
    obtain ⟨e1, rfl, d1⟩ := excl_two h1
    obtain ⟨e2, rfl, d2⟩ := excl_two h2
    have hlen : ∀ x ∈ emptM S, x ≤ S.length := fun x hx => (Beg.empt hx).le
    rcases hz : behindM (emptM S) (endL S q) n with _ | z
    · rw [hz] at e1
      have e1 : S.length = a := e1
      obtain ⟨q2, k1, k2, k3, k4⟩ := line_of (S := S) (a := a) hle
      rw [k1, boundsL_nat k2] at e2
      have e2 : (behindM (emptM S) (endL S q2) m).getD S.length = b := e2
      rw [behindM_far hm (fun x hx => by have := hlen x hx; omega)] at e2
      exact absurd (e2.symm.trans e1) d2
    · rw [hz] at e1
      obtain rfl : z = a := e1
      obtain ⟨i, hi, hib, hie, hio⟩ := empt_mem (behindM_mem hz).1
      rw [hio, boundsL_nat hi] at e2
      have e2 : (behindM (emptM S) (endL S i) m).getD S.length = b := e2
      rw [← hie, ← hib, behindM_twice (empt_rises S) hn hm hz] at e2
      rw [show ((begL S q, endL S q), 0).1.2 = endL S q from rfl, e2]
      have h3 := (behindM_mem hz).2
      rcases hy : behindM (emptM S) (endL S q) (n + m) with _ | u
      · rw [hy] at e2
        have : S.length = b := e2
        exact ⟨excl_mk (by omega), rfl⟩
      · rw [hy] at e2
        have : u = b := e2
        have := (behindM_mem hy).2
        exact ⟨excl_mk (by omega), rfl⟩
end Go.Proofs.Ytnkhlallnblfmaa

/-
  Signs that are looked for, and those in between: layer 12.
-/
namespace Go.Proofs.Ytnkhlallnblfmaa
open Go.RowKit

/-- where sign number i begins -/
def atM (S : List UInt8) (i : Nat) : Nat := width ((chars S).take i)
def runeQ (S : List UInt8) (r : Int) (lo i : Nat) : Bool := decide (lo < i) && decide ((((chars S).getD i (0, 0)).1 : Int) = r)
/-- so many signs of that rune lie behind sign number lo, and ahead of number hi -/
def betw (S : List UInt8) (r : Int) (lo hi : Nat) : Nat := ((List.range hi).filter (runeQ S r lo)).length
theorem betw_start (S : List UInt8) (r : Int) (lo : Nat) : betw S r lo (lo + 1) = 0 := by
  unfold betw
  rw [List.filter_eq_nil_iff.2 (fun i hi => by have := List.mem_range.1 hi; unfold runeQ; simp; omega)]
  rfl
theorem betw_yes {S : List UInt8} {r : Int} {lo i : Nat} (h : lo < i) (hr : (((chars S).getD i (0, 0)).1 : Int) = r) : betw S r lo (i + 1) = betw S r lo i + 1 := by
  unfold betw
  rw [List.range_succ, List.filter_append, List.length_append, List.filter_cons_of_pos (by unfold runeQ; rw [decide_eq_true h, decide_eq_true hr]; rfl)]
  rfl
theorem betw_no {S : List UInt8} {r : Int} {lo i : Nat} (hr : ¬ (((chars S).getD i (0, 0)).1 : Int) = r) : betw S r lo (i + 1) = betw S r lo i := by
  unfold betw
  rw [List.range_succ, List.filter_append, List.length_append, List.filter_cons_of_neg (by unfold runeQ; rw [decide_eq_false hr]; simp)]
  rfl
theorem atM_lt {S : List UInt8} {i j : Nat} (_hi : i ≤ (chars S).length) (hj : j ≤ (chars S).length) : atM S i < atM S j ↔ i < j := by
  constructor
  · intro h
    rcases Nat.lt_or_ge i j with h' | h'
    · exact h'
    · have := width_take_mono (chars S) h'
      unfold atM at h
      omega
  · intro h
    exact width_lt h hj
theorem which_atM {S : List UInt8} {i : Nat} (hi : i ≤ (chars S).length) : whichM (chars S) (atM S i : Nat) = i := ((which_self hi).unique (which_is _ _)).symm
theorem nextM_atM {S : List UInt8} {i : Nat} (hi : i ≤ (chars S).length) : nextM S (atM S i : Nat) = atM S (i + 1) := by unfold nextM; rw [which_atM hi]; rfl
/-- the signs of that rune between two places of a line -/
theorem line_betw {S : List UInt8} {q : Nat} (hq : q < countL S) {r : Int} (hr : ¬ r < 0) {lo hi : Nat} (hhi : hi ≤ (chars S).length) (hlh : lo < hi) (h1 : begL S q ≤ atM S lo) (h2 : atM S hi ≤ endL S q) :
    ((inLineM S (q : Nat) r).filter fun x => decide (atM S lo < x) && decide (x < atM S hi)).length = betw S r lo hi := by
  unfold inLineM placesTo betw
  rw [List.filter_map, List.length_map, List.filter_filter]
  have e : (List.range (chars S).length).filter (fun a => ((fun x => decide (atM S lo < x) && decide (x < atM S hi)) ∘ fun i => width ((chars S).take i)) a && lineQ (chars S) (boundsL S (q : Nat)).1.1 (boundsL S (q : Nat)).1.2 r a) = (List.range (chars S).length).filter (fun i => decide (i < hi) && runeQ S r lo i) := by
    refine List.filter_congr fun i hi' => ?_
    have hil := List.mem_range.1 hi'
    have a1 := atM_lt (S := S) (i := lo) (j := i) (by omega) (by omega)
    have a2 := atM_lt (S := S) (i := i) (j := hi) (by omega) hhi
    rw [boundsL_nat hq]
    unfold lineQ runeQ
    show (decide (atM S lo < atM S i) && decide (atM S i < atM S hi) && (decide (begL S q ≤ atM S i) && decide (atM S i < endL S q) && (decide (r < 0) || decide ((((chars S).getD i (0, 0)).1 : Int) = r)))) = _
    rw [decide_eq_false hr, Bool.false_or]
    by_cases c1 : lo < i
    · by_cases c2 : i < hi
      · have d1 := a1.2 c1
        have d2 := a2.2 c2
        rw [decide_eq_true d1, decide_eq_true d2, decide_eq_true c1, decide_eq_true c2, decide_eq_true (show begL S q ≤ atM S i by omega), decide_eq_true (show atM S i < endL S q by omega)]
        simp
      · rw [decide_eq_false c2, decide_eq_false (fun h => c2 (a2.1 h))]
        simp
    · rw [decide_eq_false c1, decide_eq_false (fun h => c1 (a1.1 h))]
      simp
  rw [e]
  have hsplit : (List.range (chars S).length).filter (fun i => decide (i < hi) && runeQ S r lo i) = (List.range hi).filter (runeQ S r lo) := by
    obtain ⟨d, hd⟩ : ∃ d, (chars S).length = hi + d := ⟨(chars S).length - hi, by omega⟩
    have hz : (List.map (fun x => hi + x) (List.range d)).filter (fun i => decide (i < hi) && runeQ S r lo i) = [] := List.filter_eq_nil_iff.2 fun x hx => by
      obtain ⟨y, _, rfl⟩ := List.mem_map.1 hx
      rw [decide_eq_false (by omega)]
      simp
    rw [hd, List.range_add, List.filter_append, hz, List.append_nil]
    refine List.filter_congr fun i hi' => ?_
    rw [decide_eq_true (List.mem_range.1 hi'), Bool.true_and]
  rw [hsplit]
/-- what f and F say -/
structure FoundM (S : List UInt8) (p : Int) (r : Int) (n x : Nat) (fwd : Bool) : Prop where
  ex : ∃ lo hi, lo < hi ∧ hi ≤ (chars S).length ∧ betw S r lo hi + 1 = n ∧ (if fwd = true then atM S lo = alignM S p ∧ atM S hi = x ∧ hi < (chars S).length else atM S lo = x ∧ atM S hi = alignM S p) ∧
    (∃ i, i < (chars S).length ∧ atM S i = x ∧ (((chars S).getD i (0, 0)).1 : Int) = r) ∧ ofL S (x : Nat) = ofL S (alignM S p : Nat)
theorem inLine_sign {S : List UInt8} {q r : Int} (hr : ¬ r < 0) {x : Nat} (h : x ∈ inLineM S q r) : ∃ i, i < (chars S).length ∧ atM S i = x ∧ (((chars S).getD i (0, 0)).1 : Int) = r := by
  unfold inLineM placesTo at h
  obtain ⟨i, hi, rfl⟩ := List.mem_map.1 h
  have h1 := List.mem_range.1 (List.mem_filter.1 hi).1
  have h2 := (List.mem_filter.1 hi).2
  unfold lineQ at h2
  rw [decide_eq_false hr, Bool.false_or, Bool.and_eq_true, decide_eq_true_iff] at h2
  exact ⟨i, h1, rfl, h2.2⟩
theorem found_f {S : List UInt8} {p r c : Int} {x k : Nat} (h : toM S p 102 r c = some (x, k)) : FoundM S p r (manyM c) x true ∧ k = 1 ∧ alignM S p < x := by
  have h' : inclM (findsM S (alignM S p) (manyM c) 102 r) = some (x, k) := h
  obtain ⟨h1, h2⟩ := inclM_some h'
  have hn := many_pos c
  unfold findsM at h1
  split at h1
  · cases h1
  · next hr =>
    rw [if_pos rfl] at h1
    obtain ⟨hm, ha⟩ := behindM_mem h1
    obtain ⟨q, hq, hqc, hq1, hq2⟩ := line_of (Beg.alignM S p).le
    rw [hq] at h1 hm
    obtain ⟨i, hi1, hi2, hi3⟩ := inLine_sign hr hm
    obtain ⟨lo, hlo1, hlo2⟩ := Beg.alignM S p
    have hlo2' : atM S lo = alignM S p := hlo2.symm
    have hb := inLine_mem hm
    rw [boundsL_nat hqc] at hb
    have hb2 : x < endL S q := hb.2
    have hlt : lo < i := (atM_lt hlo1 (by omega)).1 (by omega)
    refine ⟨⟨lo, i, hlt, by omega, ?_, ?_, ⟨i, hi1, hi2, hi3⟩, ?_⟩, h2, ha⟩
    · rw [← line_betw hqc hr (by omega) hlt (by omega) (by omega), hlo2', hi2]
      unfold behindM at h1
      have hrf := (inLine_rises S (q : Nat) r).filter (fun y => decide (alignM S p < y))
      have hlen : manyM c - 1 < ((inLineM S (q : Nat) r).filter fun y => decide (alignM S p < y)).length := by
        rcases Nat.lt_or_ge (manyM c - 1) ((inLineM S (q : Nat) r).filter fun y => decide (alignM S p < y)).length with h' | h'
        · exact h'
        · rw [List.getElem?_eq_none h'] at h1; cases h1
      have := rises_filter_take hrf h1
      rw [List.filter_filter] at this
      have e : (inLineM S (q : Nat) r).filter (fun y => decide (alignM S p < y) && decide (y < x)) = (inLineM S (q : Nat) r).filter (fun a => decide (a < x) && decide (alignM S p < a)) := List.filter_congr fun y _ => Bool.and_comm _ _
      rw [e, this, List.length_take]
      omega
    · rw [if_pos rfl]; exact ⟨hlo2', hi2, hi1⟩
    · rw [hq]; exact of_line hqc (by omega) (by omega)
theorem found_F {S : List UInt8} {p r c : Int} {x k : Nat} (h : toM S p 70 r c = some (x, k)) : FoundM S p r (manyM c) x false ∧ k = 0 ∧ x < alignM S p := by
  have h' : exclM (alignM S p) (findsM S (alignM S p) (manyM c) 70 r) = some (x, k) := h
  obtain ⟨h1, h2, _⟩ := exclM_some h'
  have hn := many_pos c
  unfold findsM at h1
  split at h1
  · cases h1
  · next hr =>
    rw [if_neg (show ¬ (70 : Int) = 102 by decide), if_neg (show ¬ (70 : Int) = 116 by decide), if_neg (show ¬ (70 : Int) = 84 by decide)] at h1
    obtain ⟨hm, ha⟩ := aheadM_mem h1
    obtain ⟨q, hq, hqc, hq1, hq2⟩ := line_of (Beg.alignM S p).le
    rw [hq] at h1 hm
    obtain ⟨i, hi1, hi2, hi3⟩ := inLine_sign hr hm
    obtain ⟨hi, hhi1, hhi2⟩ := Beg.alignM S p
    have hhi2' : atM S hi = alignM S p := hhi2.symm
    have hb := inLine_mem hm
    rw [boundsL_nat hqc] at hb
    have hb1 : begL S q ≤ x := hb.1
    have hlt : i < hi := (atM_lt (by omega) hhi1).1 (by omega)
    refine ⟨⟨i, hi, hlt, hhi1, ?_, ?_, ⟨i, hi1, hi2, hi3⟩, ?_⟩, h2, ha⟩
    · rw [← line_betw hqc hr hhi1 hlt (by omega) (by omega), hhi2', hi2]
      unfold aheadM at h1
      generalize hf : (inLineM S (q : Nat) r).filter (fun y => decide (y < alignM S p)) = f at h1
      have hrf : Rises f := by rw [← hf]; exact (inLine_rises S (q : Nat) r).filter _
      have hlen : manyM c - 1 < f.length := by
        rcases Nat.lt_or_ge (manyM c - 1) f.length with h' | h'
        · exact h'
        · rw [List.getElem?_eq_none (by rw [List.length_reverse]; exact h')] at h1; cases h1
      rw [List.getElem?_reverse hlen] at h1
      have := rises_filter_drop hrf h1
      rw [← hf, List.filter_filter] at this
      rw [this, List.length_drop, hf]
      omega
    · rw [if_neg (by decide)]; exact ⟨hi2, hhi2'⟩
    · rw [hq]; exact of_line hqc (by omega) (by omega)
end Go.Proofs.Ytnkhlallnblfmaa
