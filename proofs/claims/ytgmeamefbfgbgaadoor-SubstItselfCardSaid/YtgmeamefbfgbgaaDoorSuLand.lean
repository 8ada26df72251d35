/-
  Where a text stands in the lines of a cut, by an index from place to place; hidden bytes as line ends: plain, layer 15.
-/
import Derived.Test.YtgmeamefbfgbgaaDoorM06r
import Derived.Test.YtgmeamefbfgbgaaDoorSuSub
import Derived.Test.YtgmeamefbfgbgaaDoorSuPlas
import Derived.Lib.IndexLaws
namespace Go.Proofs.YtgmeamefbfgbgaaDoor
open Go.RowKit

theorem su_end_unique {S : List UInt8} {n x : Nat} (hx : x ≤ S.length) (hc : (S.take x).count 10 = n) (h : x = S.length ∨ S[x]? = some 10) : endL S n = x := by
  rw [← endsTo_count] at hc
  rcases Nat.lt_or_ge x S.length with hl | hl
  · have h2 : S[x]? = some 10 := h.resolve_left (by omega)
    have h3 := endsTo_has (S := S) (k := S.length) hl h2
    rw [hc] at h3
    have hn : n < (endsTo S S.length).length := by
      rcases Nat.lt_or_ge n (endsTo S S.length).length with h' | h'
      · exact h'
      · rw [List.getElem?_eq_none h'] at h3; cases h3
    unfold endL endsL
    rw [List.getD_eq_getElem?_getD, List.getElem?_append_left hn, h3]
    rfl
  · obtain rfl : x = S.length := by omega
    exact ends_last (by unfold countL; omega)
theorem su_end_count {S : List UInt8} {n : Nat} (h : n < countL S) : (S.take (endL S n)).count 10 = n := by
  rw [← endsTo_count]
  rcases Nat.lt_or_ge (n + 1) (countL S) with h1 | h1
  · exact (ends_inner h1).2.2
  · rw [ends_last (by omega)]
    unfold countL at h h1
    omega
theorem su_lines_cut {V : List UInt8} {a b : Nat} (hab : a ≤ b) (hb : b < countL V) : linesOf ((V.drop (begL V a)).take (endL V b - begL V a)) = ((linesOf V).drop a).take (b + 1 - a) := by
  have ha : a < countL V := by omega
  have hF := beg_le ha
  have hE := end_le hb
  have hFE : begL V a ≤ endL V b := Nat.le_trans (beg_mono hab hb) (beg_end hb)
  have h1 := lines_from ha
  obtain ⟨U, hU⟩ : ∃ U, V.drop (begL V a) = U := ⟨_, rfl⟩
  rw [hU] at h1 ⊢
  have hUl : U.length = V.length - begL V a := by rw [← hU, List.length_drop]
  have hcU : countL U = countL V - a := by rw [← linesOf_count U, h1, List.length_drop, linesOf_count]
  have hcE := su_end_count hb
  have hcF : (V.take (begL V a)).count 10 = a := by rw [← endsTo_count]; exact beg_ends ha
  have e : V.take (endL V b) = V.take (begL V a) ++ U.take (endL V b - begL V a) := by
    have := List.take_add (l := V) (i := begL V a) (j := endL V b - begL V a)
    rwa [show begL V a + (endL V b - begL V a) = endL V b by omega, hU] at this
  rw [e, List.count_append, hcF] at hcE
  have hx : endL U (b - a) = endL V b - begL V a := by
    refine su_end_unique (by omega) (by omega) ?_
    rcases end_is hb with h | h
    · left; omega
    · right
      rw [← hU, List.getElem?_drop, show begL V a + (endL V b - begL V a) = endL V b by omega]
      exact h
  rw [← h1, ← hx, show b + 1 - a = b - a + 1 by omega]
  rcases Nat.lt_or_ge (b - a + 1) (countL U) with h2 | h2
  · exact (lines_drop h2).1
  · rw [ends_last (by omega), List.take_length, List.take_of_length_le (by rw [linesOf_count]; omega)]
theorem su_line_cut {V : List UInt8} {a b k : Nat} (hb : b < countL V) (hk : a + k ≤ b) : (((linesOf V).drop a).take (b + 1 - a)).drop k = lineL V (a + k) :: (((linesOf V).drop a).take (b + 1 - a)).drop (k + 1) := by
  have hl := linesOf_count V
  have hlt : k < (((linesOf V).drop a).take (b + 1 - a)).length := by rw [List.length_take, List.length_drop]; omega
  rw [List.drop_eq_getElem_cons hlt]
  congr 1
  have h := lineL_get (S := V) (n := a + k) (by omega)
  rw [List.getElem_take, List.getElem_drop]
  rw [List.getElem?_eq_getElem (by omega)] at h
  exact Option.some.inj h
theorem su_lineL_len {V : List UInt8} {n : Nat} (h : n < countL V) : (lineL V n).length = endL V n - begL V n := by
  have := end_le h
  have := beg_end h
  unfold lineL
  rw [List.length_take, List.length_drop]
  omega
/-- how many places lines take, each with its end -/
def totS (r : List (List UInt8)) : Nat := (r.map fun x => x.length + 1).sum
theorem totS_cons (x : List UInt8) (r : List (List UInt8)) : totS (x :: r) = x.length + 1 + totS r := by simp [totS]
theorem index_ways (s sub : List UInt8) : (Lib.index s sub = -1 ∧ ∀ j, j ≤ s.length → Lib.occAt s sub j = false) ∨ ∃ k : Nat, k ≤ s.length ∧ Lib.index s sub = k ∧ Lib.occAt s sub k = true ∧ ∀ j, j < k → Lib.occAt s sub j = false := by
  have h : ∀ n, n ≤ s.length + 1 → (∀ j, j < n → Lib.occAt s sub j = false) ∨ ∃ k, k < n ∧ Lib.occAt s sub k = true ∧ ∀ j, j < k → Lib.occAt s sub j = false := by
    intro n
    induction n with
    | zero => intro _; exact .inl fun j hj => absurd hj (Nat.not_lt_zero _)
    | succ n ih =>
      intro hn
      rcases ih (by omega) with h | ⟨k, hk, h1, h2⟩
      · cases ho : Lib.occAt s sub n with
        | true => exact .inr ⟨n, Nat.lt_succ_self _, ho, h⟩
        | false =>
          refine .inl fun j hj => ?_
          rcases Nat.lt_or_eq_of_le (Nat.le_of_lt_succ hj) with h' | h'
          · exact h j h'
          · rw [h']; exact ho
      · exact .inr ⟨k, by omega, h1, h2⟩
  rcases h _ (Nat.le_refl _) with h | ⟨k, hk, h1, h2⟩
  · exact .inl ⟨Lib.index_none fun j hj => h j (by omega), fun j hj => h j (by omega)⟩
  · exact .inr ⟨k, by omega, Lib.index_first (by omega) h1 h2, h1, h2⟩

section
variable {M pat : List UInt8} {every : Bool} {z p : Nat}
theorem stands_nil {a : Nat} : standsS M [] 0 pat a z = true ↔ a + pat.length ≤ z ∧ ∀ i, i < pat.length → M[a + i]? = pat[i]? := by
  rw [standsS_iff]
  refine and_congr Iff.rfl (forall_congr' fun i => imp_congr Iff.rfl ?_)
  exact ⟨fun h => h.1, fun h => ⟨h, by simp [subB]⟩⟩
theorem occ_stands (hz : z ≤ M.length) {i : Nat} (hi : p + i ≤ z) : Lib.occAt ((M.drop p).take (z - p)) pat i = standsS M [] 0 pat (p + i) z := by
  rw [Bool.eq_iff_iff, stands_nil]
  unfold Lib.occAt
  rw [List.isPrefixOf_iff_prefix, List.prefix_iff_getElem?]
  have hl : (((M.drop p).take (z - p)).drop i).length = z - (p + i) := by simp; omega
  have hg : ∀ j, j < z - (p + i) → (((M.drop p).take (z - p)).drop i)[j]? = M[p + i + j]? := fun j hj => by
    rw [List.getElem?_drop, List.getElem?_take_of_lt (by omega), List.getElem?_drop, Nat.add_assoc]
  constructor
  · intro h
    have hlen : pat.length ≤ z - (p + i) := by
      rcases Nat.lt_or_ge (z - (p + i)) pat.length with h' | h'
      · have := h (z - (p + i)) h'
        rw [List.getElem?_eq_none (by omega)] at this
        cases this
      · exact h'
    refine ⟨by omega, fun j hj => ?_⟩
    rw [← hg j (by omega), h j hj, List.getElem?_eq_getElem hj]
  · rintro ⟨h1, h2⟩ j hj
    rw [hg j (by omega), h2 j hj, List.getElem?_eq_getElem hj]
theorem jump_none (hz : z ≤ M.length) (hp : p ≤ z) (h : Lib.index ((M.drop p).take (z - p)) pat = -1) : placesAt M [] 0 pat every z (z - p) p = [] := by
  rcases index_ways ((M.drop p).take (z - p)) pat with ⟨_, hn⟩ | ⟨k, _, h2, _⟩
  · rw [List.eq_nil_iff_forall_not_mem]
    intro q hq
    have hs := placesAt_stand _ _ _ hq
    have hm := (placesAt_apart (S := M) (L := []) (y := 0) (pat := pat) (every := every) (z - p) p hp).mem q hq
    have := hn (q - p) (by simp; omega)
    rw [occ_stands hz (by omega), show p + (q - p) = q by omega, hs] at this
    cases this
  · omega
theorem jump_some (hz : z ≤ M.length) (hp : p < z) (h0 : 0 < pat.length) {k : Nat} (h : Lib.index ((M.drop p).take (z - p)) pat = k) :
    p + k + pat.length ≤ z ∧ placesAt M [] 0 pat every z (z - p) p = [p + k] ++ (if every = true then placesAt M [] 0 pat every z (z - (p + k + pat.length)) (p + k + pat.length) else []) := by
  rcases index_ways ((M.drop p).take (z - p)) pat with ⟨h1, _⟩ | ⟨k', hk', h2, h3, h4⟩
  · omega
  · obtain rfl : k' = k := by omega
    have hl : ((M.drop p).take (z - p)).length = z - p := by simp; omega
    rw [hl] at hk'
    rw [occ_stands hz (by omega)] at h3
    have hs := (stands_nil.1 h3).1
    have hq : ∀ j, j ≤ k' → placesAt M [] 0 pat every z (z - p) p = placesAt M [] 0 pat every z (z - (p + j)) (p + j) := by
      intro j
      induction j with
      | zero => intro _; rfl
      | succ j ih =>
        intro hj
        rw [ih (by omega), place_no (by omega) (by rw [← occ_stands hz (by omega)]; exact h4 j (by omega))]
        rfl
    refine ⟨by omega, ?_⟩
    rw [hq k' (Nat.le_refl _)]
    cases every with
    | true => rw [if_pos rfl]; exact place_yes h0 (by omega) h3
    | false => rw [if_neg (by decide), place_one (by omega) h3, placesAt_end _ (Nat.le_refl _)]
end

/-- the places in lines that follow one another -/
def finL (M pat : List UInt8) (every : Bool) : List (List UInt8) → Nat → List Nat
  | [], _ => []
  | x :: r, p => placesAt M [] 0 pat every (p + x.length) x.length p ++ finL M pat every r (p + x.length + 1)
theorem finL_apart {M pat : List UInt8} {every : Bool} : ∀ (r : List (List UInt8)) (p N : Nat), p + totS r ≤ N + 1 → (r = [] → p ≤ N) → Apart pat.length p N (finL M pat every r p)
  | [], p, N, _, h0 => h0 rfl
  | x :: r, p, N, h, _ => by
    rw [totS_cons] at h
    unfold finL
    have h1 := placesAt_apart (S := M) (L := []) (y := 0) (pat := pat) (every := every) (z := p + x.length) x.length p (Nat.le_add_right _ _)
    by_cases hr : r = []
    · subst hr
      unfold finL
      rw [List.append_nil]
      exact h1.back (by omega)
    · have ht : 0 < totS r := by
        cases r with
        | nil => exact absurd rfl hr
        | cons y r => rw [totS_cons]; omega
      exact (h1.back (Nat.le_succ _)).append (finL_apart r (p + x.length + 1) N (by omega) (fun h => absurd h hr))

/-- hidden bytes as line ends -/
def maskS (S : List UInt8) (L : List Nat) (y : Nat) : List UInt8 := (S.zip L).map fun p => if subB p.2 y = true then p.1 else 10
section
variable {S : List UInt8} {L : List Nat} {y : Nat}
theorem mask_len (h : L.length = S.length) : (maskS S L y).length = S.length := by unfold maskS; rw [List.length_map, List.length_zip]; omega
theorem mask_get (h : L.length = S.length) {q : Nat} (hq : q < S.length) : (maskS S L y)[q]? = some (if subB (L[q]'(by omega)) y = true then S[q] else 10) := by
  unfold maskS
  rw [List.getElem?_map, List.getElem?_eq_getElem (by rw [List.length_zip]; omega), List.getElem_zip]
  rfl
/-- so many bytes told, the others as they are -/
def maskTo (S : List UInt8) (L : List Nat) (y k : Nat) : List UInt8 := (maskS S L y).take k ++ S.drop k
theorem maskTo_start : maskTo S L y 0 = S := by unfold maskTo; simp
theorem maskTo_len (h : L.length = S.length) {k : Nat} (hk : k ≤ S.length) : (maskTo S L y k).length = S.length := by
  unfold maskTo; rw [List.length_append, List.length_take, mask_len h, List.length_drop]; omega
theorem maskTo_all (h : L.length = S.length) : maskTo S L y S.length = maskS S L y := by
  unfold maskTo
  rw [List.drop_length, List.append_nil, List.take_of_length_le (by rw [mask_len h]; omega)]
theorem maskTo_succ (h : L.length = S.length) {k : Nat} (hk : k < S.length) : maskTo S L y (k + 1) = (maskS S L y).take k ++ (if subB (L[k]'(by omega)) y = true then S[k] else 10) :: S.drop (k + 1) := by
  unfold maskTo
  have hm := mask_get (y := y) h hk
  have hl := mask_len (y := y) h
  rw [List.getElem?_eq_getElem (by omega)] at hm
  rw [List.take_succ_eq_append_getElem (by omega), Option.some.inj hm, List.append_assoc]
  rfl
theorem maskTo_seen (h : L.length = S.length) {k : Nat} (hk : k < S.length) (hs : subB (L[k]'(by omega)) y = true) : maskTo S L y (k + 1) = maskTo S L y k := by
  rw [maskTo_succ h hk, if_pos hs]
  unfold maskTo
  rw [List.drop_eq_getElem_cons hk]
theorem maskTo_hide (h : L.length = S.length) {k : Nat} (hk : k < S.length) (hs : subB (L[k]'(by omega)) y = false) : maskTo S L y (k + 1) = (maskTo S L y k).set k 10 := by
  rw [maskTo_succ h hk, if_neg (by rw [hs]; decide)]
  unfold maskTo
  have hl := mask_len (y := y) h
  rw [List.drop_eq_getElem_cons hk, List.set_append_right _ _ (by rw [List.length_take]; omega)]
  have : k - ((maskS S L y).take k).length = 0 := by rw [List.length_take]; omega
  rw [this]
  rfl
end

section
variable {S V pat : List UInt8} {L : List Nat} {y F T : Nat} {every : Bool}
theorem stands_shift (hl : L.length = S.length) (hT : T ≤ S.length) (h10 : (10 : UInt8) ∉ pat) {a z : Nat} (ha : F ≤ a) (hF : F ≤ z) (hz : z ≤ T) :
    standsS (((maskS S L y).drop F).take (T - F)) [] 0 pat (a - F) (z - F) = standsS S L y pat a z := by
  rw [Bool.eq_iff_iff, stands_nil, standsS_iff]
  have hM : ∀ q, F ≤ q → q < T → (((maskS S L y).drop F).take (T - F))[q - F]? = (maskS S L y)[q]? := fun q h1 h2 => by
    rw [List.getElem?_take_of_lt (by omega), List.getElem?_drop, show F + (q - F) = q by omega]
  constructor
  · rintro ⟨h1, h2⟩
    refine ⟨by omega, fun i hi => ?_⟩
    have hq : a + i < S.length := by omega
    have h3 := h2 i hi
    rw [show a - F + i = a + i - F by omega, hM _ (by omega) (by omega), mask_get hl hq, List.getElem?_eq_getElem hi] at h3
    have h4 := Option.some.inj h3
    rw [List.getD_eq_getElem?_getD, List.getElem?_eq_getElem (show a + i < L.length by omega), List.getElem?_eq_getElem hi, List.getElem?_eq_getElem hq]
    by_cases hs : subB (L[a + i]'(by omega)) y = true
    · rw [if_pos hs] at h4
      exact ⟨congrArg some h4, hs⟩
    · rw [if_neg hs] at h4
      exact absurd (by rw [h4]; exact List.getElem_mem hi) h10
  · rintro ⟨h1, h2⟩
    refine ⟨by omega, fun i hi => ?_⟩
    obtain ⟨h3, h4⟩ := h2 i hi
    have hq : a + i < S.length := by omega
    rw [show a - F + i = a + i - F by omega, hM _ (by omega) (by omega), mask_get hl hq]
    rw [List.getD_eq_getElem?_getD, List.getElem?_eq_getElem (show a + i < L.length by omega)] at h4
    rw [Option.getD_some] at h4
    rw [if_pos h4, ← h3, List.getElem?_eq_getElem hq]
theorem places_shift (hl : L.length = S.length) (hT : T ≤ S.length) (h10 : (10 : UInt8) ∉ pat) {z : Nat} (hF : F ≤ z) (hz : z ≤ T) : ∀ (k a : Nat), F ≤ a →
    placesAt (((maskS S L y).drop F).take (T - F)) [] 0 pat every (z - F) k (a - F) = (placesAt S L y pat every z k a).map (· - F) := by
  intro k
  induction k with
  | zero => intro a _; rfl
  | succ k ih =>
    intro a ha
    unfold placesAt
    rw [stands_shift hl hT h10 ha hF hz]
    by_cases h1 : a < z
    · rw [if_pos h1, if_pos (show a - F < z - F by omega)]
      by_cases h2 : standsS S L y pat a z = true
      · rw [if_pos h2, if_pos h2, List.map_cons]
        congr 1
        by_cases h3 : every = true
        · rw [if_pos h3, if_pos h3, ← ih _ (by omega), show a - F + pat.length = a + pat.length - F by omega]
        · rw [if_neg h3, if_neg h3]; rfl
      · rw [if_neg h2, if_neg h2, ← ih _ (by omega), show a - F + 1 = a + 1 - F by omega]
    · rw [if_neg h1, if_neg (show ¬ a - F < z - F by omega)]; rfl
theorem fin_places (hl : L.length = S.length) (hV : V.length = S.length) (h10 : (10 : UInt8) ∉ pat) {A B : Nat} (hab : A ≤ B) (hb : B < countL V) : ∀ (k j : Nat), j + k = B + 1 - A →
    finL (((maskS S L y).drop (begL V A)).take (endL V B - begL V A)) pat every ((((linesOf V).drop A).take (B + 1 - A)).drop j) (begL V (A + j) - begL V A) = (placesL S V L y pat every (A + j) k).map (· - begL V A) := by
  have hE := end_le hb
  intro k
  induction k with
  | zero =>
    intro j hj
    have hn : (((linesOf V).drop A).take (B + 1 - A)).drop j = [] := List.drop_eq_nil_of_le (by rw [List.length_take]; omega)
    rw [hn]
    rfl
  | succ k ih =>
    intro j hj
    have h1 := beg_mono (S := V) (a := A) (b := A + j) (by omega) (by omega)
    have h2 := beg_end (S := V) (n := A + j) (by omega)
    have h3 : endL V (A + j) ≤ endL V B := by
      rcases Nat.lt_or_ge (A + j) B with h | h
      · have := beg_mono (S := V) (a := A + j + 1) (b := B) (by omega) hb
        rw [beg_succ] at this
        have := beg_end hb
        omega
      · rw [show A + j = B by omega]; exact Nat.le_refl _
    have h4 := su_lineL_len (V := V) (n := A + j) (by omega)
    rw [su_line_cut hb (by omega)]
    unfold finL
    rw [h4, show begL V (A + j) - begL V A + (endL V (A + j) - begL V (A + j)) = endL V (A + j) - begL V A by omega, places_shift hl (by omega) h10 (by omega) h3 _ _ h1,
      show endL V (A + j) - begL V A + 1 = begL V (A + (j + 1)) - begL V A by rw [show A + (j + 1) = A + j + 1 by omega, beg_succ]; omega, ih (j + 1) (by omega)]
    unfold placesL
    rw [List.range'_succ, List.flatMap_cons, List.map_append]
    rfl
theorem fin_all (hl : L.length = S.length) (hV : V.length = S.length) (h10 : (10 : UInt8) ∉ pat) {A B : Nat} (hab : A ≤ B) (hb : B < countL V) :
    finL (((maskS S L y).drop (begL V A)).take (endL V B - begL V A)) pat every (linesOf ((V.drop (begL V A)).take (endL V B - begL V A))) 0 = (placesL S V L y pat every A (B + 1 - A)).map (· - begL V A) := by
  have h := fin_places (y := y) (every := every) hl hV h10 hab hb (B + 1 - A) 0 (by omega)
  simp only [Nat.add_zero, List.drop_zero, Nat.sub_self] at h
  rw [← su_lines_cut hab hb] at h
  exact h
end
theorem putsL_map {α : Type} (x : List α) (F m : Nat) (r : List α) : ∀ P : List Nat, putsL x F m r P = putsL x 0 m r (P.map (· - F))
  | [] => rfl
  | p :: P => by
    rw [List.map_cons, putsL_cons, putsL_cons, putsL_map x F m r P]
    rfl
/-- behind one more place -/
theorem putsL_next {α : Type} {X : List α} {a m q : Nat} {r : List α} {Q : List Nat} (ha : a ≤ X.length) (h : Apart m a X.length (q :: Q)) :
    putsL (X.drop a) a m r (q :: Q) = (X.drop a).take (q - a) ++ r ++ putsL (X.drop (q + m)) (q + m) m r Q := by
  have e : a + (X.drop a).length = X.length := by rw [List.length_drop]; omega
  have h2 := h.1
  rw [putsL_first r (by rw [e]; exact h), List.drop_drop, show a + (q + m - a) = q + m by omega]
end Go.Proofs.YtgmeamefbfgbgaaDoor
