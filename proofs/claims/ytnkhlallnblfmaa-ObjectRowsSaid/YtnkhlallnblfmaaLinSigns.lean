/-
  The signs of a line: layer 6. No program here.
-/
import Derived.Test.YtnkhlallnblfmaaLinLines
import Derived.Test.YtnkhlallnblfmaaLinStarts
import Derived.Test.YtnkhlallnblfmaaLinCol
import Derived.Test.YtnkhlallnblfmaaLinClass
import Derived.Test.YtnkhlallnblfmaaUtfBack
namespace Go.Proofs.Ytnkhlallnblfmaa
open Go.RowKit

theorem dec_take {t : List UInt8} {k : Nat} (ht : t ≠ []) (hk : (dec t).2 ≤ k) : dec (t.take k) = dec t := by
  have hp := (dec_pos t).1
  have hne : t.take k ≠ [] := by
    have := List.length_pos_iff.2 ht
    intro h
    have := congrArg List.length h
    rw [List.length_take, List.length_nil] at this
    omega
  cases hb : broken (dec (t.take k)) with
  | false =>
    have h := dec_more hne hb (t.drop k)
    rw [List.take_append_drop] at h
    exact h.symm
  | true =>
    cases hc : broken (dec t) with
    | true =>
      unfold broken at hb hc
      simp only [decide_eq_true_eq] at hb hc
      exact Prod.ext (hb.1.trans hc.1.symm) (hb.2.trans hc.2.symm)
    | false =>
      obtain ⟨h1, h2, h3⟩ := dec_whole ht hc
      have e : t.take k = enc (dec t).1 ++ (t.take k).drop (dec t).2 := by
        rw [h3]
        conv => lhs; rw [← List.take_append_drop (dec t).2 (t.take k)]
        rw [List.take_take, Nat.min_eq_left hk]
      have h4 := dec_enc (dec t).1 h1 ((t.take k).drop (dec t).2)
      rw [← e] at h4
      rw [h4, enc_broken _ _ rfl] at hb
      cases hb
/-- the signs of a text's beginning, cut between two signs -/
theorem chars_take : ∀ (mid : List (Nat × Nat)) (t : List UInt8) (rest : List (Nat × Nat)), chars t = mid ++ rest → chars (t.take (width mid)) = mid := by
  intro mid
  induction mid with
  | nil => intro t rest _; simp [width, chars_nil]
  | cons x mid ih =>
    intro t rest h
    have ht : t ≠ [] := by intro h0; subst h0; rw [chars_nil] at h; cases h
    rw [chars_cons ht, List.cons_append, List.cons.injEq] at h
    obtain ⟨rfl, h⟩ := h
    have hw : width (dec t :: mid) = (dec t).2 + width mid := by simp [width]
    have hp := (dec_pos t).1
    have hne : t.take (width (dec t :: mid)) ≠ [] := by
      have := List.length_pos_iff.2 ht
      intro h
      have := congrArg List.length h
      rw [List.length_take, hw, List.length_nil] at this
      omega
    rw [chars_cons hne, dec_take ht (by omega), hw, List.drop_take, Nat.add_sub_cancel_left, ih _ _ h]
theorem Read.slice {S : List UInt8} {done mid : List (Nat × Nat)} {a b : Nat} (h : Read S done a) (h2 : Read S (done ++ mid) b) : chars ((S.drop a).take (b - a)) = mid := by
  have e : chars (S.drop a) = mid ++ chars (S.drop b) := by
    have := h.all.symm.trans h2.all
    rw [List.append_assoc] at this
    exact List.append_cancel_left this
  have hw : b - a = width mid := by rw [← h2.wide, ← h.wide, width_append]; omega
  rw [hw]
  exact chars_take mid _ _ e
theorem read_take {S : List UInt8} {i : Nat} (h : i ≤ (chars S).length) : Read S ((chars S).take i) (width ((chars S).take i)) := by
  obtain ⟨j, hj⟩ := which_ex (chars S) ((width ((chars S).take i) : Nat) : Int)
  have key : ∀ i, i ≤ (chars S).length → Read S ((chars S).take i) (width ((chars S).take i)) := by
    intro i
    induction i with
    | zero => intro _; simpa [width] using Read.start S
    | succ i ih =>
      intro hi
      have hr := ih (by omega)
      have hl : ((chars S).take i).length = i := by rw [List.length_take]; omega
      have hlt : width ((chars S).take i) < S.length := by
        rcases Nat.lt_or_ge (width ((chars S).take i)) S.length with h | h
        · exact h
        · have := congrArg List.length (hr.end_ h); omega
      have h1 := hr.step hlt
      have h2 := hr.take_succ hlt
      have h3 := hr.next_width hlt
      rw [hl] at h2 h3
      rw [h3, h2]
      exact h1
  exact key i h
/-- a sign's beginning lies in that sign -/
theorem which_self {S : List UInt8} {i : Nat} (hi : i ≤ (chars S).length) : Which (chars S) ((width ((chars S).take i) : Nat) : Int) i := by
  rcases Nat.lt_or_ge i (chars S).length with h | h
  · have hs := width_succ (chars S) i h
    have := (chars_bound S _ (List.getElem_mem h)).2.1
    exact which_in h (Int.le_refl _) (by rw [hs]; omega)
  · obtain rfl : i = (chars S).length := by omega
    exact which_behind S (by rw [width_all]; exact Int.le_refl _)
/-- a line end is a sign of its own -/
theorem nl_sign {S : List UInt8} {p : Nat} (h : S[p]? = some 10) : ∃ i, i < (chars S).length ∧ width ((chars S).take i) = p ∧ width ((chars S).take (i + 1)) = p + 1 := by
  have hp : p < S.length := by
    rcases Nat.lt_or_ge p S.length with hp | hp
    · exact hp
    · rw [List.getElem?_eq_none hp] at h; cases h
  obtain ⟨i, hi⟩ := which_ex (chars S) ((p : Nat) : Int)
  obtain ⟨h1, h2, h3⟩ := hi.here_bytes hp
  have hD : S.getD p 0 = 10 := by rw [List.getD_eq_getElem?_getD, h]; rfl
  have e : width ((chars S).take i) = p := by
    rcases Nat.lt_or_ge (width ((chars S).take i)) p with hl | hl
    · have := dec_inner (t := S.drop (width ((chars S).take i))) (k := p - width ((chars S).take i)) (by omega) (by omega)
      rw [getD_drop, show width ((chars S).take i) + (p - width ((chars S).take i)) = p by omega, hD] at this
      exact absurd this (by decide)
    · omega
  refine ⟨i, h1, e, ?_⟩
  have h4 := (read_take (S := S) (i := i) (by omega)).next_width (by omega)
  have hlen : ((chars S).take i).length = i := by rw [List.length_take]; omega
  rw [hlen, e] at h4
  have h5 : (dec (S.drop p)).2 = 1 := by
    have hd : (S.drop p).getD 0 0 = 10 := by rw [getD_drop, Nat.add_zero, hD]
    simp only [dec, hd]
    rfl
  rw [h4, h5]
theorem startsAt_mem {l : List (Nat × Nat)} (hl : ∀ x ∈ l, 1 ≤ x.2) : ∀ {a x : Nat}, x ∈ startsAt a l → a ≤ x ∧ x < a + width l := by
  induction l with
  | nil => intro a x h; simp [startsAt] at h
  | cons y l ih =>
    intro a x h
    have hw : width (y :: l) = y.2 + width l := by simp [width]
    have hy := hl y (by simp)
    rcases List.mem_cons.1 h with rfl | h
    · omega
    · have := ih (fun z hz => hl z (by simp [hz])) h
      omega
theorem filter_all {α : Type} {l : List α} {p : α → Bool} (h : ∀ x ∈ l, p x = true) : l.filter p = l := List.filter_eq_self.2 h
theorem filter_no {α : Type} {l : List α} {p : α → Bool} (h : ∀ x ∈ l, p x = false) : l.filter p = [] := List.filter_eq_nil_iff.2 fun x hx => by rw [h x hx]; decide
theorem chars_wide {S : List UInt8} : ∀ x ∈ chars S, 1 ≤ x.2 := fun x hx => (chars_bound S x hx).2.1

/-- the signs of a line -/
def signsL (S : List UInt8) (n : Nat) : List (Nat × Nat) := chars (lineL S n)
theorem line_signs {S : List UInt8} {n : Nat} (h : n < countL S) :
    ∃ A C, chars S = A ++ signsL S n ++ C ∧ width A = begL S n ∧ width A + width (signsL S n) = endL S n ∧ startsL S n = startsAt (begL S n) (signsL S n) := by
  obtain ⟨i0, hi0, e0⟩ : ∃ i, i ≤ (chars S).length ∧ width ((chars S).take i) = begL S n := by
    cases n with
    | zero => exact ⟨0, by omega, by rw [beg_zero]; simp [width]⟩
    | succ n =>
      obtain ⟨i, h1, _, h3⟩ := nl_sign (ends_inner (n := n) h).1
      exact ⟨i + 1, h1, by rw [h3, beg_succ]⟩
  obtain ⟨i1, hi1, e1⟩ : ∃ i, i ≤ (chars S).length ∧ width ((chars S).take i) = endL S n := by
    rcases end_is h with he | he
    · exact ⟨(chars S).length, Nat.le_refl _, by rw [width_all, he]⟩
    · obtain ⟨i, h1, h2, _⟩ := nl_sign he
      exact ⟨i, by omega, h2⟩
  have hbe := beg_end h
  have h01 : i0 ≤ i1 := by
    rcases Nat.lt_or_ge i1 i0 with hx | hx
    · have := width_take_mono (chars S) (show i1 + 1 ≤ i0 by omega)
      rw [width_succ _ _ (by omega)] at this
      have := chars_wide (S := S) _ (List.getElem_mem (show i1 < (chars S).length by omega))
      omega
    · exact hx
  have r0 := read_take hi0
  have r1 := read_take hi1
  have es : (chars S).take i1 = (chars S).take i0 ++ ((chars S).drop i0).take (i1 - i0) := by
    rw [← List.take_add]; congr 1; omega
  have hB : signsL S n = ((chars S).drop i0).take (i1 - i0) := by
    rw [es] at r1
    have := r0.slice r1
    rw [← es, e0, e1] at this
    exact this
  have eA : chars S = (chars S).take i0 ++ signsL S n ++ (chars S).drop i1 := by
    rw [hB, ← es, List.take_append_drop]
  have e2 : width ((chars S).take i0) + width (signsL S n) = endL S n := by rw [hB, ← width_append, ← es, e1]
  refine ⟨_, _, eA, e0, e2, ?_⟩
  have hx : ∀ x, inLine S (n : Int) x = (decide (begL S n ≤ x) && decide (x < endL S n)) := fun x => by
    unfold inLine; rw [boundsL_nat h]
  have hin : ∀ x ∈ (chars S).take i0, 1 ≤ x.2 := fun x hx => chars_wide x (List.mem_of_mem_take hx)
  have hin2 : ∀ x ∈ signsL S n, 1 ≤ x.2 := chars_wide
  have hin3 : ∀ x ∈ (chars S).drop i1, 1 ≤ x.2 := fun x hx => chars_wide x (List.mem_of_mem_drop hx)
  unfold startsL
  conv => lhs; rw [eA]
  rw [startsAt_append, startsAt_append, List.filter_append, List.filter_append, width_append, e2, Nat.zero_add, Nat.zero_add, e0]
  rw [filter_no (l := startsAt 0 _), filter_all (l := startsAt (begL S n) _), filter_no (l := startsAt (endL S n) _), List.nil_append, List.append_nil]
  · intro x hm
    have := startsAt_mem hin3 hm
    rw [hx]; simp; omega
  · intro x hm
    have := startsAt_mem hin2 hm
    rw [hx]; simp; omega
  · intro x hm
    have := startsAt_mem hin hm
    rw [hx]; simp; omega
theorem startsAt_nth (a : Nat) (l : List (Nat × Nat)) (k : Nat) (h : k < l.length) : (startsAt a l)[k]? = some (a + width (l.take k)) := by
  induction l generalizing a k with
  | nil => simp at h
  | cons x l ih =>
    cases k with
    | zero => simp [startsAt, width]
    | succ k =>
      simp only [startsAt, List.getElem?_cons_succ, List.take_succ_cons]
      rw [ih (a + x.2) k (by simpa using h)]
      simp [width]; omega
theorem startsL_nth {S : List UInt8} {n : Nat} (h : n < countL S) {k : Nat} (hk : k < (signsL S n).length) : (startsL S (n : Int)).getD k 0 = begL S n + width ((signsL S n).take k) := by
  obtain ⟨A, C, h1, h2, h3, h4⟩ := line_signs h
  rw [h4, List.getD_eq_getElem?_getD, startsAt_nth _ _ _ hk]; rfl
theorem startsL_count {S : List UInt8} {n : Nat} (h : n < countL S) : (startsL S (n : Int)).length = (signsL S n).length := by
  obtain ⟨A, C, h1, h2, h3, h4⟩ := line_signs h
  rw [h4, startsAt_len]
/-- a sign of a line, as a sign of the text -/
theorem sign_of {S : List UInt8} {n : Nat} (h : n < countL S) {k : Nat} (hk : k < (signsL S n).length) {i : Nat} (hi : Which (chars S) ((begL S n + width ((signsL S n).take k) : Nat) : Int) i) :
    (chars S).getD i (0, 0) = (signsL S n)[k] ∧ width ((chars S).take i) = begL S n + width ((signsL S n).take k) ∧ width ((chars S).take (i + 1)) = begL S n + width ((signsL S n).take (k + 1)) := by
  obtain ⟨A, C, h1, h2, h3, h4⟩ := line_signs h
  generalize signsL S n = B at *
  have hlen : A.length + k < (chars S).length := by rw [h1]; simp; omega
  have e1 : (chars S).take (A.length + k) = A ++ B.take k := by
    rw [h1, List.append_assoc, List.take_length_add_append, List.take_append_of_le_length (by omega)]
  have e2 : (chars S).take (A.length + k + 1) = A ++ B.take (k + 1) := by
    rw [h1, List.append_assoc, Nat.add_assoc, List.take_length_add_append, List.take_append_of_le_length (by omega)]
  have w1 : width ((chars S).take (A.length + k)) = begL S n + width (B.take k) := by rw [e1, width_append, h2]
  have w2 : width ((chars S).take (A.length + k + 1)) = begL S n + width (B.take (k + 1)) := by rw [e2, width_append, h2]
  have hw : 1 ≤ B[k].2 := chars_wide (S := S) _ (by rw [h1]; simp)
  have hs := width_succ B k hk
  obtain rfl : i = A.length + k := hi.unique (which_in hlen (by rw [w1]; exact Int.le_refl _) (by rw [w2]; omega))
  refine ⟨?_, w1, w2⟩
  rw [h1, List.getD_eq_getElem?_getD, List.append_assoc, List.getElem?_append_right (by omega), Nat.add_sub_cancel_left, List.getElem?_append_left hk, List.getElem?_eq_getElem hk]; rfl

/-- the place of a column -/
theorem placeL_eq {S : List UInt8} {n col : Int} : placeL S n col = begL S (broughtL S n) + width ((signsL S (broughtL S n)).take (min col.toNat ((signsL S (broughtL S n)).length - 1))) := by
  have hb : broughtL S n < countL S := by have := countL_pos S; unfold broughtL; omega
  unfold placeL lastL
  generalize broughtL S n = k at *
  have hc := startsL_count hb
  by_cases h1 : col.toNat < (startsL S (k : Int)).length
  · rw [if_pos h1, startsL_nth hb (by omega), Nat.min_eq_left (by omega)]
  · rw [if_neg h1]
    by_cases h2 : startsL S (k : Int) = []
    · rw [if_pos h2, boundsL_nat hb]
      rw [h2] at hc
      have : signsL S k = [] := List.eq_nil_of_length_eq_zero (by simpa using hc.symm)
      rw [this]; simp [width]
    · have := List.length_pos_iff.2 h2
      rw [if_neg h2, startsL_nth hb (by omega), Nat.min_eq_right (by omega), hc]
theorem lastL_eq {S : List UInt8} {n : Nat} (hb : n < countL S) : lastL S (n : Int) = begL S n + width ((signsL S n).take ((signsL S n).length - 1)) := by
  have hc := startsL_count hb
  unfold lastL
  by_cases h2 : startsL S (n : Int) = []
  · rw [if_pos h2, boundsL_nat hb]
    rw [h2] at hc
    have : signsL S n = [] := List.eq_nil_of_length_eq_zero (by simpa using hc.symm)
    rw [this]; simp [width]
  · have := List.length_pos_iff.2 h2
    rw [if_neg h2, startsL_nth hb (by omega), hc]
/-- the first sign of a line that is not blank, or the last -/
def firstJ (B : List (Nat × Nat)) : Nat := min (B.findIdx fun x => classL x.1 != 0) (B.length - 1)
def firstL (S : List UInt8) (n : Int) : Nat := begL S (broughtL S n) + width ((signsL S (broughtL S n)).take (firstJ (signsL S (broughtL S n))))
theorem firstJ_hit {B : List (Nat × Nat)} {j : Nat} (hj : j < B.length) (h : classL B[j].1 ≠ 0) (hb : ∀ i (hi : i < j), classL (B[i]'(by omega)).1 = 0) : firstJ B = j := by
  have e : B.findIdx (fun x => classL x.1 != 0) = j := by
    rw [List.findIdx_eq hj]
    exact ⟨by simpa using h, fun i hi => by simpa using hb i hi⟩
  unfold firstJ; rw [e]; omega
theorem firstJ_none {B : List (Nat × Nat)} (hb : ∀ i (hi : i < B.length), classL B[i].1 = 0) : firstJ B = B.length - 1 := by
  have e : B.findIdx (fun x => classL x.1 != 0) = B.length := by
    rw [List.findIdx_eq_length]
    intro x hx
    obtain ⟨i, hi, rfl⟩ := List.getElem_of_mem hx
    simpa using hb i hi
  unfold firstJ; rw [e]; omega

/-- the column of the beginning of a sign -/
theorem col_eq {S : List UInt8} {i : Nat} (hi : i ≤ (chars S).length) :
    colAt S (width ((chars S).take i)) = (chars ((S.drop (begL S (ofL S ((width ((chars S).take i) : Nat) : Int)))).take (width ((chars S).take i) - begL S (ofL S ((width ((chars S).take i) : Nat) : Int))))).length := by
  have hw := (read_take hi).le
  have ho : ofL S ((width ((chars S).take i) : Nat) : Int) = (endsTo S (width ((chars S).take i))).length := by
    unfold ofL; rw [Int.toNat_natCast, Nat.min_eq_right hw]
  obtain ⟨h1, h2, h3⟩ := place_line hw
  unfold colAt
  rw [ho]
  generalize (endsTo S (width ((chars S).take i))).length = n at *
  obtain ⟨A, C, g1, g2, g3, g4⟩ := line_signs h1
  generalize ha : width ((chars S).take i) = a at *
  have hA : A.length ≤ i := by
    rcases Nat.lt_or_ge i A.length with hx | hx
    · have := width_take_mono (chars S) (show i + 1 ≤ A.length by omega)
      have e : (chars S).take A.length = A := by rw [g1, List.append_assoc, List.take_left' rfl]
      have hl : A.length ≤ (chars S).length := by rw [g1]; simp
      rw [e, width_succ _ _ (by omega)] at this
      have := chars_wide (S := S) _ (List.getElem_mem (show i < (chars S).length by omega))
      omega
    · exact hx
  have hAB : i ≤ A.length + (signsL S n).length := by
    rcases Nat.lt_or_ge (A.length + (signsL S n).length) i with hx | hx
    · have := width_take_mono (chars S) (show A.length + (signsL S n).length + 1 ≤ i by omega)
      have e : (chars S).take (A.length + (signsL S n).length) = A ++ signsL S n := by rw [g1, ← List.length_append, List.take_left' rfl]
      rw [width_succ _ _ (by omega), e, width_append] at this
      have := chars_wide (S := S) _ (List.getElem_mem (show A.length + (signsL S n).length < (chars S).length by omega))
      omega
    · exact hx
  obtain ⟨k, rfl⟩ : ∃ k, i = A.length + k := ⟨i - A.length, by omega⟩
  have et : (chars S).take (A.length + k) = A ++ (signsL S n).take k := by
    rw [g1, List.append_assoc, List.take_length_add_append, List.take_append_of_le_length (by omega)]
  have eA : (chars S).take A.length = A := by rw [g1, List.append_assoc, List.take_left' rfl]
  have r0 := read_take (S := S) (i := A.length) (by omega)
  have r1 := read_take hi
  rw [eA, g2] at r0
  rw [et, ← et, ha, et] at r1
  rw [r0.slice r1, g4]
  have hwa : a = begL S n + width ((signsL S n).take k) := by rw [← ha, et, width_append, g2]
  have hk : k ≤ (signsL S n).length := by omega
  have hB : ∀ x ∈ signsL S n, 1 ≤ x.2 := chars_wide
  generalize signsL S n = B at *
  conv => lhs; rw [← List.take_append_drop k B, startsAt_append, List.filter_append, filter_all (l := startsAt _ (B.take k)) (fun x hx => by
    have := startsAt_mem (fun y hy => hB y (List.mem_of_mem_take hy)) hx
    simp; omega), filter_no (l := startsAt _ (B.drop k)) (fun x hx => by
    have := startsAt_mem (fun y hy => hB y (List.mem_of_mem_drop hy)) hx
    simp; omega)]
  rw [List.append_nil, startsAt_len]
/-- a sign that is no line end is found again by its line and its column -/
theorem back_eq {S : List UInt8} {i : Nat} (hi : i ≤ (chars S).length) (hl : width ((chars S).take i) < S.length) (h10 : S[width ((chars S).take i)]? ≠ some 10) :
    (endsTo S (width ((chars S).take i))).length < countL S ∧ begL S (endsTo S (width ((chars S).take i))).length ≤ width ((chars S).take i) ∧ width ((chars S).take i) < endL S (endsTo S (width ((chars S).take i))).length ∧
      placeL S (ofL S ((width ((chars S).take i) : Nat) : Int)) (colAt S (width ((chars S).take i))) = width ((chars S).take i) := by
  have hw := (read_take hi).le
  have ho : ofL S ((width ((chars S).take i) : Nat) : Int) = (endsTo S (width ((chars S).take i))).length := by
    unfold ofL; rw [Int.toNat_natCast, Nat.min_eq_right hw]
  have hc := col_eq hi
  rw [ho] at hc ⊢
  obtain ⟨h1, h2, h3⟩ := place_line hw
  generalize (endsTo S (width ((chars S).take i))).length = n at *
  have h4 : width ((chars S).take i) < endL S n := by
    rcases Nat.lt_or_ge (width ((chars S).take i)) (endL S n) with h | h
    · exact h
    · have e : width ((chars S).take i) = endL S n := by omega
      rw [e] at hl h10
      rcases end_is h1 with h | h
      · omega
      · exact absurd h h10
  refine ⟨h1, h2, h4, ?_⟩
  rw [placeL_eq, hc]
  have hbr : broughtL S (n : Int) = n := by unfold broughtL; omega
  rw [hbr]
  obtain ⟨A, C, g1, g2, g3, g4⟩ := line_signs h1
  generalize ha : width ((chars S).take i) = a at *
  have eA : (chars S).take A.length = A := by rw [g1, List.append_assoc, List.take_left' rfl]
  have hlA : A.length + (signsL S n).length ≤ (chars S).length := by rw [g1]; simp
  have hA : A.length ≤ i := by
    rcases Nat.lt_or_ge i A.length with hx | hx
    · have := width_take_mono (chars S) (show i + 1 ≤ A.length by omega)
      rw [eA, width_succ _ _ (by omega)] at this
      have := chars_wide (S := S) _ (List.getElem_mem (show i < (chars S).length by omega))
      omega
    · exact hx
  have hAB : i < A.length + (signsL S n).length := by
    rcases Nat.lt_or_ge i (A.length + (signsL S n).length) with hx | hx
    · exact hx
    · have := width_take_mono (chars S) hx
      have e : (chars S).take (A.length + (signsL S n).length) = A ++ signsL S n := by rw [g1, ← List.length_append, List.take_left' rfl]
      rw [e, width_append] at this
      omega
  obtain ⟨k, rfl⟩ : ∃ k, i = A.length + k := ⟨i - A.length, by omega⟩
  have et : (chars S).take (A.length + k) = A ++ (signsL S n).take k := by
    rw [g1, List.append_assoc, List.take_length_add_append, List.take_append_of_le_length (by omega)]
  have r0 := read_take (S := S) (i := A.length) (by omega)
  have r1 := read_take hi
  rw [eA, g2] at r0
  rw [ha, et] at r1
  rw [r0.slice r1]
  have hwa : a = begL S n + width ((signsL S n).take k) := by rw [← ha, et, width_append, g2]
  rw [List.length_take, Int.toNat_natCast, Nat.min_eq_left (show k ≤ (signsL S n).length by omega), Nat.min_eq_left (by omega), ← hwa]
end Go.Proofs.Ytnkhlallnblfmaa
