/-
  Where occurrences lie: layer 15.
-/
import Derived.Test.YtgmeamefbfgbgaaDoorSuMath
import Derived.Test.YtgmeamefbfgbgaaDoorM04s
namespace Go.Proofs.YtgmeamefbfgbgaaDoor
open Go.RowKit

section
variable {S V : List UInt8} {L : List Nat} {y : Nat} {pat : List UInt8} {every : Bool} {z : Nat}
theorem placesAt_apart : ∀ (k a : Nat), a ≤ z → Apart pat.length a z (placesAt S L y pat every z k a) := by
  intro k
  induction k with
  | zero => intro a h; exact h
  | succ k ih =>
    intro a h
    unfold placesAt
    by_cases ha : a < z
    · rw [if_pos ha]
      by_cases hs : standsS S L y pat a z = true
      · rw [if_pos hs]
        have h1 := ((standsS_iff _ _ _ _ _ _).1 hs).1
        by_cases he : every = true
        · rw [if_pos he]; exact ⟨Nat.le_refl _, ih _ h1⟩
        · rw [if_neg he]; exact ⟨Nat.le_refl _, h1⟩
      · rw [if_neg hs]; exact (ih (a + 1) ha).front (Nat.le_succ _)
    · rw [if_neg ha]; exact h
theorem placesAt_stand : ∀ (k a : Nat), ∀ p ∈ placesAt S L y pat every z k a, standsS S L y pat p z = true := by
  intro k
  induction k with
  | zero => intro a p hp; simp [placesAt] at hp
  | succ k ih =>
    intro a p hp
    unfold placesAt at hp
    by_cases ha : a < z
    · rw [if_pos ha] at hp
      by_cases hs : standsS S L y pat a z = true
      · rw [if_pos hs] at hp
        rcases List.mem_cons.1 hp with rfl | hp
        · exact hs
        · by_cases he : every = true
          · rw [if_pos he] at hp; exact ih _ p hp
          · rw [if_neg he] at hp; simp at hp
      · rw [if_neg hs] at hp; exact ih _ p hp
    · rw [if_neg ha] at hp; simp at hp
/-- with 'every', each occurrence meets one that was found -/
theorem placesAt_full (hp : 0 < pat.length) : ∀ (k a b : Nat), z ≤ a + k → a ≤ b → standsS S L y pat b z = true → ∃ p ∈ placesAt S L y pat true z k a, p < b + pat.length ∧ b < p + pat.length := by
  intro k
  induction k with
  | zero => intro a b h1 h2 h3; have := ((standsS_iff _ _ _ _ _ _).1 h3).1; omega
  | succ k ih =>
    intro a b h1 h2 h3
    have hb := ((standsS_iff _ _ _ _ _ _).1 h3).1
    unfold placesAt
    rw [if_pos (by omega)]
    by_cases hs : standsS S L y pat a z = true
    · rw [if_pos hs, if_pos rfl]
      by_cases hlt : b < a + pat.length
      · exact ⟨a, List.mem_cons_self, by omega, hlt⟩
      · obtain ⟨p, hp1, hp2⟩ := ih (a + pat.length) b (by omega) (by omega) h3
        exact ⟨p, List.mem_cons_of_mem _ hp1, hp2⟩
    · rw [if_neg hs]
      have hne : a ≠ b := fun e => hs (by rw [e]; exact h3)
      exact ih (a + 1) b (by omega) (by omega) h3
theorem placesL_succ (A k : Nat) : placesL S V L y pat every A (k + 1) = placesL S V L y pat every A k ++ placesN S V L y pat every (A + k) := by
  unfold placesL
  rw [List.range'_concat, List.flatMap_append]
  simp
theorem placesN_apart {n : Nat} (h : n < countL V) : Apart pat.length (begL V n) (endL V n) (placesN S V L y pat every n) := placesAt_apart _ _ (beg_end h)
theorem placesL_apart {A : Nat} : ∀ k, A + k < countL V → Apart pat.length (begL V A) (endL V (A + k)) (placesL S V L y pat every A (k + 1)) := by
  intro k
  induction k with
  | zero => intro h; rw [placesL_succ]; exact Apart.append (Nat.le_refl _ : Apart pat.length (begL V A) (begL V A) []) (placesN_apart h)
  | succ k ih =>
    intro h
    rw [placesL_succ]
    refine (ih (by omega)).append ((placesN_apart h).front ?_)
    rw [show A + (k + 1) = A + k + 1 by omega, beg_succ]
    omega
theorem placesL_stand {A : Nat} : ∀ k, ∀ p ∈ placesL S V L y pat every A k, ∃ n, A ≤ n ∧ n < A + k ∧ standsS S L y pat p (endL V n) = true := by
  intro k p hp
  unfold placesL at hp
  obtain ⟨n, hn, hp⟩ := List.mem_flatMap.1 hp
  rw [List.mem_range'_1] at hn
  exact ⟨n, hn.1, hn.2, placesAt_stand _ _ p hp⟩
theorem placesL_full (hp : 0 < pat.length) {A k n b : Nat} (h1 : A ≤ n) (h2 : n < A + k) (hb : begL V n ≤ b) (h : standsS S L y pat b (endL V n) = true) :
    ∃ p ∈ placesL S V L y pat true A k, p < b + pat.length ∧ b < p + pat.length := by
  obtain ⟨p, hp1, hp2⟩ := placesAt_full hp (endL V n - begL V n) (begL V n) b (by omega) hb h
  exact ⟨p, by unfold placesL; exact List.mem_flatMap.2 ⟨n, by rw [List.mem_range'_1]; exact ⟨h1, h2⟩, hp1⟩, hp2⟩
/-- the text that stands at a place -/
theorem stand_take {b : Nat} (h : standsS S L y pat b z = true) : (S.drop b).take pat.length = pat := by
  have h1 := ((standsS_iff _ _ _ _ _ _).1 h).2
  apply List.ext_getElem?
  intro i
  by_cases hi : i < pat.length
  · rw [List.getElem?_take_of_lt hi, List.getElem?_drop, (h1 i hi).1]
  · rw [List.getElem?_eq_none (by rw [List.length_take]; omega), List.getElem?_eq_none (by omega)]
end

/-- bytes that are not hidden are seen -/
theorem view_seen {S : List UInt8} {L : List Nat} {y i : Nat} (h : L.length = S.length) (hs : subB (L.getD i 0) y = true) : (viewTo S L y)[i]? = S[i]? := by
  by_cases hi : i < S.length
  · have : L.getD i 0 = L[i]'(by omega) := by simp [List.getD, List.getElem?_eq_getElem (show i < L.length by omega)]
    rw [this] at hs
    rw [List.getElem?_eq_getElem (by rw [viewTo_len h]; exact hi), List.getElem?_eq_getElem hi, viewTo_get h hi, if_pos hs]
  · rw [List.getElem?_eq_none (by rw [viewTo_len h]; omega), List.getElem?_eq_none (by omega)]
/-- the view where a text stands is that text -/
theorem stand_view {S : List UInt8} {L : List Nat} {y b z : Nat} {pat : List UInt8} (hl : L.length = S.length) (h : standsS S L y pat b z = true) : ((viewTo S L y).drop b).take pat.length = pat := by
  have h1 := ((standsS_iff _ _ _ _ _ _).1 h).2
  apply List.ext_getElem?
  intro i
  by_cases hi : i < pat.length
  · rw [List.getElem?_take_of_lt hi, List.getElem?_drop, view_seen hl (h1 i hi).2, (h1 i hi).1]
  · rw [List.getElem?_eq_none (by rw [List.length_take]; omega), List.getElem?_eq_none (by omega)]

section
variable {α : Type} {m : Nat}
/-- what stands at the places in their own place -/
theorem putsL_same (r : List α) (hr : r.length = m) : ∀ (P : List Nat) (x : List α) (off : Nat), Apart m off (off + x.length) P → (∀ p ∈ P, (x.drop (p - off)).take m = r) → putsL x off m r P = x := by
  intro P
  induction P with
  | nil => intro x off _ _; rfl
  | cons p P ih =>
    intro x off h hp
    have hl := h.2.le
    have h1 := h.1
    rw [putsL_first r h, ih (x.drop (p + m - off)) (p + m) (by rw [List.length_drop, show p + m + (x.length - (p + m - off)) = off + x.length by omega]; exact h.2) ?_]
    · have h2 := hp p List.mem_cons_self
      have e := List.take_append_drop (p - off) x
      have e2 := List.take_append_drop m (x.drop (p - off))
      rw [h2, List.drop_drop, show p - off + m = p + m - off by omega] at e2
      rw [List.append_assoc, e2, e]
    · intro q hq
      have h3 := h.2.mem q hq
      have := hp q (List.mem_cons_of_mem _ hq)
      rw [List.drop_drop, show p + m - off + (q - (p + m)) = q - off by omega]
      exact this
/-- a mark that what came has, and no byte of a stretch has: the stretch was there, beside all places -/
theorem putsL_window (r : List α) (q : α → Prop) (hr : ∀ x ∈ r, q x) (h0 : 0 < r.length) : ∀ (P : List Nat) (x : List α) (off a n : Nat), Apart m off (off + x.length) P → 0 < n → a + n ≤ (putsL x off m r P).length →
    (∀ i v, i < n → (putsL x off m r P)[a + i]? = some v → ¬ q v) →
    ∃ k, off ≤ k ∧ k + n ≤ off + x.length ∧ (∀ i, i < n → (putsL x off m r P)[a + i]? = x[k - off + i]?) ∧ ∀ p ∈ P, k + n ≤ p ∨ p + m ≤ k := by
  intro P
  induction P with
  | nil =>
    intro x off a n _ _ h2 _
    rw [putsL_nil] at *
    exact ⟨off + a, by omega, by omega, fun i _ => by rw [show off + a - off + i = a + i by omega], fun p hp => by simp at hp⟩
  | cons p P ih =>
    intro x off a n h hn h2 h3
    have hl := h.2.le
    have h1 := h.1
    have hE := putsL_first r h
    rw [hE] at h2 h3 ⊢
    have e1 : (x.take (p - off)).length = p - off := by rw [List.length_take]; omega
    by_cases hA : a + n ≤ p - off
    · -- ahead of the first place
      refine ⟨off + a, by omega, by omega, fun i hi => ?_, ?_⟩
      · rw [List.append_assoc, List.getElem?_append_left (by rw [e1]; omega), List.getElem?_take_of_lt (by omega), show off + a - off + i = a + i by omega]
      · intro q hq
        rcases List.mem_cons.1 hq with rfl | hq
        · left; omega
        · left; have := (h.2.mem q hq).1; omega
    · by_cases hB : p - off + r.length ≤ a
      · -- behind it
        have hidx : ∀ i, (x.take (p - off) ++ r ++ putsL (x.drop (p + m - off)) (p + m) m r P)[a + i]? = (putsL (x.drop (p + m - off)) (p + m) m r P)[(a - (p - off + r.length)) + i]? := by
          intro i
          rw [List.getElem?_append_right (by rw [List.length_append, e1]; omega), List.length_append, e1]
          congr 1
          omega
        have hlen : (x.drop (p + m - off)).length = x.length - (p + m - off) := List.length_drop
        obtain ⟨k, k1, k2, k3, k4⟩ := ih (x.drop (p + m - off)) (p + m) (a - (p - off + r.length)) n (by rw [hlen, show p + m + (x.length - (p + m - off)) = off + x.length by omega]; exact h.2) hn
          (by rw [List.length_append, List.length_append, e1] at h2; omega) (fun i v hi hv => h3 i v hi (by rw [hidx]; exact hv))
        rw [hlen] at k2
        refine ⟨k, by omega, by omega, fun i hi => ?_, ?_⟩
        · rw [hidx, k3 i hi, List.getElem?_drop, show p + m - off + (k - (p + m) + i) = k - off + i by omega]
        · intro q hq
          rcases List.mem_cons.1 hq with rfl | hq
          · right; exact k1
          · exact k4 q hq
      · -- over one of its bytes
        exfalso
        have hj : ∃ i, i < n ∧ p - off ≤ a + i ∧ a + i < p - off + r.length := by
          by_cases hc : p - off ≤ a
          · exact ⟨0, hn, by omega, by omega⟩
          · exact ⟨p - off - a, by omega, by omega, by omega⟩
        obtain ⟨i, i1, i2, i3⟩ := hj
        have hg : (x.take (p - off) ++ r ++ putsL (x.drop (p + m - off)) (p + m) m r P)[a + i]? = some (r[a + i - (p - off)]'(by omega)) := by
          rw [List.getElem?_append_left (by rw [List.length_append, e1]; omega), List.getElem?_append_right (by rw [e1]; omega), e1, List.getElem?_eq_getElem (by omega)]
        exact h3 i _ i1 hg (hr _ (List.getElem_mem _))
end
end Go.Proofs.YtgmeamefbfgbgaaDoor
