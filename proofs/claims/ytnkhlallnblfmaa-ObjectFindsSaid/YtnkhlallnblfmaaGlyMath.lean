/-
  Plain facts for the statements of layer 2: encodings, texts one behind the other, texts and their runes.
-/
import Derived.Test.YtnkhlallnblfmaaGlySays
namespace Go.Proofs.Ytnkhlallnblfmaa

def fixR (r : Int) : Nat := if mayB r = true then r.toNat else 0xFFFD
theorem fixR_may (r : Int) : may (fixR r) := by
  unfold fixR
  cases h : mayB r with
  | true =>
    rw [if_pos rfl]
    have h0 : 0 ≤ r := by unfold mayB at h; simp at h; omega
    rw [← mayB_may, show ((r.toNat : Nat) : Int) = r by omega]; exact h
  | false => rw [if_neg (by decide)]; unfold may; omega
theorem encB_fix (r : Int) : encB r = enc (fixR r) := by unfold encB fixR; split <;> rfl

theorem chars_enc (r : Nat) (hr : may r) (t : List UInt8) : chars (enc r ++ t) = (r, (enc r).length) :: chars t := by
  have hne : enc r ++ t ≠ [] := by simp [enc_ne]
  rw [chars_cons hne, dec_enc r hr t]
  simp
def encSign (r : Int) : Nat × Nat := (fixR r, (enc (fixR r)).length)
theorem chars_encAll (zs : List Int) : chars (encAll zs) = zs.map encSign := by
  induction zs with
  | nil => rfl
  | cons r zs ih =>
    have e : encAll (r :: zs) = enc (fixR r) ++ encAll zs := by simp only [encAll, List.flatMap_cons, encB_fix]
    rw [e, chars_enc _ (fixR_may r), ih]; rfl
theorem encAll_valid (zs : List Int) : ((chars (encAll zs)).all fun x => !broken x) = true := by
  rw [chars_encAll, List.all_map, List.all_eq_true]
  intro r _
  simp only [Function.comp, encSign]
  rw [enc_broken _ _ rfl]; rfl
theorem encAll_count (zs : List Int) : (chars (encAll zs)).length = zs.length := by rw [chars_encAll, List.length_map]

theorem drop_append_le {α : Type} (s t : List α) {n : Nat} (h : n ≤ s.length) : (s ++ t).drop n = s.drop n ++ t := by
  rw [List.drop_append]
  rw [show n - s.length = 0 by omega]; simp

/-- a text behind whole signs -/
theorem chars_append (t : List UInt8) : ∀ (n : Nat) (s : List UInt8), s.length ≤ n → ((chars s).all fun x => !broken x) = true → chars (s ++ t) = chars s ++ chars t := by
  intro n
  induction n with
  | zero =>
    intro s h _
    have : s = [] := List.eq_nil_of_length_eq_zero (by omega)
    subst this
    simp [chars_nil]
  | succ n ih =>
    intro s h hv
    by_cases hs : s = []
    · subst hs; simp [chars_nil]
    · rw [chars_cons hs] at hv ⊢
      rw [List.all_cons, Bool.and_eq_true] at hv
      have hb : broken (dec s) = false := by simpa using hv.1
      have hp := (dec_pos s).1
      have hle := dec_le hs
      have hpos := List.length_pos_iff.2 hs
      rw [chars_cons (show s ++ t ≠ [] by simp [hs]), dec_more hs hb, drop_append_le s t hle]
      rw [ih (s.drop (dec s).2) (by rw [List.length_drop]; omega) hv.2]
      rfl

def runes (l : List (Nat × Nat)) : List Int := l.map fun x => (x.1 : Int)
theorem fixR_nat {r : Nat} (h : may r) : fixR (r : Int) = r := by
  unfold fixR
  rw [if_pos ((mayB_may r).2 h)]; simp
/-- a text of whole signs is its runes' bytes; any other is longer then -/
theorem back_aux : ∀ (n : Nat) (s : List UInt8), s.length ≤ n →
    (((chars s).all fun x => !broken x) = true → encAll (runes (chars s)) = s) ∧ (s.length ≤ (encAll (runes (chars s))).length) ∧
    (((chars s).all fun x => !broken x) = false → s.length < (encAll (runes (chars s))).length) := by
  intro n
  induction n with
  | zero =>
    intro s h
    have : s = [] := List.eq_nil_of_length_eq_zero (by omega)
    subst this
    refine ⟨fun _ => rfl, by simp, fun h => ?_⟩
    rw [chars_nil] at h; cases h
  | succ n ih =>
    intro s h
    by_cases hs : s = []
    · subst hs
      refine ⟨fun _ => rfl, by simp, fun h => ?_⟩
      rw [chars_nil] at h; cases h
    · have hp := dec_pos s
      have hle := dec_le hs
      have hpos := List.length_pos_iff.2 hs
      obtain ⟨h1, h2, h3⟩ := ih (s.drop (dec s).2) (by rw [List.length_drop]; omega)
      have hlen : (s.drop (dec s).2).length = s.length - (dec s).2 := List.length_drop
      rw [chars_cons hs]
      have e : encAll (runes (dec s :: chars (s.drop (dec s).2))) = encB ((dec s).1 : Int) ++ encAll (runes (chars (s.drop (dec s).2))) := by simp [encAll, runes]
      rw [e, List.length_append]
      cases hb : broken (dec s) with
      | false =>
        obtain ⟨w1, w2, w3⟩ := dec_whole hs hb
        have e2 : encB ((dec s).1 : Int) = s.take (dec s).2 := by rw [encB_fix, fixR_nat w1, w3]
        have e3 : (encB ((dec s).1 : Int)).length = (dec s).2 := by rw [e2, List.length_take]; omega
        rw [List.all_cons, hb]
        refine ⟨fun hv => ?_, by omega, fun hv => ?_⟩
        · rw [h1 (by simpa using hv), e2, List.take_append_drop]
        · have := h3 (by simpa using hv)
          omega
      | true =>
        have hb' := hb
        unfold broken at hb'
        simp at hb'
        have e3 : (encB ((dec s).1 : Int)).length = 3 := by rw [hb'.1]; decide
        rw [List.all_cons, hb]
        refine ⟨fun hv => by simp at hv, by omega, fun _ => by omega⟩
theorem back (s : List UInt8) : (encAll (runes (chars s)) == s) = ((chars s).all fun x => !broken x) := by
  obtain ⟨h1, _, h3⟩ := back_aux s.length s (Nat.le_refl _)
  cases hv : (chars s).all fun x => !broken x with
  | true => rw [h1 hv]; simp
  | false =>
    have := h3 hv
    simp
    intro h
    rw [h] at this
    omega

/-- which sign a place within the i-th sign lies in -/
theorem which_in {l : List (Nat × Nat)} {i : Nat} (hi : i < l.length) {p : Int} (h1 : ((width (l.take i) : Nat) : Int) ≤ p) (h2 : p < ((width (l.take (i + 1)) : Nat) : Int)) : Which l p i :=
  ⟨by omega, fun j hj => by have := width_take_mono l (show j + 1 ≤ i by omega); omega, fun _ => h2⟩
theorem startsAt_get (l : List (Nat × Nat)) (k : Nat) (h : k < l.length) : (startsAt 0 l)[k]'(by rw [startsAt_len]; exact h) = width (l.take k) := by
  have h1 := offs_get 0 l k h
  have h2 : (startsAt 0 l)[k]? = some (width (l.take k)) := by
    rw [← offs_fst, List.getElem?_map, List.getElem?_eq_getElem (by rw [offs_len]; exact h), h1]; simp
  rw [List.getElem?_eq_getElem (by rw [startsAt_len]; exact h)] at h2
  exact Option.some.inj h2
/-- a sign that reads as the broken rune: one byte, or three -/
theorem broken_rune (t : List UInt8) (ht : t ≠ []) (h : (dec t).1 = 0xFFFD) : (dec t).2 = 1 ∨ (dec t).2 = 3 := by
  cases hb : broken (dec t) with
  | false =>
    obtain ⟨w1, w2, w3⟩ := dec_whole ht hb
    right
    have := congrArg List.length w3
    rw [h, List.length_take, Nat.min_eq_left w2] at this
    rw [← this]; decide
  | true => unfold broken at hb; simp at hb; exact .inl hb.2
end Go.Proofs.Ytnkhlallnblfmaa
