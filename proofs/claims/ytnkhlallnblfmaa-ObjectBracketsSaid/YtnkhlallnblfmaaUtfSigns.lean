/-
  Plain facts on the signs of bytes: one behind the other; what the document's number and its bytes say of one. No program here.
-/
import Derived.Test.YtnkhlallnblfmaaUtfMath
namespace Go.Proofs.Ytnkhlallnblfmaa

/-- what the bits of so many bytes tell -/
def headOf (n : Nat) (a : UInt8) : Nat := if n = 2 then a.toNat % 32 else if n = 3 then a.toNat % 16 else if n = 4 then a.toNat % 8 else a.toNat
def numStep (n : Nat) (b : UInt8) : Nat := n * 64 + b.toNat % 64
def num (x : List UInt8) : Nat := match x with | [] => 0 | a :: t => t.foldl numStep (headOf x.length a)

theorem num_enc (r : Nat) (hr : may r) : num (enc r) = r := by
  unfold may at hr
  by_cases h1 : r < 0x80
  · have e : enc r = [byteOf r] := if_pos h1
    rw [e]
    simp [num, headOf, byteOf_nat (show r < 256 by omega)]
  · by_cases h2 : r < 0x800
    · have e : enc r = [byteOf (0xC0 + r / 64), byteOf (0x80 + r % 64)] := by unfold enc; rw [if_neg h1, if_pos h2]
      rw [e]
      simp only [num, headOf, List.length_cons, List.length_nil, List.foldl_cons, List.foldl_nil, numStep, byteOf_nat (show 0xC0 + r / 64 < 256 by omega), byteOf_nat (show 0x80 + r % 64 < 256 by omega)]
      simp; omega
    · by_cases h3 : r < 0x10000
      · have e : enc r = [byteOf (0xE0 + r / 4096), byteOf (0x80 + r / 64 % 64), byteOf (0x80 + r % 64)] := by unfold enc; rw [if_neg h1, if_neg h2, if_pos h3]
        rw [e]
        simp only [num, headOf, List.length_cons, List.length_nil, List.foldl_cons, List.foldl_nil, numStep, byteOf_nat (show 0xE0 + r / 4096 < 256 by omega), byteOf_nat (show 0x80 + r / 64 % 64 < 256 by omega), byteOf_nat (show 0x80 + r % 64 < 256 by omega)]
        simp; omega
      · have e : enc r = [byteOf (0xF0 + r / 262144), byteOf (0x80 + r / 4096 % 64), byteOf (0x80 + r / 64 % 64), byteOf (0x80 + r % 64)] := by unfold enc; rw [if_neg h1, if_neg h2, if_neg h3]
        rw [e]
        simp only [num, headOf, List.length_cons, List.length_nil, List.foldl_cons, List.foldl_nil, numStep, byteOf_nat (show 0xF0 + r / 262144 < 256 by omega), byteOf_nat (show 0x80 + r / 4096 % 64 < 256 by omega), byteOf_nat (show 0x80 + r / 64 % 64 < 256 by omega), byteOf_nat (show 0x80 + r % 64 < 256 by omega)]
        simp; omega

/-- the first so many bytes are a rune's own -/
def stands (t : List UInt8) (m : Nat) : Prop := may (num (t.take m)) ∧ enc (num (t.take m)) = t.take m
theorem stands_dec {t : List UInt8} {m : Nat} (hm : m ≤ t.length) (h : stands t m) : dec t = (num (t.take m), m) := by
  have e : t = enc (num (t.take m)) ++ t.drop m := by rw [h.2, List.take_append_drop]
  have h1 := dec_enc _ h.1 (t.drop m)
  rw [← e] at h1
  rw [h1, h.2, List.length_take, Nat.min_eq_left hm]
theorem stands_whole {t : List UInt8} {m : Nat} (hm : m ≤ t.length) (h : stands t m) : broken (dec t) = false := by
  rw [stands_dec hm h]
  exact enc_broken _ _ (by rw [h.2, List.length_take, Nat.min_eq_left hm])
theorem dec_stands {t : List UInt8} (ht : t ≠ []) (h : broken (dec t) = false) : stands t (dec t).2 := by
  obtain ⟨h1, h2, h3⟩ := dec_whole ht h
  have e : num (t.take (dec t).2) = (dec t).1 := by rw [← h3, num_enc _ h1]
  exact ⟨by rw [e]; exact h1, by rw [e]; exact h3⟩
theorem dec_none {t : List UInt8} (ht : t ≠ []) (h : ∀ m, 1 ≤ m → m ≤ 4 → m ≤ t.length → ¬ stands t m) : dec t = (0xFFFD, 1) := by
  cases hb : broken (dec t) with
  | false => exact absurd (dec_stands ht hb) (h _ (dec_pos t).1 (dec_pos t).2 (dec_le ht))
  | true =>
    unfold broken at hb
    simp at hb
    exact Prod.ext hb.1 hb.2

/-- the signs of bytes: of each its rune, and how many bytes it has -/
def charsF : Nat → List UInt8 → List (Nat × Nat)
  | 0, _ => []
  | f + 1, t => if t = [] then [] else dec t :: charsF f (t.drop (dec t).2)
def chars (t : List UInt8) : List (Nat × Nat) := charsF t.length t
theorem charsF_enough : ∀ (f : Nat) (t : List UInt8), t.length ≤ f → charsF f t = chars t := by
  have key : ∀ (f g : Nat) (t : List UInt8), t.length ≤ f → t.length ≤ g → charsF f t = charsF g t := by
    intro f
    induction f with
    | zero =>
      intro g t h _
      have : t = [] := List.eq_nil_of_length_eq_zero (by omega)
      subst this
      cases g <;> simp [charsF]
    | succ f ih =>
      intro g t h1 h2
      by_cases ht : t = []
      · subst ht; cases g <;> simp [charsF]
      · cases g with
        | zero => exact absurd (List.eq_nil_of_length_eq_zero (by omega)) ht
        | succ g =>
          simp only [charsF]
          rw [if_neg ht, if_neg ht]
          have := (dec_pos t).1
          congr 1
          exact ih g _ (by rw [List.length_drop]; omega) (by rw [List.length_drop]; omega)
  intro f t h
  exact key f t.length t h (Nat.le_refl _)
theorem chars_nil : chars [] = [] := rfl
theorem chars_cons {t : List UInt8} (ht : t ≠ []) : chars t = dec t :: chars (t.drop (dec t).2) := by
  unfold chars
  obtain ⟨n, hn⟩ : ∃ n, t.length = n + 1 := ⟨t.length - 1, by have := List.length_pos_iff.2 ht; omega⟩
  rw [hn]
  simp only [charsF]
  rw [if_neg ht]
  congr 1
  have := (dec_pos t).1
  exact charsF_enough n _ (by rw [List.length_drop]; omega)

/-- where they begin -/
def startsAt (a : Nat) : List (Nat × Nat) → List Nat
  | [] => []
  | x :: l => a :: startsAt (a + x.2) l
def width (l : List (Nat × Nat)) : Nat := (l.map (·.2)).sum
theorem startsAt_append (a : Nat) (l m : List (Nat × Nat)) : startsAt a (l ++ m) = startsAt a l ++ startsAt (a + width l) m := by
  induction l generalizing a with
  | nil => simp [startsAt, width]
  | cons x l ih => simp only [List.cons_append, startsAt, ih, width, List.map_cons, List.sum_cons]; rw [Nat.add_assoc]
theorem startsAt_len (a : Nat) (l : List (Nat × Nat)) : (startsAt a l).length = l.length := by
  induction l generalizing a with
  | nil => rfl
  | cons x l ih => simp [startsAt, ih]
theorem width_append (l m : List (Nat × Nat)) : width (l ++ m) = width l + width m := by simp [width]

/-- so many signs have been read of a text: they lie behind each other, and the rest is read on -/
structure Read (S : List UInt8) (done : List (Nat × Nat)) (at' : Nat) : Prop where
  all : chars S = done ++ chars (S.drop at')
  wide : width done = at'
  le : at' ≤ S.length
theorem Read.start (S : List UInt8) : Read S [] 0 := ⟨by simp, rfl, Nat.zero_le _⟩
theorem Read.step {S : List UInt8} {done : List (Nat × Nat)} {a : Nat} (h : Read S done a) (hlt : a < S.length) : Read S (done ++ [dec (S.drop a)]) (a + (dec (S.drop a)).2) := by
  have hne : S.drop a ≠ [] := by intro h0; have := congrArg List.length h0; rw [List.length_drop] at this; simp at this; omega
  have hle := dec_le hne
  rw [List.length_drop] at hle
  refine ⟨?_, ?_, by omega⟩
  · rw [h.all, chars_cons hne, List.drop_drop]; simp
  · rw [width_append, h.wide]; simp [width]
theorem Read.end_ {S : List UInt8} {done : List (Nat × Nat)} {a : Nat} (h : Read S done a) (hge : S.length ≤ a) : chars S = done := by
  rw [h.all, List.drop_eq_nil_of_le hge, chars_nil, List.append_nil]
theorem drop_ne {S : List UInt8} {a : Nat} (h : a < S.length) : S.drop a ≠ [] := by
  intro h0; have := congrArg List.length h0; rw [List.length_drop] at this; simp at this; omega
theorem chars_len (t : List UInt8) : (chars t).length ≤ t.length := by
  have key : ∀ f t, (charsF f t).length ≤ f := by
    intro f
    induction f with
    | zero => intro t; simp [charsF]
    | succ f ih =>
      intro t
      simp only [charsF]
      split
      · simp
      · simp; exact ih _
  exact key _ _
theorem dec_rune (t : List UInt8) : (dec t).1 ≤ 1114111 := by
  by_cases ht : t = []
  · subst ht; decide
  · cases h : broken (dec t) with
    | false => exact (dec_whole ht h).1.1
    | true =>
      unfold broken at h
      simp at h
      rw [h.1]; decide
theorem chars_dec (t : List UInt8) : ∀ x ∈ chars t, ∃ u, u ≠ [] ∧ x = dec u := by
  have key : ∀ f t, ∀ x ∈ charsF f t, ∃ u, u ≠ [] ∧ x = dec u := by
    intro f
    induction f with
    | zero => intro t x hx; simp [charsF] at hx
    | succ f ih =>
      intro t x hx
      simp only [charsF] at hx
      split at hx
      · simp at hx
      · rename_i hne
        simp at hx
        rcases hx with hx | hx
        · exact ⟨t, hne, hx⟩
        · exact ih _ x hx
  exact key _ _
theorem chars_bound (t : List UInt8) : ∀ x ∈ chars t, x.1 ≤ 1114111 ∧ 1 ≤ x.2 ∧ x.2 ≤ 4 := fun x hx => by
  obtain ⟨u, _, rfl⟩ := chars_dec t x hx
  exact ⟨dec_rune u, dec_pos u⟩
theorem getD_bound (t : List UInt8) (i : Nat) : ((chars t).getD i (0, 0)).1 ≤ 1114111 ∧ ((chars t).getD i (0, 0)).2 ≤ 4 := by
  by_cases h : i < (chars t).length
  · have := chars_bound t (chars t)[i] (List.getElem_mem h)
    simp only [List.getD, List.getElem?_eq_getElem h, Option.getD_some]
    omega
  · simp [List.getD, List.getElem?_eq_none (Nat.le_of_not_lt h)]
end Go.Proofs.Ytnkhlallnblfmaa
