/-
  Merged: UtfMath, UtfSigns, GlyOne, GlyNumber, GlySigns, GlyList, GlyMoves, GlyWhich, GlyEncode, GlySays, GlyMath.
-/
import Derived.Test.YtgmeamefbfgbgaaDoorWords
import Derived.Test.YtgmeamefbfgbgaaDoorRows
import Derived.Deep.QuietTactic
import Derived.BigQuiet
import Derived.Lib.AppendStr
/-
  Plain facts on UTF-8: what stands at the head of bytes, against its encoding. No program here.
-/
namespace Go.Proofs.YtgmeamefbfgbgaaDoor

/-- what stands at the head of bytes: its rune, and how many bytes it has; as the model reads it -/
def dec (t : List UInt8) : Nat × Nat :=
  let at' (k : Nat) : Nat := (t.getD k 0).toNat
  let cont (k : Nat) : Bool := decide (k < t.length) && at' k / 64 == 2
  let b0 := at' 0
  if b0 < 0x80 then (b0, 1)
  else if b0 / 32 == 6 && cont 1 then
    let c := (b0 % 32) * 64 + at' 1 % 64
    if c ≥ 0x80 then (c, 2) else (0xFFFD, 1)
  else if b0 / 16 == 14 && cont 1 && cont 2 then
    let c := (b0 % 16) * 4096 + (at' 1 % 64) * 64 + at' 2 % 64
    if c ≥ 0x800 && Utf8.valid c then (c, 3) else (0xFFFD, 1)
  else if b0 / 8 == 30 && cont 1 && cont 2 && cont 3 then
    let c := (b0 % 8) * 262144 + (at' 1 % 64) * 4096 + (at' 2 % 64) * 64 + at' 3 % 64
    if c ≥ 0x10000 && Utf8.valid c then (c, 4) else (0xFFFD, 1)
  else (0xFFFD, 1)

theorem get_drop (S : List UInt8) (i k : Nat) : ({ data := S.toArray } : ByteArray).get! (i + k) = (S.drop i).getD k 0 := by
  show S.toArray[i + k]! = _
  rw [List.getD_eq_getElem?_getD, List.getElem?_drop]
  simp [getElem!_def]
  cases S[i + k]? <;> rfl
theorem decode_drop (S : List UInt8) (i : Nat) : Utf8.decode ⟨S.toArray⟩ i = dec (S.drop i) := by
  have hg := fun k => get_drop S i k
  have hs : ∀ k, decide (i + k < ({ data := S.toArray } : ByteArray).size) = decide (k < (S.drop i).length) := fun k => by
    have : ({ data := S.toArray } : ByteArray).size = S.length := rfl
    rw [this, List.length_drop]
    by_cases h : i + k < S.length
    · rw [decide_eq_true h, decide_eq_true (by omega)]
    · rw [decide_eq_false h, decide_eq_false (by omega)]
  simp only [Utf8.decode, dec, hg, hs, Utf8.runeError]

def may (r : Nat) : Prop := r ≤ 0x10FFFF ∧ (r < 0xD800 ∨ 0xDFFF < r)
theorem valid_may (r : Nat) : Utf8.valid (r : Int) = true ↔ may r := by
  unfold Utf8.valid may
  simp
  omega
def byteOf (n : Nat) : UInt8 := UInt8.ofNat n
/-- the bytes of a rune -/
def enc (r : Nat) : List UInt8 :=
  if r < 0x80 then [byteOf r]
  else if r < 0x800 then [byteOf (0xC0 + r / 64), byteOf (0x80 + r % 64)]
  else if r < 0x10000 then [byteOf (0xE0 + r / 4096), byteOf (0x80 + r / 64 % 64), byteOf (0x80 + r % 64)]
  else [byteOf (0xF0 + r / 262144), byteOf (0x80 + r / 4096 % 64), byteOf (0x80 + r / 64 % 64), byteOf (0x80 + r % 64)]
theorem byteOf_nat {n : Nat} (h : n < 256) : (byteOf n).toNat = n := by unfold byteOf; rw [UInt8.toNat_ofNat', Nat.mod_eq_of_lt h]
theorem byteOf_toNat (b : UInt8) : byteOf b.toNat = b := by unfold byteOf; simp
theorem byteOf_eq {n : Nat} {b : UInt8} (h : n = b.toNat) : byteOf n = b := by rw [h, byteOf_toNat]
theorem enc_len (r : Nat) : 1 ≤ (enc r).length ∧ (enc r).length ≤ 4 := by unfold enc; split <;> (try split) <;> (try split) <;> simp

/-- an encoding is read back, whatever stands behind it -/
theorem dec_enc (r : Nat) (hr : may r) (t : List UInt8) : dec (enc r ++ t) = (r, (enc r).length) := by
  have hv := (valid_may r).2 hr
  unfold may at hr
  by_cases h1 : r < 0x80
  · have e : enc r = [byteOf r] := if_pos h1
    rw [e]
    simp only [dec, List.cons_append, List.nil_append, List.getD_cons_zero, byteOf_nat (show r < 256 by omega), h1, if_true, List.length_cons, List.length_nil]
  · by_cases h2 : r < 0x800
    · have e : enc r = [byteOf (0xC0 + r / 64), byteOf (0x80 + r % 64)] := by unfold enc; rw [if_neg h1, if_pos h2]
      rw [e]
      simp only [dec, List.cons_append, List.nil_append, List.getD_cons_zero, List.getD_cons_succ, byteOf_nat (show 0xC0 + r / 64 < 256 by omega), byteOf_nat (show 0x80 + r % 64 < 256 by omega), List.length_cons, List.length_nil]
      rw [if_neg (by omega), if_pos (by simp; omega), if_pos (by omega)]
      simp; omega
    · by_cases h3 : r < 0x10000
      · have e : enc r = [byteOf (0xE0 + r / 4096), byteOf (0x80 + r / 64 % 64), byteOf (0x80 + r % 64)] := by unfold enc; rw [if_neg h1, if_neg h2, if_pos h3]
        rw [e]
        simp only [dec, List.cons_append, List.nil_append, List.getD_cons_zero, List.getD_cons_succ, byteOf_nat (show 0xE0 + r / 4096 < 256 by omega), byteOf_nat (show 0x80 + r / 64 % 64 < 256 by omega), byteOf_nat (show 0x80 + r % 64 < 256 by omega), List.length_cons, List.length_nil]
        have ec : (0xE0 + r / 4096) % 16 * 4096 + (0x80 + r / 64 % 64) % 64 * 64 + (0x80 + r % 64) % 64 = r := by omega
        rw [ec, hv]
        rw [if_neg (by omega), if_neg (by simp; omega), if_pos (by simp; omega), if_pos (by simp; omega)]
      · have e : enc r = [byteOf (0xF0 + r / 262144), byteOf (0x80 + r / 4096 % 64), byteOf (0x80 + r / 64 % 64), byteOf (0x80 + r % 64)] := by unfold enc; rw [if_neg h1, if_neg h2, if_neg h3]
        rw [e]
        simp only [dec, List.cons_append, List.nil_append, List.getD_cons_zero, List.getD_cons_succ, byteOf_nat (show 0xF0 + r / 262144 < 256 by omega), byteOf_nat (show 0x80 + r / 4096 % 64 < 256 by omega), byteOf_nat (show 0x80 + r / 64 % 64 < 256 by omega), byteOf_nat (show 0x80 + r % 64 < 256 by omega), List.length_cons, List.length_nil]
        have ec : (0xF0 + r / 262144) % 8 * 262144 + (0x80 + r / 4096 % 64) % 64 * 4096 + (0x80 + r / 64 % 64) % 64 * 64 + (0x80 + r % 64) % 64 = r := by omega
        rw [ec, hv]
        rw [if_neg (by omega), if_neg (by simp; omega), if_neg (by simp; omega), if_pos (by simp; omega), if_pos (by simp; omega)]

def broken (x : Nat × Nat) : Bool := decide (x.1 = 0xFFFD ∧ x.2 = 1)

/-- what is read whole is an encoding -/
theorem dec_whole {t : List UInt8} (ht : t ≠ []) (h : broken (dec t) = false) : may (dec t).1 ∧ (dec t).2 ≤ t.length ∧ enc (dec t).1 = t.take (dec t).2 := by
  obtain ⟨a, t, rfl⟩ := List.exists_cons_of_ne_nil ht
  have ha : a.toNat < 256 := a.toNat_lt
  revert h
  simp only [dec]
  simp only [List.getD_cons_zero]
  by_cases h1 : a.toNat < 0x80
  · simp only [h1, if_true]
    intro _
    refine ⟨?_, by simp, ?_⟩
    · unfold may; omega
    · unfold enc; rw [if_pos h1, byteOf_toNat]; rfl
  · simp only [h1, if_false]
    by_cases h2 : (a.toNat / 32 == 6 && (decide (1 < (a :: t).length) && ((a :: t).getD 1 0).toNat / 64 == 2)) = true
    · rw [if_pos h2]
      simp only [Bool.and_eq_true, beq_iff_eq, decide_eq_true_iff] at h2
      match t, h2 with
      | b :: t, h2 =>
        have hb : b.toNat < 256 := b.toNat_lt
        simp only [List.getD_cons_zero, List.getD_cons_succ] at h2 ⊢
        by_cases hc : (a.toNat % 32) * 64 + b.toNat % 64 ≥ 0x80
        · rw [if_pos hc]
          intro _
          refine ⟨?_, by simp, ?_⟩
          · unfold may; simp only; omega
          · simp only
            unfold enc
            rw [if_neg (by omega), if_pos (by omega), byteOf_eq (b := a) (by omega), byteOf_eq (b := b) (by omega)]; rfl
        · rw [if_neg hc]; intro h; simp [broken] at h
      | [], h2 => simp at h2
    · rw [if_neg h2]
      by_cases h3 : (a.toNat / 16 == 14 && (decide (1 < (a :: t).length) && ((a :: t).getD 1 0).toNat / 64 == 2) && (decide (2 < (a :: t).length) && ((a :: t).getD 2 0).toNat / 64 == 2)) = true
      · rw [if_pos h3]
        simp only [Bool.and_eq_true, beq_iff_eq, decide_eq_true_iff] at h3
        match t, h3 with
        | b :: c :: t, h3 =>
          have hb : b.toNat < 256 := b.toNat_lt
          have hc0 : c.toNat < 256 := c.toNat_lt
          simp only [List.getD_cons_zero, List.getD_cons_succ] at h3 ⊢
          by_cases hc : (decide ((a.toNat % 16) * 4096 + (b.toNat % 64) * 64 + c.toNat % 64 ≥ 0x800) && Utf8.valid (((a.toNat % 16) * 4096 + (b.toNat % 64) * 64 + c.toNat % 64 : Nat) : Int)) = true
          · rw [if_pos hc]
            intro _
            simp only [Bool.and_eq_true, decide_eq_true_iff] at hc
            have hm := (valid_may _).1 hc.2
            refine ⟨hm, by simp, ?_⟩
            simp only
            unfold enc
            rw [if_neg (by omega), if_neg (by omega), if_pos (by omega), byteOf_eq (b := a) (by omega), byteOf_eq (b := b) (by omega), byteOf_eq (b := c) (by omega)]; rfl
          · rw [if_neg hc]; intro h; simp [broken] at h
        | [b], h3 => simp at h3
        | [], h3 => simp at h3
      · rw [if_neg h3]
        by_cases h4 : (a.toNat / 8 == 30 && (decide (1 < (a :: t).length) && ((a :: t).getD 1 0).toNat / 64 == 2) && (decide (2 < (a :: t).length) && ((a :: t).getD 2 0).toNat / 64 == 2) && (decide (3 < (a :: t).length) && ((a :: t).getD 3 0).toNat / 64 == 2)) = true
        · rw [if_pos h4]
          simp only [Bool.and_eq_true, beq_iff_eq, decide_eq_true_iff] at h4
          match t, h4 with
          | b :: c :: d :: t, h4 =>
            have hb : b.toNat < 256 := b.toNat_lt
            have hc0 : c.toNat < 256 := c.toNat_lt
            have hd0 : d.toNat < 256 := d.toNat_lt
            simp only [List.getD_cons_zero, List.getD_cons_succ] at h4 ⊢
            by_cases hc : (decide ((a.toNat % 8) * 262144 + (b.toNat % 64) * 4096 + (c.toNat % 64) * 64 + d.toNat % 64 ≥ 0x10000) && Utf8.valid (((a.toNat % 8) * 262144 + (b.toNat % 64) * 4096 + (c.toNat % 64) * 64 + d.toNat % 64 : Nat) : Int)) = true
            · rw [if_pos hc]
              intro _
              simp only [Bool.and_eq_true, decide_eq_true_iff] at hc
              have hm := (valid_may _).1 hc.2
              refine ⟨hm, by simp, ?_⟩
              simp only
              unfold enc
              unfold may at hm
              rw [if_neg (by omega), if_neg (by omega), if_neg (by omega), byteOf_eq (b := a) (by omega), byteOf_eq (b := b) (by omega), byteOf_eq (b := c) (by omega), byteOf_eq (b := d) (by omega)]; rfl
            · rw [if_neg hc]; intro h; simp [broken] at h
          | [b, c], h4 => simp at h4
          | [b], h4 => simp at h4
          | [], h4 => simp at h4
        · rw [if_neg h4]; intro h; simp [broken] at h

theorem enc_ne (r : Nat) : enc r ≠ [] := by have := enc_len r; intro h; rw [h] at this; simp at this
theorem enc_broken (r : Nat) (n : Nat) (h : n = (enc r).length) : broken (r, n) = false := by
  unfold broken
  simp only [decide_eq_false_iff_not]
  intro ⟨h1, h2⟩
  subst h1
  rw [h2] at h
  exact absurd h (by decide)
theorem dec_pos (t : List UInt8) : 1 ≤ (dec t).2 ∧ (dec t).2 ≤ 4 := by
  simp only [dec]
  repeat' split
  all_goals simp
theorem dec_le {t : List UInt8} (ht : t ≠ []) : (dec t).2 ≤ t.length := by
  cases h : broken (dec t) with
  | false => exact (dec_whole ht h).2.1
  | true =>
    unfold broken at h
    simp at h
    rw [h.2]
    exact List.length_pos_iff.2 ht
/-- what is whole is the same, whatever stands behind it -/
theorem dec_more {s : List UInt8} (hs : s ≠ []) (h : broken (dec s) = false) (t : List UInt8) : dec (s ++ t) = dec s := by
  obtain ⟨h1, h2, h3⟩ := dec_whole hs h
  have e : s = enc (dec s).1 ++ s.drop (dec s).2 := by rw [h3, List.take_append_drop]
  have h4 := dec_enc _ h1 (s.drop (dec s).2)
  have h5 := dec_enc _ h1 (s.drop (dec s).2 ++ t)
  rw [← List.append_assoc, ← e] at h5
  rw [← e] at h4
  rw [h5, h4]
end Go.Proofs.YtgmeamefbfgbgaaDoor

/-
  Plain facts on the signs of bytes: one behind the other; what the document's number and its bytes say of one. No program here.
-/
namespace Go.Proofs.YtgmeamefbfgbgaaDoor

/-- what the bits of so many bytes tell -/
def headOf (n : Nat) (a : UInt8) : Nat := if n = 2 then a.toNat % 32 else if n = 3 then a.toNat % 16 else if n = 4 then a.toNat % 8 else a.toNat
def numStep (n : Nat) (b : UInt8) : Nat := n * 64 + b.toNat % 64
def num (x : List UInt8) : Nat := match x with | [] => 0 | a :: t => t.foldl numStep (headOf x.length a)

theorem num_enc (r : Nat) (hr : may r) : num (enc r) = r := by
  unfold may at hr
  by_cases h1 : r < 0x80
  · have e : enc r = [byteOf r] := if_pos h1
    rw [e]
    simp [num, headOf, byteOf_nat (show r < 256 by omega)]
  · by_cases h2 : r < 0x800
    · have e : enc r = [byteOf (0xC0 + r / 64), byteOf (0x80 + r % 64)] := by unfold enc; rw [if_neg h1, if_pos h2]
      rw [e]
      simp only [num, headOf, List.length_cons, List.length_nil, List.foldl_cons, List.foldl_nil, numStep, byteOf_nat (show 0xC0 + r / 64 < 256 by omega), byteOf_nat (show 0x80 + r % 64 < 256 by omega)]
      simp; omega
    · by_cases h3 : r < 0x10000
      · have e : enc r = [byteOf (0xE0 + r / 4096), byteOf (0x80 + r / 64 % 64), byteOf (0x80 + r % 64)] := by unfold enc; rw [if_neg h1, if_neg h2, if_pos h3]
        rw [e]
        simp only [num, headOf, List.length_cons, List.length_nil, List.foldl_cons, List.foldl_nil, numStep, byteOf_nat (show 0xE0 + r / 4096 < 256 by omega), byteOf_nat (show 0x80 + r / 64 % 64 < 256 by omega), byteOf_nat (show 0x80 + r % 64 < 256 by omega)]
        simp; omega
      · have e : enc r = [byteOf (0xF0 + r / 262144), byteOf (0x80 + r / 4096 % 64), byteOf (0x80 + r / 64 % 64), byteOf (0x80 + r % 64)] := by unfold enc; rw [if_neg h1, if_neg h2, if_neg h3]
        rw [e]
        simp only [num, headOf, List.length_cons, List.length_nil, List.foldl_cons, List.foldl_nil, numStep, byteOf_nat (show 0xF0 + r / 262144 < 256 by omega), byteOf_nat (show 0x80 + r / 4096 % 64 < 256 by omega), byteOf_nat (show 0x80 + r / 64 % 64 < 256 by omega), byteOf_nat (show 0x80 + r % 64 < 256 by omega)]
        simp; omega

/-- the first so many bytes are a rune's own -/
def stands (t : List UInt8) (m : Nat) : Prop := may (num (t.take m)) ∧ enc (num (t.take m)) = t.take m
theorem stands_dec {t : List UInt8} {m : Nat} (hm : m ≤ t.length) (h : stands t m) : dec t = (num (t.take m), m) := by
  have e : t = enc (num (t.take m)) ++ t.drop m := by rw [h.2, List.take_append_drop]
  have h1 := dec_enc _ h.1 (t.drop m)
  rw [← e] at h1
  rw [h1, h.2, List.length_take, Nat.min_eq_left hm]
theorem stands_whole {t : List UInt8} {m : Nat} (hm : m ≤ t.length) (h : stands t m) : broken (dec t) = false := by
  rw [stands_dec hm h]
  exact enc_broken _ _ (by rw [h.2, List.length_take, Nat.min_eq_left hm])
theorem dec_stands {t : List UInt8} (ht : t ≠ []) (h : broken (dec t) = false) : stands t (dec t).2 := by
  obtain ⟨h1, h2, h3⟩ := dec_whole ht h
  have e : num (t.take (dec t).2) = (dec t).1 := by rw [← h3, num_enc _ h1]
  exact ⟨by rw [e]; exact h1, by rw [e]; exact h3⟩
theorem dec_none {t : List UInt8} (ht : t ≠ []) (h : ∀ m, 1 ≤ m → m ≤ 4 → m ≤ t.length → ¬ stands t m) : dec t = (0xFFFD, 1) := by
  cases hb : broken (dec t) with
  | false => exact absurd (dec_stands ht hb) (h _ (dec_pos t).1 (dec_pos t).2 (dec_le ht))
  | true =>
    unfold broken at hb
    simp at hb
    exact Prod.ext hb.1 hb.2

/-- the signs of bytes: of each its rune, and how many bytes it has -/
def charsF : Nat → List UInt8 → List (Nat × Nat)
  | 0, _ => []
  | f + 1, t => if t = [] then [] else dec t :: charsF f (t.drop (dec t).2)
def chars (t : List UInt8) : List (Nat × Nat) := charsF t.length t
theorem charsF_enough : ∀ (f : Nat) (t : List UInt8), t.length ≤ f → charsF f t = chars t := by
  have key : ∀ (f g : Nat) (t : List UInt8), t.length ≤ f → t.length ≤ g → charsF f t = charsF g t := by
    intro f
    induction f with
    | zero =>
      intro g t h _
      have : t = [] := List.eq_nil_of_length_eq_zero (by omega)
      subst this
      cases g <;> simp [charsF]
    | succ f ih =>
      intro g t h1 h2
      by_cases ht : t = []
      · subst ht; cases g <;> simp [charsF]
      · cases g with
        | zero => exact absurd (List.eq_nil_of_length_eq_zero (by omega)) ht
        | succ g =>
          simp only [charsF]
          rw [if_neg ht, if_neg ht]
          have := (dec_pos t).1
          congr 1
          exact ih g _ (by rw [List.length_drop]; omega) (by rw [List.length_drop]; omega)
  intro f t h
  exact key f t.length t h (Nat.le_refl _)
theorem chars_nil : chars [] = [] := rfl
theorem chars_cons {t : List UInt8} (ht : t ≠ []) : chars t = dec t :: chars (t.drop (dec t).2) := by
  unfold chars
  obtain ⟨n, hn⟩ : ∃ n, t.length = n + 1 := ⟨t.length - 1, by have := List.length_pos_iff.2 ht; omega⟩
  rw [hn]
  simp only [charsF]
  rw [if_neg ht]
  congr 1
  have := (dec_pos t).1
  exact charsF_enough n _ (by rw [List.length_drop]; omega)

/-- where they begin -/
def startsAt (a : Nat) : List (Nat × Nat) → List Nat
  | [] => []
  | x :: l => a :: startsAt (a + x.2) l
def width (l : List (Nat × Nat)) : Nat := (l.map (·.2)).sum
theorem startsAt_append (a : Nat) (l m : List (Nat × Nat)) : startsAt a (l ++ m) = startsAt a l ++ startsAt (a + width l) m := by
  induction l generalizing a with
  | nil => simp [startsAt, width]
  | cons x l ih => simp only [List.cons_append, startsAt, ih, width, List.map_cons, List.sum_cons]; rw [Nat.add_assoc]
theorem startsAt_len (a : Nat) (l : List (Nat × Nat)) : (startsAt a l).length = l.length := by
  induction l generalizing a with
  | nil => rfl
  | cons x l ih => simp [startsAt, ih]
theorem width_append (l m : List (Nat × Nat)) : width (l ++ m) = width l + width m := by simp [width]

/-- so many signs have been read of a text: they lie behind each other, and the rest is read on -/
structure Read (S : List UInt8) (done : List (Nat × Nat)) (at' : Nat) : Prop where
  all : chars S = done ++ chars (S.drop at')
  wide : width done = at'
  le : at' ≤ S.length
theorem Read.start (S : List UInt8) : Read S [] 0 := ⟨by simp, rfl, Nat.zero_le _⟩
theorem Read.step {S : List UInt8} {done : List (Nat × Nat)} {a : Nat} (h : Read S done a) (hlt : a < S.length) : Read S (done ++ [dec (S.drop a)]) (a + (dec (S.drop a)).2) := by
  have hne : S.drop a ≠ [] := by intro h0; have := congrArg List.length h0; rw [List.length_drop] at this; simp at this; omega
  have hle := dec_le hne
  rw [List.length_drop] at hle
  refine ⟨?_, ?_, by omega⟩
  · rw [h.all, chars_cons hne, List.drop_drop]; simp
  · rw [width_append, h.wide]; simp [width]
theorem Read.end_ {S : List UInt8} {done : List (Nat × Nat)} {a : Nat} (h : Read S done a) (hge : S.length ≤ a) : chars S = done := by
  rw [h.all, List.drop_eq_nil_of_le hge, chars_nil, List.append_nil]
theorem drop_ne {S : List UInt8} {a : Nat} (h : a < S.length) : S.drop a ≠ [] := by
  intro h0; have := congrArg List.length h0; rw [List.length_drop] at this; simp at this; omega
theorem chars_len (t : List UInt8) : (chars t).length ≤ t.length := by
  have key : ∀ f t, (charsF f t).length ≤ f := by
    intro f
    induction f with
    | zero => intro t; simp [charsF]
    | succ f ih =>
      intro t
      simp only [charsF]
      split
      · simp
      · simp; exact ih _
  exact key _ _
theorem dec_rune (t : List UInt8) : (dec t).1 ≤ 1114111 := by
  by_cases ht : t = []
  · subst ht; decide
  · cases h : broken (dec t) with
    | false => exact (dec_whole ht h).1.1
    | true =>
      unfold broken at h
      simp at h
      rw [h.1]; decide
theorem chars_dec (t : List UInt8) : ∀ x ∈ chars t, ∃ u, u ≠ [] ∧ x = dec u := by
  have key : ∀ f t, ∀ x ∈ charsF f t, ∃ u, u ≠ [] ∧ x = dec u := by
    intro f
    induction f with
    | zero => intro t x hx; simp [charsF] at hx
    | succ f ih =>
      intro t x hx
      simp only [charsF] at hx
      split at hx
      · simp at hx
      · rename_i hne
        simp at hx
        rcases hx with hx | hx
        · exact ⟨t, hne, hx⟩
        · exact ih _ x hx
  exact key _ _
theorem chars_bound (t : List UInt8) : ∀ x ∈ chars t, x.1 ≤ 1114111 ∧ 1 ≤ x.2 ∧ x.2 ≤ 4 := fun x hx => by
  obtain ⟨u, _, rfl⟩ := chars_dec t x hx
  exact ⟨dec_rune u, dec_pos u⟩
theorem getD_bound (t : List UInt8) (i : Nat) : ((chars t).getD i (0, 0)).1 ≤ 1114111 ∧ ((chars t).getD i (0, 0)).2 ≤ 4 := by
  by_cases h : i < (chars t).length
  · have := chars_bound t (chars t)[i] (List.getElem_mem h)
    simp only [List.getD, List.getElem?_eq_getElem h, Option.getD_some]
    omega
  · simp [List.getD, List.getElem?_eq_none (Nat.le_of_not_lt h)]
end Go.Proofs.YtgmeamefbfgbgaaDoor

/-
  Contracts of the document's own answers, layer 2: May, Bytes, number.
-/
namespace Go.Proofs.YtgmeamefbfgbgaaDoor
open Go.RowKit

def mayB (r : Int) : Bool := decide (0 ≤ r) && decide (r ≤ 1114111) && (decide (r < 55296) || decide (57343 < r))
theorem mayB_may (r : Nat) : mayB (r : Int) = true ↔ may r := by
  unfold mayB may
  simp
  omega
theorem ret_bool {a b : Bool} (h : a = b) : Ending.returned (.bool a) = .returned (.bool b) := by rw [h]

end Go.Proofs.YtgmeamefbfgbgaaDoor

/-
  The contract of the document's own answer, layer 2: number.
-/
namespace Go.Proofs.YtgmeamefbfgbgaaDoor
open Go.RowKit

theorem numStep_le {n : Nat} {b : UInt8} {k : Nat} (h : n ≤ k) : numStep n b ≤ k * 64 + 63 := by
  unfold numStep; have : b.toNat % 64 < 64 := Nat.mod_lt _ (by decide); omega
theorem headOf_le (n : Nat) (a : UInt8) : headOf n a ≤ 255 := by
  have := a.toNat_lt
  unfold headOf; split <;> (try split) <;> (try split) <;> omega

/-- the number of the first k of up to four bytes -/
def numTo (a : UInt8) (t : List UInt8) (k : Nat) : Nat := (t.take k).foldl numStep (headOf (t.length + 1) a)
theorem numTo_succ (a : UInt8) (t : List UInt8) (k : Nat) (h : k < t.length) : numTo a t (k + 1) = numStep (numTo a t k) t[k] := by
  unfold numTo
  rw [List.take_succ_eq_append_getElem h, List.foldl_append]; rfl
theorem numTo_le (a : UInt8) (t : List UInt8) (k : Nat) (hk : k ≤ t.length) (h3 : t.length ≤ 3) : numTo a t k ≤ 67108863 := by
  have h0 : numTo a t 0 ≤ 255 := headOf_le _ _
  match k, hk with
  | 0, _ => omega
  | 1, hk => rw [numTo_succ a t 0 (by omega)]; have := numStep_le (b := t[0]'(by omega)) h0; omega
  | 2, hk =>
    rw [numTo_succ a t 1 (by omega), numTo_succ a t 0 (by omega)]
    have h1 := numStep_le (b := t[0]'(by omega)) h0
    have := numStep_le (b := t[1]'(by omega)) h1; omega
  | 3, hk =>
    rw [numTo_succ a t 2 (by omega), numTo_succ a t 1 (by omega), numTo_succ a t 0 (by omega)]
    have h1 := numStep_le (b := t[0]'(by omega)) h0
    have h2 := numStep_le (b := t[1]'(by omega)) h1
    have := numStep_le (b := t[2]'(by omega)) h2; omega
  | k + 4, hk => omega
theorem num_numTo (a : UInt8) (t : List UInt8) : num (a :: t) = numTo a t t.length := by unfold num numTo; rw [List.take_length]; rfl

theorem byte_at (S : List UInt8) (k : Nat) (h : k < S.length) : ({ data := S.toArray } : ByteArray)[k]'(by simpa [ByteArray.size] using h) = S[k] := rfl

end Go.Proofs.YtgmeamefbfgbgaaDoor

/-
  Contracts of the document's own answers, layer 2: one.
-/
namespace Go.Proofs.YtgmeamefbfgbgaaDoor
open Go.RowKit

/-- a sign as the document's struct -/
def signV (a : Nat) (x : Nat × Nat) : Array Value := #[.int .i64 (a : Int), .int .i64 (x.2 : Int), .int .i64 (x.1 : Int), .bool (!broken x)]

theorem text_mid (S : List UInt8) (a n : Nat) : ({ data := S.toArray } : ByteArray).extract a (a + n) = ⟨((S.drop a).take n).toArray⟩ := by
  apply ByteArray.ext
  rw [ByteArray.data_extract]
  apply Array.ext'
  simp

theorem signV_size (a : Nat) (x : Nat × Nat) : (signV a x).size = 4 := rfl
theorem signV_one (a : Nat) (x : Nat × Nat) : (signV a x).all (·.oneCell') = true := by simp [signV, Value.oneCell']

end Go.Proofs.YtgmeamefbfgbgaaDoor

/-
  Contracts of the document's own answers, layer 2: Signs.
-/
namespace Go.Proofs.YtgmeamefbfgbgaaDoor
open Go.RowKit

/-- signs with their places -/
def offs (a : Nat) : List (Nat × Nat) → List (Nat × (Nat × Nat))
  | [] => []
  | x :: l => (a, x) :: offs (a + x.2) l
def flat (L : List (Nat × (Nat × Nat))) : List Value := L.flatMap fun p => (signV p.1 p.2).toList
theorem offs_snoc (a : Nat) (l : List (Nat × Nat)) (x : Nat × Nat) : offs a (l ++ [x]) = offs a l ++ [(a + width l, x)] := by
  induction l generalizing a with
  | nil => simp [offs, width]
  | cons y l ih => simp only [List.cons_append, offs, ih, width, List.map_cons, List.sum_cons]; rw [Nat.add_assoc]
theorem offs_len (a : Nat) (l : List (Nat × Nat)) : (offs a l).length = l.length := by
  induction l generalizing a with
  | nil => rfl
  | cons x l ih => simp [offs, ih]
theorem offs_fst (a : Nat) (l : List (Nat × Nat)) : (offs a l).map (·.1) = startsAt a l := by
  induction l generalizing a with
  | nil => rfl
  | cons x l ih => simp [offs, startsAt, ih]
theorem offs_snd (a : Nat) (l : List (Nat × Nat)) : (offs a l).map (·.2) = l := by
  induction l generalizing a with
  | nil => rfl
  | cons x l ih => simp [offs, ih]
theorem flat_snoc (L : List (Nat × (Nat × Nat))) (p : Nat × (Nat × Nat)) : flat (L ++ [p]) = flat L ++ (signV p.1 p.2).toList := by simp [flat]
theorem flat_len (L : List (Nat × (Nat × Nat))) : (flat L).length = L.length * 4 := by
  induction L with
  | nil => rfl
  | cons p L ih => simp only [flat, List.flatMap_cons, List.length_append, List.length_cons] at *; rw [ih]; simp [signV]; omega
theorem flat_get (L : List (Nat × (Nat × Nat))) (k j : Nat) (hk : k < L.length) (hj : j < 4) : (flat L)[k * 4 + j]? = (signV L[k].1 L[k].2)[j]? := by
  induction L generalizing k with
  | nil => simp at hk
  | cons p L ih =>
    have hl : (signV p.1 p.2).toList.length = 4 := rfl
    cases k with
    | zero =>
      simp only [flat, List.flatMap_cons, Nat.zero_mul, Nat.zero_add]
      rw [List.getElem?_append_left (by omega)]
      simp
    | succ k =>
      simp only [flat, List.flatMap_cons]
      rw [List.getElem?_append_right (by omega), hl, show (k + 1) * 4 + j - 4 = k * 4 + j by omega]
      have := ih k (by simpa using hk)
      simpa [flat] using this

end Go.Proofs.YtgmeamefbfgbgaaDoor

/-
  Contracts of the document's own answers, layer 2: Starts, Valid, which, begins, Align, Next, Prev, At.
-/
namespace Go.Proofs.YtgmeamefbfgbgaaDoor
open Go.RowKit

theorem add_add' (a : Addr) (i j : Nat) : (a.add i).add j = a.add (i + j) := by
  unfold Addr.add
  by_cases hi : i = 0 <;> by_cases hj : j = 0 <;> simp [hi, hj, Nat.add_assoc]
theorem add_field (a : Addr) (n j : Nat) (hj : 0 < j) : a.add (n + j) = ⟨(a.add n).block, (a.add n).off + j, none⟩ := by
  unfold Addr.add
  by_cases hn : n = 0
  · subst hn; simp; omega
  · simp [hn]; omega
theorem offs_get (a : Nat) (l : List (Nat × Nat)) (k : Nat) (h : k < l.length) : (offs a l)[k]'(by rw [offs_len]; exact h) = (a + width (l.take k), l[k]) := by
  induction l generalizing a k with
  | nil => simp at h
  | cons x l ih =>
    cases k with
    | zero => simp [offs, width]
    | succ k =>
      have := ih (a + x.2) k (by simpa using h)
      simp only [offs, List.getElem_cons_succ, this, List.take_succ_cons, width, List.map_cons, List.sum_cons]
      rw [Nat.add_assoc]
/-- the four cells of the k-th sign -/
theorem sign_cells {w : World} {B a : Nat} {A : Option Addr} {l : List (Nat × Nat)} {k : Nat} (h : Row w B A (flat (offs a l))) (hk : k < l.length) :
    ∃ ad, A = some ad ∧ ad.block < B ∧ w.cell? (ad.add (k * 4)) = some (.int .i64 ((a + width (l.take k) : Nat) : Int)) ∧ w.cell? ⟨(ad.add (k * 4)).block, (ad.add (k * 4)).off + 1, none⟩ = some (.int .i64 (l[k].2 : Int)) ∧
      w.cell? ⟨(ad.add (k * 4)).block, (ad.add (k * 4)).off + 2, none⟩ = some (.int .i64 (l[k].1 : Int)) ∧ w.cell? ⟨(ad.add (k * 4)).block, (ad.add (k * 4)).off + 3, none⟩ = some (.bool (!broken l[k])) := by
  have hk' : k < (offs a l).length := by rw [offs_len]; exact hk
  have g0 := flat_get (offs a l) k 0 hk' (by omega)
  have g1 := flat_get (offs a l) k 1 hk' (by omega)
  have g2 := flat_get (offs a l) k 2 hk' (by omega)
  have g3 := flat_get (offs a l) k 3 hk' (by omega)
  rw [offs_get a l k hk] at g0 g1 g2 g3
  obtain ⟨ad, e, hb, c0⟩ := h.at_ (g0.trans rfl)
  obtain ⟨ad1, e1, _, c1⟩ := h.at_ (g1.trans rfl)
  obtain ⟨ad2, e2, _, c2⟩ := h.at_ (g2.trans rfl)
  obtain ⟨ad3, e3, _, c3⟩ := h.at_ (g3.trans rfl)
  subst e
  injection e1 with e1
  injection e2 with e2
  injection e3 with e3
  subst e1 e2 e3
  rw [add_field _ _ _ (by omega)] at c1 c2 c3
  exact ⟨ad, rfl, hb, c0, c1, c2, c3⟩

theorem elt_int : Elt Tryd.prog 64 3 (.int .i64 0) 1 8 := ⟨Tryd.underlying64, by kernel_rfl, rfl, by decide⟩
def intn (n : Nat) : Value := .int .i64 (n : Int)

theorem startsAt_take (a : Nat) (l : List (Nat × Nat)) (k : Nat) (h : k < l.length) : startsAt a (l.take (k + 1)) = startsAt a (l.take k) ++ [a + width (l.take k)] := by
  rw [List.take_succ_eq_append_getElem h, startsAt_append]; rfl

end Go.Proofs.YtgmeamefbfgbgaaDoor

/-
  Contracts of the document's own answers, layer 2: which, begins, Align, Next, Prev, At.
-/
namespace Go.Proofs.YtgmeamefbfgbgaaDoor
open Go.RowKit

/-- the number of the sign in which a place lies; how many there are, if it lies behind them -/
structure Which (l : List (Nat × Nat)) (p : Int) (i : Nat) : Prop where
  le : i ≤ l.length
  ahead : ∀ j, j < i → ((width (l.take (j + 1)) : Nat) : Int) ≤ p
  here : i < l.length → p < ((width (l.take (i + 1)) : Nat) : Int)
theorem width_take_mono (l : List (Nat × Nat)) {i j : Nat} (h : i ≤ j) : width (l.take i) ≤ width (l.take j) := by
  have e : l.take j = l.take i ++ (l.drop i).take (j - i) := by
    rw [← List.take_add]; congr 1; omega
  rw [e, width_append]; omega
theorem Which.unique {l : List (Nat × Nat)} {p : Int} {i j : Nat} (h1 : Which l p i) (h2 : Which l p j) : i = j := by
  rcases Nat.lt_trichotomy i j with h | h | h
  · have a := h1.here (by have := h2.le; omega)
    have b := h2.ahead i h
    omega
  · exact h
  · have a := h2.here (by have := h1.le; omega)
    have b := h1.ahead j h
    omega
theorem width_le_take (l : List (Nat × Nat)) (k : Nat) : width (l.take k) ≤ width l := by
  have := width_take_mono l (show k ≤ max k l.length by omega)
  rw [List.take_of_length_le (i := max k l.length) (by omega)] at this
  exact this
theorem width_succ (l : List (Nat × Nat)) (k : Nat) (h : k < l.length) : width (l.take (k + 1)) = width (l.take k) + l[k].2 := by
  rw [List.take_succ_eq_append_getElem h, width_append]; simp [width]
theorem width_chars (S : List UInt8) : width (chars S) = S.length := by
  have key : ∀ (n : Nat) (a : Nat) (done : List (Nat × Nat)), S.length - a ≤ n → Read S done a → width (chars S) = S.length := by
    intro n
    induction n with
    | zero =>
      intro a done h hr
      rw [hr.end_ (by omega), hr.wide]
      have := hr.le; omega
    | succ n ih =>
      intro a done h hr
      by_cases hlt : a < S.length
      · have := (dec_pos (S.drop a)).1
        exact ih _ _ (by omega) (hr.step hlt)
      · rw [hr.end_ (by omega), hr.wide]
        have := hr.le; omega
  exact key S.length 0 [] (by omega) (Read.start S)

end Go.Proofs.YtgmeamefbfgbgaaDoor

/-
  The contract of the document's own answer, layer 2: Encode.
-/
namespace Go.Proofs.YtgmeamefbfgbgaaDoor
open Go.RowKit

/-- the bytes of any number -/
def encB (r : Int) : List UInt8 := if mayB r = true then enc r.toNat else enc 0xFFFD
def encAll (l : List Int) : List UInt8 := l.flatMap encB
theorem encAll_snoc (l : List Int) (r : Int) : encAll (l ++ [r]) = encAll l ++ encB r := by simp [encAll]
theorem encB_len (r : Int) : 1 ≤ (encB r).length ∧ (encB r).length ≤ 4 := by unfold encB; split <;> exact enc_len _
theorem encAll_len (l : List Int) : (encAll l).length ≤ 4 * l.length := by
  induction l with
  | nil => simp [encAll]
  | cons r l ih =>
    have := encB_len r
    simp only [encAll, List.flatMap_cons, List.length_append, List.length_cons] at *
    omega
def runz (n : Int) : Value := .int .i32 n
theorem strCells_list (bs : List UInt8) : Lib.strCells ⟨bs.toArray⟩ = bs.map byt := by
  simp [Lib.strCells, byt]
theorem byte_info : (Tryd.prog.info? 5).map (fun i => (i.zero, i.size, i.bytes)) = some (some (.int .u8 0), 1, 1) := by kernel_rfl

end Go.Proofs.YtgmeamefbfgbgaaDoor

/-
  What package glyph's functions are to answer, as one bundle; its proof lies with the landed code's contracts. The law package's alive.
-/
namespace Go.Proofs.YtgmeamefbfgbgaaDoor
open Go.RowKit

theorem chars_a9 : chars [97, 195, 169] = [(97, 1), (233, 2)] := by decide +kernel
theorem chars_a9f : (chars [97, 195, 169, 255]).length = 3 := by decide +kernel
theorem chars_f : ((chars [255]).all fun x => !broken x) = false := by decide +kernel
theorem which_one {i : Nat} (h : Which [(97, 1), (233, 2)] 2 i) : i = 1 := by
  refine h.unique ⟨by decide, ?_, ?_⟩
  · intro j hj
    obtain rfl : j = 0 := by omega
    simp [width]
  · intro _; simp [width]

end Go.Proofs.YtgmeamefbfgbgaaDoor

/-
  Plain facts for the statements of layer 2: encodings, texts one behind the other, texts and their runes.
-/
namespace Go.Proofs.YtgmeamefbfgbgaaDoor

def fixR (r : Int) : Nat := if mayB r = true then r.toNat else 0xFFFD
theorem fixR_may (r : Int) : may (fixR r) := by
  unfold fixR
  cases h : mayB r with
  | true =>
    rw [if_pos rfl]
    have h0 : 0 ≤ r := by unfold mayB at h; simp at h; omega
    rw [← mayB_may, show ((r.toNat : Nat) : Int) = r by omega]; exact h
  | false => rw [if_neg (by decide)]; unfold may; omega
theorem encB_fix (r : Int) : encB r = enc (fixR r) := by unfold encB fixR; split <;> rfl

theorem chars_enc (r : Nat) (hr : may r) (t : List UInt8) : chars (enc r ++ t) = (r, (enc r).length) :: chars t := by
  have hne : enc r ++ t ≠ [] := by simp [enc_ne]
  rw [chars_cons hne, dec_enc r hr t]
  simp
def encSign (r : Int) : Nat × Nat := (fixR r, (enc (fixR r)).length)
theorem chars_encAll (zs : List Int) : chars (encAll zs) = zs.map encSign := by
  induction zs with
  | nil => rfl
  | cons r zs ih =>
    have e : encAll (r :: zs) = enc (fixR r) ++ encAll zs := by simp only [encAll, List.flatMap_cons, encB_fix]
    rw [e, chars_enc _ (fixR_may r), ih]; rfl
theorem encAll_valid (zs : List Int) : ((chars (encAll zs)).all fun x => !broken x) = true := by
  rw [chars_encAll, List.all_map, List.all_eq_true]
  intro r _
  simp only [Function.comp, encSign]
  rw [enc_broken _ _ rfl]; rfl
theorem encAll_count (zs : List Int) : (chars (encAll zs)).length = zs.length := by rw [chars_encAll, List.length_map]

theorem drop_append_le {α : Type} (s t : List α) {n : Nat} (h : n ≤ s.length) : (s ++ t).drop n = s.drop n ++ t := by
  rw [List.drop_append]
  rw [show n - s.length = 0 by omega]; simp

/-- a text behind whole signs -/
theorem chars_append (t : List UInt8) : ∀ (n : Nat) (s : List UInt8), s.length ≤ n → ((chars s).all fun x => !broken x) = true → chars (s ++ t) = chars s ++ chars t := by
  intro n
  induction n with
  | zero =>
    intro s h _
    have : s = [] := List.eq_nil_of_length_eq_zero (by omega)
    subst this
    simp [chars_nil]
  | succ n ih =>
    intro s h hv
    by_cases hs : s = []
    · subst hs; simp [chars_nil]
    · rw [chars_cons hs] at hv ⊢
      rw [List.all_cons, Bool.and_eq_true] at hv
      have hb : broken (dec s) = false := by simpa using hv.1
      have hp := (dec_pos s).1
      have hle := dec_le hs
      have hpos := List.length_pos_iff.2 hs
      rw [chars_cons (show s ++ t ≠ [] by simp [hs]), dec_more hs hb, drop_append_le s t hle]
      rw [ih (s.drop (dec s).2) (by rw [List.length_drop]; omega) hv.2]
      rfl

def runes (l : List (Nat × Nat)) : List Int := l.map fun x => (x.1 : Int)
theorem fixR_nat {r : Nat} (h : may r) : fixR (r : Int) = r := by
  unfold fixR
  rw [if_pos ((mayB_may r).2 h)]; simp
/-- a text of whole signs is its runes' bytes; any other is longer then -/
theorem back_aux : ∀ (n : Nat) (s : List UInt8), s.length ≤ n →
    (((chars s).all fun x => !broken x) = true → encAll (runes (chars s)) = s) ∧ (s.length ≤ (encAll (runes (chars s))).length) ∧
    (((chars s).all fun x => !broken x) = false → s.length < (encAll (runes (chars s))).length) := by
  intro n
  induction n with
  | zero =>
    intro s h
    have : s = [] := List.eq_nil_of_length_eq_zero (by omega)
    subst this
    refine ⟨fun _ => rfl, by simp, fun h => ?_⟩
    rw [chars_nil] at h; cases h
  | succ n ih =>
    intro s h
    by_cases hs : s = []
    · subst hs
      refine ⟨fun _ => rfl, by simp, fun h => ?_⟩
      rw [chars_nil] at h; cases h
    · have hp := dec_pos s
      have hle := dec_le hs
      have hpos := List.length_pos_iff.2 hs
      obtain ⟨h1, h2, h3⟩ := ih (s.drop (dec s).2) (by rw [List.length_drop]; omega)
      have hlen : (s.drop (dec s).2).length = s.length - (dec s).2 := List.length_drop
      rw [chars_cons hs]
      have e : encAll (runes (dec s :: chars (s.drop (dec s).2))) = encB ((dec s).1 : Int) ++ encAll (runes (chars (s.drop (dec s).2))) := by simp [encAll, runes]
      rw [e, List.length_append]
      cases hb : broken (dec s) with
      | false =>
        obtain ⟨w1, w2, w3⟩ := dec_whole hs hb
        have e2 : encB ((dec s).1 : Int) = s.take (dec s).2 := by rw [encB_fix, fixR_nat w1, w3]
        have e3 : (encB ((dec s).1 : Int)).length = (dec s).2 := by rw [e2, List.length_take]; omega
        rw [List.all_cons, hb]
        refine ⟨fun hv => ?_, by omega, fun hv => ?_⟩
        · rw [h1 (by simpa using hv), e2, List.take_append_drop]
        · have := h3 (by simpa using hv)
          omega
      | true =>
        have hb' := hb
        unfold broken at hb'
        simp at hb'
        have e3 : (encB ((dec s).1 : Int)).length = 3 := by rw [hb'.1]; decide
        rw [List.all_cons, hb]
        refine ⟨fun hv => by simp at hv, by omega, fun _ => by omega⟩
theorem back (s : List UInt8) : (encAll (runes (chars s)) == s) = ((chars s).all fun x => !broken x) := by
  obtain ⟨h1, _, h3⟩ := back_aux s.length s (Nat.le_refl _)
  cases hv : (chars s).all fun x => !broken x with
  | true => rw [h1 hv]; simp
  | false =>
    have := h3 hv
    simp
    intro h
    rw [h] at this
    omega

/-- which sign a place within the i-th sign lies in -/
theorem which_in {l : List (Nat × Nat)} {i : Nat} (hi : i < l.length) {p : Int} (h1 : ((width (l.take i) : Nat) : Int) ≤ p) (h2 : p < ((width (l.take (i + 1)) : Nat) : Int)) : Which l p i :=
  ⟨by omega, fun j hj => by have := width_take_mono l (show j + 1 ≤ i by omega); omega, fun _ => h2⟩
theorem startsAt_get (l : List (Nat × Nat)) (k : Nat) (h : k < l.length) : (startsAt 0 l)[k]'(by rw [startsAt_len]; exact h) = width (l.take k) := by
  have h1 := offs_get 0 l k h
  have h2 : (startsAt 0 l)[k]? = some (width (l.take k)) := by
    rw [← offs_fst, List.getElem?_map, List.getElem?_eq_getElem (by rw [offs_len]; exact h), h1]; simp
  rw [List.getElem?_eq_getElem (by rw [startsAt_len]; exact h)] at h2
  exact Option.some.inj h2
/-- a sign that reads as the broken rune: one byte, or three -/
theorem broken_rune (t : List UInt8) (ht : t ≠ []) (h : (dec t).1 = 0xFFFD) : (dec t).2 = 1 ∨ (dec t).2 = 3 := by
  cases hb : broken (dec t) with
  | false =>
    obtain ⟨w1, w2, w3⟩ := dec_whole ht hb
    right
    have := congrArg List.length w3
    rw [h, List.length_take, Nat.min_eq_left w2] at this
    rw [← this]; decide
  | true => unfold broken at hb; simp at hb; exact .inl hb.2
end Go.Proofs.YtgmeamefbfgbgaaDoor
