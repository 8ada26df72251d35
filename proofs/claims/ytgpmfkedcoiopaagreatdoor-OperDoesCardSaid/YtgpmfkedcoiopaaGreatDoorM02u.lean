/-
  Merged: UtfMath, UtfSigns, GlyOne, GlyNumber, GlySigns, GlyList, GlyMoves, GlyWhich, GlyEncode, GlySays, GlyMath.
-/
import Derived.Test.YtgpmfkedcoiopaaGreatDoorWords
import Derived.Test.YtgpmfkedcoiopaaGreatDoorRows
import Derived.Deep.QuietTactic
import Derived.BigQuiet
import Derived.Lib.AppendStr
/-
  Plain facts on UTF-8: what stands at the head of bytes, against its encoding. No program here.
-/
namespace Go.Proofs.YtgpmfkedcoiopaaGreatDoor

/-- what stands at the head of bytes: its rune, and how many bytes it has; as the model reads it -/
def dec (t : List UInt8) : Nat × Nat :=
  let at' (k : Nat) : Nat := (t.getD k 0).toNat
  let cont (k : Nat) : Bool := decide (k < t.length) && at' k / 64 == 2
  let b0 := at' 0
  if b0 < 0x80 then (b0, 1)
  else if b0 / 32 == 6 && cont 1 then
    let c := (b0 % 32) * 64 + at' 1 % 64
    if c ≥ 0x80 then (c, 2) else (0xFFFD, 1)
  else if b0 / 16 == 14 && cont 1 && cont 2 then
    let c := (b0 % 16) * 4096 + (at' 1 % 64) * 64 + at' 2 % 64
    if c ≥ 0x800 && Utf8.valid c then (c, 3) else (0xFFFD, 1)
  else if b0 / 8 == 30 && cont 1 && cont 2 && cont 3 then
    let c := (b0 % 8) * 262144 + (at' 1 % 64) * 4096 + (at' 2 % 64) * 64 + at' 3 % 64
    if c ≥ 0x10000 && Utf8.valid c then (c, 4) else (0xFFFD, 1)
  else (0xFFFD, 1)

theorem get_drop (S : List UInt8) (i k : Nat) : ({ data := S.toArray } : ByteArray).get! (i + k) = (S.drop i).getD k 0 := by
  show S.toArray[i + k]! = _
  rw [List.getD_eq_getElem?_getD, List.getElem?_drop]
  simp [getElem!_def]
  cases S[i + k]? <;> rfl
theorem decode_drop (S : List UInt8) (i : Nat) : Utf8.decode ⟨S.toArray⟩ i = dec (S.drop i) := by
  have hg := fun k => get_drop S i k
  have hs : ∀ k, decide (i + k < ({ data := S.toArray } : ByteArray).size) = decide (k < (S.drop i).length) := fun k => by
    have : ({ data := S.toArray } : ByteArray).size = S.length := rfl
    rw [this, List.length_drop]
    by_cases h : i + k < S.length
    · rw [decide_eq_true h, decide_eq_true (by omega)]
    · rw [decide_eq_false h, decide_eq_false (by omega)]
  simp only [Utf8.decode, dec, hg, hs, Utf8.runeError]

def may (r : Nat) : Prop := r ≤ 0x10FFFF ∧ (r < 0xD800 ∨ 0xDFFF < r)
theorem valid_may (r : Nat) : Utf8.valid (r : Int) = true ↔ may r := by
  unfold Utf8.valid may
  simp
  omega
def byteOf (n : Nat) : UInt8 := UInt8.ofNat n
/-- the bytes of a rune -/
def enc (r : Nat) : List UInt8 :=
  if r < 0x80 then [byteOf r]
  else if r < 0x800 then [byteOf (0xC0 + r / 64), byteOf (0x80 + r % 64)]
  else if r < 0x10000 then [byteOf (0xE0 + r / 4096), byteOf (0x80 + r / 64 % 64), byteOf (0x80 + r % 64)]
  else [byteOf (0xF0 + r / 262144), byteOf (0x80 + r / 4096 % 64), byteOf (0x80 + r / 64 % 64), byteOf (0x80 + r % 64)]
theorem byteOf_nat {n : Nat} (h : n < 256) : (byteOf n).toNat = n := by unfold byteOf; rw [UInt8.toNat_ofNat', Nat.mod_eq_of_lt h]
theorem byteOf_toNat (b : UInt8) : byteOf b.toNat = b := by unfold byteOf; simp
theorem byteOf_eq {n : Nat} {b : UInt8} (h : n = b.toNat) : byteOf n = b := by rw [h, byteOf_toNat]
theorem enc_len (r : Nat) : 1 ≤ (enc r).length ∧ (enc r).length ≤ 4 := by unfold enc; split <;> (try split) <;> (try split) <;> simp

/-- an encoding is read back, whatever stands behind it -/
theorem dec_enc (r : Nat) (hr : may r) (t : List UInt8) : dec (enc r ++ t) = (r, (enc r).length) := by
  have hv := (valid_may r).2 hr
  unfold may at hr
  by_cases h1 : r < 0x80
  · have e : enc r = [byteOf r] := if_pos h1
    rw [e]
    simp only [dec, List.cons_append, List.nil_append, List.getD_cons_zero, byteOf_nat (show r < 256 by omega), h1, if_true, List.length_cons, List.length_nil]
  · by_cases h2 : r < 0x800
    · have e : enc r = [byteOf (0xC0 + r / 64), byteOf (0x80 + r % 64)] := by unfold enc; rw [if_neg h1, if_pos h2]
      rw [e]
      simp only [dec, List.cons_append, List.nil_append, List.getD_cons_zero, List.getD_cons_succ, byteOf_nat (show 0xC0 + r / 64 < 256 by omega), byteOf_nat (show 0x80 + r % 64 < 256 by omega), List.length_cons, List.length_nil]
      rw [if_neg (by omega), if_pos (by simp; omega), if_pos (by omega)]
      simp; omega
    · by_cases h3 : r < 0x10000
      · have e : enc r = [byteOf (0xE0 + r / 4096), byteOf (0x80 + r / 64 % 64), byteOf (0x80 + r % 64)] := by unfold enc; rw [if_neg h1, if_neg h2, if_pos h3]
        rw [e]
        simp only [dec, List.cons_append, List.nil_append, List.getD_cons_zero, List.getD_cons_succ, byteOf_nat (show 0xE0 + r / 4096 < 256 by omega), byteOf_nat (show 0x80 + r / 64 % 64 < 256 by omega), byteOf_nat (show 0x80 + r % 64 < 256 by omega), List.length_cons, List.length_nil]
        have ec : (0xE0 + r / 4096) % 16 * 4096 + (0x80 + r / 64 % 64) % 64 * 64 + (0x80 + r % 64) % 64 = r := by omega
        rw [ec, hv]
        rw [if_neg (by omega), if_neg (by simp; omega), if_pos (by simp; omega), if_pos (by simp; omega)]
      · have e : enc r = [byteOf (0xF0 + r / 262144), byteOf (0x80 + r / 4096 % 64), byteOf (0x80 + r / 64 % 64), byteOf (0x80 + r % 64)] := by unfold enc; rw [if_neg h1, if_neg h2, if_neg h3]
        rw [e]
        simp only [dec, List.cons_append, List.nil_append, List.getD_cons_zero, List.getD_cons_succ, byteOf_nat (show 0xF0 + r / 262144 < 256 by omega), byteOf_nat (show 0x80 + r / 4096 % 64 < 256 by omega), byteOf_nat (show 0x80 + r / 64 % 64 < 256 by omega), byteOf_nat (show 0x80 + r % 64 < 256 by omega), List.length_cons, List.length_nil]
        have ec : (0xF0 + r / 262144) % 8 * 262144 + (0x80 + r / 4096 % 64) % 64 * 4096 + (0x80 + r / 64 % 64) % 64 * 64 + (0x80 + r % 64) % 64 = r := by omega
        rw [ec, hv]
        rw [if_neg (by omega), if_neg (by simp; omega), if_neg (by simp; omega), if_pos (by simp; omega), if_pos (by simp; omega)]

def broken (x : Nat × Nat) : Bool := decide (x.1 = 0xFFFD ∧ x.2 = 1)

/-- what is read whole is an encoding -/
theorem dec_whole {t : List UInt8} (ht : t ≠ []) (h : broken (dec t) = false) : may (dec t).1 ∧ (dec t).2 ≤ t.length ∧ enc (dec t).1 = t.take (dec t).2 := by
  obtain ⟨a, t, rfl⟩ := List.exists_cons_of_ne_nil ht
  have ha : a.toNat < 256 := a.toNat_lt
  revert h
  simp only [dec]
  simp only [List.getD_cons_zero]
  by_cases h1 : a.toNat < 0x80
  · simp only [h1, if_true]
    intro _
    refine ⟨?_, by simp, ?_⟩
    · unfold may; omega
    · unfold enc; rw [if_pos h1, byteOf_toNat]; rfl
  · simp only [h1, if_false]
    by_cases h2 : (a.toNat / 32 == 6 && (decide (1 < (a :: t).length) && ((a :: t).getD 1 0).toNat / 64 == 2)) = true
    · rw [if_pos h2]
      simp only [Bool.and_eq_true, beq_iff_eq, decide_eq_true_iff] at h2
      match t, h2 with
      | b :: t, h2 =>
        have hb : b.toNat < 256 := b.toNat_lt
        simp only [List.getD_cons_zero, List.getD_cons_succ] at h2 ⊢
        by_cases hc : (a.toNat % 32) * 64 + b.toNat % 64 ≥ 0x80
        · rw [if_pos hc]
          intro _
          refine ⟨?_, by simp, ?_⟩
          · unfold may; simp only; omega
          · simp only
            unfold enc
            rw [if_neg (by omega), if_pos (by omega), byteOf_eq (b := a) (by omega), byteOf_eq (b := b) (by omega)]; rfl
        · rw [if_neg hc]; intro h; simp [broken] at h
      | [], h2 => simp at h2
    · rw [if_neg h2]
      by_cases h3 : (a.toNat / 16 == 14 && (decide (1 < (a :: t).length) && ((a :: t).getD 1 0).toNat / 64 == 2) && (decide (2 < (a :: t).length) && ((a :: t).getD 2 0).toNat / 64 == 2)) = true
      · rw [if_pos h3]
        simp only [Bool.and_eq_true, beq_iff_eq, decide_eq_true_iff] at h3
        match t, h3 with
        | b :: c :: t, h3 =>
          have hb : b.toNat < 256 := b.toNat_lt
          have hc0 : c.toNat < 256 := c.toNat_lt
          simp only [List.getD_cons_zero, List.getD_cons_succ] at h3 ⊢
          by_cases hc : (decide ((a.toNat % 16) * 4096 + (b.toNat % 64) * 64 + c.toNat % 64 ≥ 0x800) && Utf8.valid (((a.toNat % 16) * 4096 + (b.toNat % 64) * 64 + c.toNat % 64 : Nat) : Int)) = true
          · rw [if_pos hc]
            intro _
            simp only [Bool.and_eq_true, decide_eq_true_iff] at hc
            have hm := (valid_may _).1 hc.2
            refine ⟨hm, by simp, ?_⟩
            simp only
            unfold enc
            rw [if_neg (by omega), if_neg (by omega), if_pos (by omega), byteOf_eq (b := a) (by omega), byteOf_eq (b := b) (by omega), byteOf_eq (b := c) (by omega)]; rfl
          · rw [if_neg hc]; intro h; simp [broken] at h
        | [b], h3 => simp at h3
        | [], h3 => simp at h3
      · rw [if_neg h3]
        by_cases h4 : (a.toNat / 8 == 30 && (decide (1 < (a :: t).length) && ((a :: t).getD 1 0).toNat / 64 == 2) && (decide (2 < (a :: t).length) && ((a :: t).getD 2 0).toNat / 64 == 2) && (decide (3 < (a :: t).length) && ((a :: t).getD 3 0).toNat / 64 == 2)) = true
        · rw [if_pos h4]
          simp only [Bool.and_eq_true, beq_iff_eq, decide_eq_true_iff] at h4
          match t, h4 with
          | b :: c :: d :: t, h4 =>
            have hb : b.toNat < 256 := b.toNat_lt
            have hc0 : c.toNat < 256 := c.toNat_lt
            have hd0 : d.toNat < 256 := d.toNat_lt
            simp only [List.getD_cons_zero, List.getD_cons_succ] at h4 ⊢
            by_cases hc : (decide ((a.toNat % 8) * 262144 + (b.toNat % 64) * 4096 + (c.toNat % 64) * 64 + d.toNat % 64 ≥ 0x10000) && Utf8.valid (((a.toNat % 8) * 262144 + (b.toNat % 64) * 4096 + (c.toNat % 64) * 64 + d.toNat % 64 : Nat) : Int)) = true
            · rw [if_pos hc]
              intro _
              simp only [Bool.and_eq_true, decide_eq_true_iff] at hc
              have hm := (valid_may _).1 hc.2
              refine ⟨hm, by simp, ?_⟩
              simp only
              unfold enc
              unfold may at hm
              rw [if_neg (by omega), if_neg (by omega), if_neg (by omega), byteOf_eq (b := a) (by omega), byteOf_eq (b := b) (by omega), byteOf_eq (b := c) (by omega), byteOf_eq (b := d) (by omega)]; rfl
            · rw [if_neg hc]; intro h; simp [broken] at h
          | [b, c], h4 => simp at h4
          | [b], h4 => simp at h4
          | [], h4 => simp at h4
        · rw [if_neg h4]; intro h; simp [broken] at h

theorem enc_broken (r : Nat) (n : Nat) (h : n = (enc r).length) : broken (r, n) = false := by
  unfold broken
  simp only [decide_eq_false_iff_not]
  intro ⟨h1, h2⟩
  subst h1
  rw [h2] at h
  exact absurd h (by decide)
theorem dec_pos (t : List UInt8) : 1 ≤ (dec t).2 ∧ (dec t).2 ≤ 4 := by
  simp only [dec]
  repeat' split
  all_goals simp
theorem dec_le {t : List UInt8} (ht : t ≠ []) : (dec t).2 ≤ t.length := by
  cases h : broken (dec t) with
  | false => exact (dec_whole ht h).2.1
  | true =>
    unfold broken at h
    simp at h
    rw [h.2]
    exact List.length_pos_iff.2 ht
/-- what is whole is the same, whatever stands behind it -/
theorem dec_more {s : List UInt8} (hs : s ≠ []) (h : broken (dec s) = false) (t : List UInt8) : dec (s ++ t) = dec s := by
  obtain ⟨h1, h2, h3⟩ := dec_whole hs h
  have e : s = enc (dec s).1 ++ s.drop (dec s).2 := by rw [h3, List.take_append_drop]
  have h4 := dec_enc _ h1 (s.drop (dec s).2)
  have h5 := dec_enc _ h1 (s.drop (dec s).2 ++ t)
  rw [← List.append_assoc, ← e] at h5
  rw [← e] at h4
  rw [h5, h4]
end Go.Proofs.YtgpmfkedcoiopaaGreatDoor

/-
  Plain facts on the signs of bytes: one behind the other; what the document's number and its bytes say of one. No program here.
-/
namespace Go.Proofs.YtgpmfkedcoiopaaGreatDoor

/-- what the bits of so many bytes tell -/
def headOf (n : Nat) (a : UInt8) : Nat := if n = 2 then a.toNat % 32 else if n = 3 then a.toNat % 16 else if n = 4 then a.toNat % 8 else a.toNat
def numStep (n : Nat) (b : UInt8) : Nat := n * 64 + b.toNat % 64
def num (x : List UInt8) : Nat := match x with | [] => 0 | a :: t => t.foldl numStep (headOf x.length a)

theorem num_enc (r : Nat) (hr : may r) : num (enc r) = r := by
  unfold may at hr
  by_cases h1 : r < 0x80
  · have e : enc r = [byteOf r] := if_pos h1
    rw [e]
    simp [num, headOf, byteOf_nat (show r < 256 by omega)]
  · by_cases h2 : r < 0x800
    · have e : enc r = [byteOf (0xC0 + r / 64), byteOf (0x80 + r % 64)] := by unfold enc; rw [if_neg h1, if_pos h2]
      rw [e]
      simp only [num, headOf, List.length_cons, List.length_nil, List.foldl_cons, List.foldl_nil, numStep, byteOf_nat (show 0xC0 + r / 64 < 256 by omega), byteOf_nat (show 0x80 + r % 64 < 256 by omega)]
      simp; omega
    · by_cases h3 : r < 0x10000
      · have e : enc r = [byteOf (0xE0 + r / 4096), byteOf (0x80 + r / 64 % 64), byteOf (0x80 + r % 64)] := by unfold enc; rw [if_neg h1, if_neg h2, if_pos h3]
        rw [e]
        simp only [num, headOf, List.length_cons, List.length_nil, List.foldl_cons, List.foldl_nil, numStep, byteOf_nat (show 0xE0 + r / 4096 < 256 by omega), byteOf_nat (show 0x80 + r / 64 % 64 < 256 by omega), byteOf_nat (show 0x80 + r % 64 < 256 by omega)]
        simp; omega
      · have e : enc r = [byteOf (0xF0 + r / 262144), byteOf (0x80 + r / 4096 % 64), byteOf (0x80 + r / 64 % 64), byteOf (0x80 + r % 64)] := by unfold enc; rw [if_neg h1, if_neg h2, if_neg h3]
        rw [e]
        simp only [num, headOf, List.length_cons, List.length_nil, List.foldl_cons, List.foldl_nil, numStep, byteOf_nat (show 0xF0 + r / 262144 < 256 by omega), byteOf_nat (show 0x80 + r / 4096 % 64 < 256 by omega), byteOf_nat (show 0x80 + r / 64 % 64 < 256 by omega), byteOf_nat (show 0x80 + r % 64 < 256 by omega)]
        simp; omega

/-- the first so many bytes are a rune's own -/
def stands (t : List UInt8) (m : Nat) : Prop := may (num (t.take m)) ∧ enc (num (t.take m)) = t.take m
theorem stands_dec {t : List UInt8} {m : Nat} (hm : m ≤ t.length) (h : stands t m) : dec t = (num (t.take m), m) := by
  have e : t = enc (num (t.take m)) ++ t.drop m := by rw [h.2, List.take_append_drop]
  have h1 := dec_enc _ h.1 (t.drop m)
  rw [← e] at h1
  rw [h1, h.2, List.length_take, Nat.min_eq_left hm]
theorem stands_whole {t : List UInt8} {m : Nat} (hm : m ≤ t.length) (h : stands t m) : broken (dec t) = false := by
  rw [stands_dec hm h]
  exact enc_broken _ _ (by rw [h.2, List.length_take, Nat.min_eq_left hm])
theorem dec_stands {t : List UInt8} (ht : t ≠ []) (h : broken (dec t) = false) : stands t (dec t).2 := by
  obtain ⟨h1, h2, h3⟩ := dec_whole ht h
  have e : num (t.take (dec t).2) = (dec t).1 := by rw [← h3, num_enc _ h1]
  exact ⟨by rw [e]; exact h1, by rw [e]; exact h3⟩
theorem dec_none {t : List UInt8} (ht : t ≠ []) (h : ∀ m, 1 ≤ m → m ≤ 4 → m ≤ t.length → ¬ stands t m) : dec t = (0xFFFD, 1) := by
  cases hb : broken (dec t) with
  | false => exact absurd (dec_stands ht hb) (h _ (dec_pos t).1 (dec_pos t).2 (dec_le ht))
  | true =>
    unfold broken at hb
    simp at hb
    exact Prod.ext hb.1 hb.2

/-- the signs of bytes: of each its rune, and how many bytes it has -/
def charsF : Nat → List UInt8 → List (Nat × Nat)
  | 0, _ => []
  | f + 1, t => if t = [] then [] else dec t :: charsF f (t.drop (dec t).2)
def chars (t : List UInt8) : List (Nat × Nat) := charsF t.length t
theorem charsF_enough : ∀ (f : Nat) (t : List UInt8), t.length ≤ f → charsF f t = chars t := by
  have key : ∀ (f g : Nat) (t : List UInt8), t.length ≤ f → t.length ≤ g → charsF f t = charsF g t := by
    intro f
    induction f with
    | zero =>
      intro g t h _
      have : t = [] := List.eq_nil_of_length_eq_zero (by omega)
      subst this
      cases g <;> simp [charsF]
    | succ f ih =>
      intro g t h1 h2
      by_cases ht : t = []
      · subst ht; cases g <;> simp [charsF]
      · cases g with
        | zero => exact absurd (List.eq_nil_of_length_eq_zero (by omega)) ht
        | succ g =>
          simp only [charsF]
          rw [if_neg ht, if_neg ht]
          have := (dec_pos t).1
          congr 1
          exact ih g _ (by rw [List.length_drop]; omega) (by rw [List.length_drop]; omega)
  intro f t h
  exact key f t.length t h (Nat.le_refl _)
theorem chars_nil : chars [] = [] := rfl
theorem chars_cons {t : List UInt8} (ht : t ≠ []) : chars t = dec t :: chars (t.drop (dec t).2) := by
  unfold chars
  obtain ⟨n, hn⟩ : ∃ n, t.length = n + 1 := ⟨t.length - 1, by have := List.length_pos_iff.2 ht; omega⟩
  rw [hn]
  simp only [charsF]
  rw [if_neg ht]
  congr 1
  have := (dec_pos t).1
  exact charsF_enough n _ (by rw [List.length_drop]; omega)

/-- where they begin -/
def startsAt (a : Nat) : List (Nat × Nat) → List Nat
  | [] => []
  | x :: l => a :: startsAt (a + x.2) l
def width (l : List (Nat × Nat)) : Nat := (l.map (·.2)).sum
theorem startsAt_append (a : Nat) (l m : List (Nat × Nat)) : startsAt a (l ++ m) = startsAt a l ++ startsAt (a + width l) m := by
  induction l generalizing a with
  | nil => simp [startsAt, width]
  | cons x l ih => simp only [List.cons_append, startsAt, ih, width, List.map_cons, List.sum_cons]; rw [Nat.add_assoc]
theorem startsAt_len (a : Nat) (l : List (Nat × Nat)) : (startsAt a l).length = l.length := by
  induction l generalizing a with
  | nil => rfl
  | cons x l ih => simp [startsAt, ih]
theorem width_append (l m : List (Nat × Nat)) : width (l ++ m) = width l + width m := by simp [width]

/-- so many signs have been read of a text: they lie behind each other, and the rest is read on -/
structure Read (S : List UInt8) (done : List (Nat × Nat)) (at' : Nat) : Prop where
  all : chars S = done ++ chars (S.drop at')
  wide : width done = at'
  le : at' ≤ S.length
theorem Read.start (S : List UInt8) : Read S [] 0 := ⟨by simp, rfl, Nat.zero_le _⟩
theorem Read.step {S : List UInt8} {done : List (Nat × Nat)} {a : Nat} (h : Read S done a) (hlt : a < S.length) : Read S (done ++ [dec (S.drop a)]) (a + (dec (S.drop a)).2) := by
  have hne : S.drop a ≠ [] := by intro h0; have := congrArg List.length h0; rw [List.length_drop] at this; simp at this; omega
  have hle := dec_le hne
  rw [List.length_drop] at hle
  refine ⟨?_, ?_, by omega⟩
  · rw [h.all, chars_cons hne, List.drop_drop]; simp
  · rw [width_append, h.wide]; simp [width]
theorem Read.end_ {S : List UInt8} {done : List (Nat × Nat)} {a : Nat} (h : Read S done a) (hge : S.length ≤ a) : chars S = done := by
  rw [h.all, List.drop_eq_nil_of_le hge, chars_nil, List.append_nil]
theorem drop_ne {S : List UInt8} {a : Nat} (h : a < S.length) : S.drop a ≠ [] := by
  intro h0; have := congrArg List.length h0; rw [List.length_drop] at this; simp at this; omega
theorem chars_len (t : List UInt8) : (chars t).length ≤ t.length := by
  have key : ∀ f t, (charsF f t).length ≤ f := by
    intro f
    induction f with
    | zero => intro t; simp [charsF]
    | succ f ih =>
      intro t
      simp only [charsF]
      split
      · simp
      · simp; exact ih _
  exact key _ _
theorem dec_rune (t : List UInt8) : (dec t).1 ≤ 1114111 := by
  by_cases ht : t = []
  · subst ht; decide
  · cases h : broken (dec t) with
    | false => exact (dec_whole ht h).1.1
    | true =>
      unfold broken at h
      simp at h
      rw [h.1]; decide
theorem chars_dec (t : List UInt8) : ∀ x ∈ chars t, ∃ u, u ≠ [] ∧ x = dec u := by
  have key : ∀ f t, ∀ x ∈ charsF f t, ∃ u, u ≠ [] ∧ x = dec u := by
    intro f
    induction f with
    | zero => intro t x hx; simp [charsF] at hx
    | succ f ih =>
      intro t x hx
      simp only [charsF] at hx
      split at hx
      · simp at hx
      · rename_i hne
        simp at hx
        rcases hx with hx | hx
        · exact ⟨t, hne, hx⟩
        · exact ih _ x hx
  exact key _ _
theorem chars_bound (t : List UInt8) : ∀ x ∈ chars t, x.1 ≤ 1114111 ∧ 1 ≤ x.2 ∧ x.2 ≤ 4 := fun x hx => by
  obtain ⟨u, _, rfl⟩ := chars_dec t x hx
  exact ⟨dec_rune u, dec_pos u⟩
end Go.Proofs.YtgpmfkedcoiopaaGreatDoor

/-
  Contracts of the document's own answers, layer 2: May, Bytes, number.
-/
namespace Go.Proofs.YtgpmfkedcoiopaaGreatDoor
open Go.RowKit

def mayB (r : Int) : Bool := decide (0 ≤ r) && decide (r ≤ 1114111) && (decide (r < 55296) || decide (57343 < r))
theorem mayB_may (r : Nat) : mayB (r : Int) = true ↔ may r := by
  unfold mayB may
  simp
  omega
theorem ret_bool {a b : Bool} (h : a = b) : Ending.returned (.bool a) = .returned (.bool b) := by rw [h]

set_option maxHeartbeats 400000 in
theorem refMay_any (r : Int) (w : World) :
    Calls Tryz.prog 127 #[.int .i64 r] w fun e w' => e = .returned (.bool (mayB r)) ∧ w = w' := by
  have HM : Hid (mayB r = (decide (0 ≤ r) && decide (r ≤ 1114111) && (decide (r < 55296) || decide (57343 < r)))) := rfl
  by_cases h0 : 0 ≤ r
  · by_cases h1 : r ≤ 1114111
    · by_cases h2 : r < 55296
      · go_enter Tryz.func127, Tryz.ntmps127
        go_wp2
        go_ret
        exact ⟨ret_bool (by rw [HM.out]; simp [h0, h1, h2]), rfl⟩
      · by_cases h3 : 57343 < r
        all_goals
          go_enter Tryz.func127, Tryz.ntmps127
          go_wp2
          go_ret
          exact ⟨ret_bool (by rw [HM.out]; simp [h0, h1, h2, h3]), rfl⟩
    · go_enter Tryz.func127, Tryz.ntmps127
      go_wp2
      go_ret
      exact ⟨ret_bool (by rw [HM.out]; simp; omega), rfl⟩
  · go_enter Tryz.func127, Tryz.ntmps127
    go_wp2
    go_ret
    exact ⟨ret_bool (by rw [HM.out]; simp; omega), rfl⟩

set_option maxRecDepth 4000000 in
set_option maxHeartbeats 1000000 in
theorem refGlyBytes_any (r : Nat) (hr : r ≤ 1114111) (w : World) :
    Calls Tryz.prog 72 #[.int .i64 r] w fun e w' => e = .returned (.string ⟨(enc r).toArray⟩) ∧ Below w.heap.size w w' := by
  by_cases h1 : r < 128
  · have hE : Hid (enc r = [byteOf r]) := if_pos h1
    have hcv := str_new (P := Tryz.prog) w 131 9 5 5 Tryz.underlying131 Tryz.underlying5 Tryz.underlying9 [byteOf r] [.int .u8 (r : Int)]
      (by simp only [List.map_cons, List.map_nil, byteOf]; rw [byt_nat (n := r) (i := (r : Int)) (by omega) (by omega)]) 1 1 rfl
    go_enter Tryz.func72, Tryz.ntmps72
    go_wp2
    go_ret
    exact ⟨by rw [hE.out]; rfl, (Below.refl _ _).alloc (Nat.le_refl _) _⟩
  · by_cases h2 : r < 2048
    · have hE : Hid (enc r = [byteOf (0xC0 + r / 64), byteOf (0x80 + r % 64)]) := by show enc r = _; unfold enc; rw [if_neg h1, if_pos h2]
      have hcv := str_new (P := Tryz.prog) w 131 9 5 5 Tryz.underlying131 Tryz.underlying5 Tryz.underlying9 [byteOf (0xC0 + r / 64), byteOf (0x80 + r % 64)] [.int .u8 (192 + (r : Int) / 64), .int .u8 (128 + (r : Int) % 64)]
        (by simp only [List.map_cons, List.map_nil, byteOf]; rw [byt_nat (n := 0xC0 + r / 64) (i := 192 + (r : Int) / 64) (by omega) (by omega), byt_nat (n := 0x80 + r % 64) (i := 128 + (r : Int) % 64) (by omega) (by omega)]) 2 2 rfl
      go_enter Tryz.func72, Tryz.ntmps72
      go_wp2
      go_ret
      exact ⟨by rw [hE.out]; rfl, (Below.refl _ _).alloc (Nat.le_refl _) _⟩
    · by_cases h3 : r < 65536
      · have hE : Hid (enc r = [byteOf (0xE0 + r / 4096), byteOf (0x80 + r / 64 % 64), byteOf (0x80 + r % 64)]) := by show enc r = _; unfold enc; rw [if_neg h1, if_neg h2, if_pos h3]
        have hcv := str_new (P := Tryz.prog) w 131 9 5 5 Tryz.underlying131 Tryz.underlying5 Tryz.underlying9 [byteOf (0xE0 + r / 4096), byteOf (0x80 + r / 64 % 64), byteOf (0x80 + r % 64)] [.int .u8 (224 + (r : Int) / 4096), .int .u8 (128 + (r : Int) / 64 % 64), .int .u8 (128 + (r : Int) % 64)]
          (by simp only [List.map_cons, List.map_nil, byteOf]; rw [byt_nat (n := 0xE0 + r / 4096) (i := 224 + (r : Int) / 4096) (by omega) (by omega), byt_nat (n := 0x80 + r / 64 % 64) (i := 128 + (r : Int) / 64 % 64) (by omega) (by omega), byt_nat (n := 0x80 + r % 64) (i := 128 + (r : Int) % 64) (by omega) (by omega)]) 3 3 rfl
        go_enter Tryz.func72, Tryz.ntmps72
        go_wp2
        go_ret
        exact ⟨by rw [hE.out]; rfl, (Below.refl _ _).alloc (Nat.le_refl _) _⟩
      · have hE : Hid (enc r = [byteOf (0xF0 + r / 262144), byteOf (0x80 + r / 4096 % 64), byteOf (0x80 + r / 64 % 64), byteOf (0x80 + r % 64)]) := by show enc r = _; unfold enc; rw [if_neg h1, if_neg h2, if_neg h3]
        have hcv := str_new (P := Tryz.prog) w 131 9 5 5 Tryz.underlying131 Tryz.underlying5 Tryz.underlying9 [byteOf (0xF0 + r / 262144), byteOf (0x80 + r / 4096 % 64), byteOf (0x80 + r / 64 % 64), byteOf (0x80 + r % 64)] [.int .u8 (240 + (r : Int) / 262144), .int .u8 (128 + (r : Int) / 4096 % 64), .int .u8 (128 + (r : Int) / 64 % 64), .int .u8 (128 + (r : Int) % 64)]
          (by simp only [List.map_cons, List.map_nil, byteOf]; rw [byt_nat (n := 0xF0 + r / 262144) (i := 240 + (r : Int) / 262144) (by omega) (by omega), byt_nat (n := 0x80 + r / 4096 % 64) (i := 128 + (r : Int) / 4096 % 64) (by omega) (by omega), byt_nat (n := 0x80 + r / 64 % 64) (i := 128 + (r : Int) / 64 % 64) (by omega) (by omega), byt_nat (n := 0x80 + r % 64) (i := 128 + (r : Int) % 64) (by omega) (by omega)]) 4 4 rfl
        go_enter Tryz.func72, Tryz.ntmps72
        go_wp2
        go_ret
        exact ⟨by rw [hE.out]; rfl, (Below.refl _ _).alloc (Nat.le_refl _) _⟩
end Go.Proofs.YtgpmfkedcoiopaaGreatDoor

/-
  The contract of the document's own answer, layer 2: number.
-/
namespace Go.Proofs.YtgpmfkedcoiopaaGreatDoor
open Go.RowKit

theorem numStep_le {n : Nat} {b : UInt8} {k : Nat} (h : n ≤ k) : numStep n b ≤ k * 64 + 63 := by
  unfold numStep; have : b.toNat % 64 < 64 := Nat.mod_lt _ (by decide); omega
theorem headOf_le (n : Nat) (a : UInt8) : headOf n a ≤ 255 := by
  have := a.toNat_lt
  unfold headOf; split <;> (try split) <;> (try split) <;> omega

/-- the number of the first k of up to four bytes -/
def numTo (a : UInt8) (t : List UInt8) (k : Nat) : Nat := (t.take k).foldl numStep (headOf (t.length + 1) a)
theorem numTo_succ (a : UInt8) (t : List UInt8) (k : Nat) (h : k < t.length) : numTo a t (k + 1) = numStep (numTo a t k) t[k] := by
  unfold numTo
  rw [List.take_succ_eq_append_getElem h, List.foldl_append]; rfl
theorem numTo_le (a : UInt8) (t : List UInt8) (k : Nat) (hk : k ≤ t.length) (h3 : t.length ≤ 3) : numTo a t k ≤ 67108863 := by
  have h0 : numTo a t 0 ≤ 255 := headOf_le _ _
  match k, hk with
  | 0, _ => omega
  | 1, hk => rw [numTo_succ a t 0 (by omega)]; have := numStep_le (b := t[0]'(by omega)) h0; omega
  | 2, hk =>
    rw [numTo_succ a t 1 (by omega), numTo_succ a t 0 (by omega)]
    have h1 := numStep_le (b := t[0]'(by omega)) h0
    have := numStep_le (b := t[1]'(by omega)) h1; omega
  | 3, hk =>
    rw [numTo_succ a t 2 (by omega), numTo_succ a t 1 (by omega), numTo_succ a t 0 (by omega)]
    have h1 := numStep_le (b := t[0]'(by omega)) h0
    have h2 := numStep_le (b := t[1]'(by omega)) h1
    have := numStep_le (b := t[2]'(by omega)) h2; omega
  | k + 4, hk => omega
theorem num_numTo (a : UInt8) (t : List UInt8) : num (a :: t) = numTo a t t.length := by unfold num numTo; rw [List.take_length]; rfl

theorem byte_at (S : List UInt8) (k : Nat) (h : k < S.length) : ({ data := S.toArray } : ByteArray)[k]'(by simpa [ByteArray.size] using h) = S[k] := rfl

set_option maxHeartbeats 2000000 in
theorem refNumber_any (a : UInt8) (t : List UInt8) (h3 : t.length ≤ 3) (w : World) :
    Calls Tryz.prog 170 #[.string ⟨(a :: t).toArray⟩] w fun e w' => e = .returned (.int .i64 (num (a :: t) : Nat)) ∧ w = w' := by
  have HF := Lib.hid (num_numTo a t)
  have ha := a.toNat_lt
  have hg0 := byte_at (a :: t) 0 (by simp)
  have hS : Hid (∀ k, k < t.length → ∃ h, ({ data := (a :: t).toArray } : ByteArray)[k + 1]'h = t.getD k 0) := fun k hk => ⟨by simp [ByteArray.size]; exact hk, by
    have := byte_at (a :: t) (k + 1) (by simp; exact hk)
    rw [this]; simp [List.getD, hk]⟩
  have hstart : numTo a t 0 = headOf (t.length + 1) a := rfl
  have hn : t.length = 0 ∨ t.length = 1 ∨ t.length = 2 ∨ t.length = 3 := by omega
  have HT := Lib.hid h3
  clear h3
  rcases hn with hn | hn | hn | hn
  all_goals
    have HN := Lib.hid hn
    rw [hn] at hstart
    simp only [headOf, Nat.reduceAdd, Nat.reduceEqDiff, if_true, if_false, Nat.succ_ne_self] at hstart
    have HS := Lib.hid hstart
    clear hstart
    go_enter Tryz.func170, Tryz.ntmps170
    go_wp2
    go_loop [3, 4] (fun v i => ∃ k : Nat, k ≤ t.length ∧ i = .int .i64 (k + 1 : Nat) ∧ v = .int .i64 (numTo a t k : Nat)) (fun _ i => 4 - (intOf i).toNat)
    case atStart => exact ⟨0, Nat.zero_le _, rfl, by rw [HS.out]; try simp⟩
    case round =>
      obtain ⟨k, hk, rfl, rfl⟩ := hrel
      have hle := numTo_le a t k hk HT.out
      by_cases hlt : k < t.length
      · obtain ⟨hh, hg⟩ := hS.out k hlt
        have HV := Lib.hid (numTo_succ a t k hlt)
        rw [show t.getD k 0 = t[k] by simp [List.getD, hlt]] at hg
        have hb := t[k].toNat_lt
        generalize t[k] = b at *
        generalize numTo a t k = v at *
        rw [hn] at hlt
        go_wp2
        all_goals
          go_round
          case rel => exact ⟨k + 1, by omega, by go_num, by rw [HV.out]; unfold numStep; congr 1; try (simp; try omega)⟩
          case measure => first | (simp [intOf]; done) | (simp [intOf]; omega)
      · have HE : Hid (numTo a t k = num (a :: t)) := by
          show numTo a t k = _
          rw [HF.out, show k = t.length by omega]
        rw [hn] at hlt
        go_wp2
        go_ret
        exact ⟨by rw [← HE.out]; rfl, rfl⟩
end Go.Proofs.YtgpmfkedcoiopaaGreatDoor

/-
  Contracts of the document's own answers, layer 2: one.
-/
namespace Go.Proofs.YtgpmfkedcoiopaaGreatDoor
open Go.RowKit

/-- a sign as the document's struct -/
def signV (a : Nat) (x : Nat × Nat) : Array Value := #[.int .i64 (a : Int), .int .i64 (x.2 : Int), .int .i64 (x.1 : Int), .bool (!broken x)]

theorem text_mid (S : List UInt8) (a n : Nat) : ({ data := S.toArray } : ByteArray).extract a (a + n) = ⟨((S.drop a).take n).toArray⟩ := by
  apply ByteArray.ext
  rw [ByteArray.data_extract]
  apply Array.ext'
  simp

theorem size_sign : (Tryz.prog.info? 196).map (·.size) = some 4 := by kernel_rfl
theorem signV_one (a : Nat) (x : Nat × Nat) : (signV a x).all (·.oneCell') = true := by simp [signV, Value.oneCell']

set_option maxHeartbeats 2000000 in
theorem refOne_any (S : List UInt8) (a : Nat) (h : a < S.length) (hs : S.length ≤ maxLen) (w : World) :
    Calls Tryz.prog 138 #[.string ⟨S.toArray⟩, .int .i64 a] w fun e w' => e = .returned (.agg (signV a (dec (S.drop a)))) ∧ Below w.heap.size w w' := by
  unfold maxLen at hs
  have hne := drop_ne h
  have HNE := Lib.hid hne
  clear hne
  have hlen : (S.drop a).length = S.length - a := List.length_drop
  have HLEN := Lib.hid hlen
  clear hlen
  have hblk := Blk.new w 196 #[.int .i64 0, .int .i64 0, .int .i64 0, .bool false]
  go_enter Tryz.func138, Tryz.ntmps138
  go_wp2
  go_loopw [5] (fun i wr => ∃ k : Nat, 1 ≤ k ∧ k ≤ 5 ∧ i = .int .i64 k ∧ (∀ m, 1 ≤ m → m < k → m ≤ (S.drop a).length → ¬ stands (S.drop a) m) ∧ Blk wr w.heap.size 196 #[.int .i64 0, .int .i64 0, .int .i64 0, .bool false] ∧ Below w.heap.size w wr) (fun i _ => 5 - (intOf i).toNat)
  case atStart => exact ⟨1, by omega, by omega, rfl, fun m h1 h2 => absurd h2 (by omega), hblk, (Below.refl _ _).alloc (Nat.le_refl _) _⟩
  case round =>
    clear hblk
    obtain ⟨k, h1k, hk5, rfl, hno, hbk, hb⟩ := hrel
    have HNO := Lib.hid hno
    clear hno
    have z := hb.size
    by_cases hlt : k ≤ 4 ∧ k ≤ S.length - a
    · obtain ⟨hk4, hkl⟩ := hlt
      obtain ⟨b, t, hx⟩ := List.exists_cons_of_ne_nil (show (S.drop a).take k ≠ [] by
        intro h0; have := congrArg List.length h0; rw [List.length_take, HLEN.out, List.length_nil] at this; omega)
      have ht : t.length ≤ 3 := by
        have := congrArg List.length hx
        rw [List.length_take, List.length_cons] at this; omega
      have hE : ({ data := S.toArray } : ByteArray).extract a (a + k) = ⟨(b :: t).toArray⟩ := by rw [text_mid, hx]
      have HX := Lib.hid hx
      clear hx
      have hNs : stands (S.drop a) k ↔ mayB (num (b :: t) : Nat) = true ∧ enc (num (b :: t)) = b :: t := by
        unfold stands; rw [HX.out, mayB_may]
      generalize hN : num (b :: t) = N at *
      have HN := Lib.hid hN
      clear hN
      by_cases hmay : mayB (N : Int) = true
      · have hle : N ≤ 1114111 := ((mayB_may N).1 hmay).1
        by_cases hst : enc N = b :: t
        · have hstands := hNs.2 ⟨hmay, hst⟩
          have hdec := stands_dec (by rw [HLEN.out]; omega) hstands
          have hwh := stands_whole (by rw [HLEN.out]; omega) hstands
          rw [HX.out, HN.out] at hdec
          rw [hdec] at hwh
          have HD := Lib.hid hdec
          have HW := Lib.hid hwh
          have HS := Lib.hid (show (enc N == b :: t) = true by simp [hst])
          clear hdec hwh hstands hNs hst HNO
          go_wp2_with (first
            | (go_at_call 170; refine (refNumber_any b t ht _).mono ?_; rintro e w1 ⟨rfl, rfl⟩; rw [HN.out])
            | (go_at_call 127; refine (refMay_any _ _).mono ?_; rintro e w1 ⟨rfl, rfl⟩; rw [hmay])
            | (go_at_call 72; refine (refGlyBytes_any N hle _).mono ?_; rintro e w2 ⟨rfl, hb2⟩; have hbk2 := hbk.below hb2 hbk.lt; have hSq := HS.out)
            | ((with_reducible refine at_store 196 (.tmp 4) (.tmp 39) ?_); refine wpList_setRow rfl 196 (.tmp 4) (.tmp 39) rfl w.heap.size (signV a (N, k)) rfl (by unfold signV; rw [HW.out]; rfl) 196 _ hbk2 size_sign rfl (signV_one _ _) ?_; intro w3 hbk3 hg3))
          refine bodyPost_ret (results_cell_row rfl _ _ w.heap.size 196 (signV a (N, k)) (0, 0) _ rfl hbk3 Tryz.underlying196 rfl size_sign) rfl ?_
          have z2 := hb2.size
          exact ⟨by rw [HD.out], (hb.trans (hb2.mono z)).trans (below_of_grown hg3 (by omega) (Nat.le_refl _))⟩
        · have HNO2 : Hid (∀ m, 1 ≤ m → m < k + 1 → m ≤ (S.drop a).length → ¬ stands (S.drop a) m) := fun m h1 h2 h3 => by
            by_cases hmk : m = k
            · subst hmk; intro hh; exact hst (hNs.1 hh).2
            · exact HNO.out m h1 (by omega) h3
          have HS := Lib.hid (show (enc N == b :: t) = false by simp [hst])
          clear hNs hst HNO
          go_wp2_with (first
            | (go_at_call 170; refine (refNumber_any b t ht _).mono ?_; rintro e w1 ⟨rfl, rfl⟩; rw [HN.out])
            | (go_at_call 127; refine (refMay_any _ _).mono ?_; rintro e w1 ⟨rfl, rfl⟩; rw [hmay])
            | (go_at_call 72; refine (refGlyBytes_any N hle _).mono ?_; rintro e w2 ⟨rfl, hb2⟩; have hbk2 := hbk.below hb2 hbk.lt; have hSq := HS.out))
          go_roundw
          case rel => exact ⟨k + 1, by omega, by omega, by go_num, HNO2.out, hbk2, hb.trans (hb2.mono z)⟩
          case measure => simp [intOf]; omega
      · have HNO2 : Hid (∀ m, 1 ≤ m → m < k + 1 → m ≤ (S.drop a).length → ¬ stands (S.drop a) m) := fun m h1 h2 h3 => by
          by_cases hmk : m = k
          · subst hmk; intro hh; exact hmay (hNs.1 hh).1
          · exact HNO.out m h1 (by omega) h3
        have hmf : mayB (N : Int) = false := by simpa using hmay
        clear hNs HNO hmay
        go_wp2_with (first
          | (go_at_call 170; refine (refNumber_any b t ht _).mono ?_; rintro e w1 ⟨rfl, rfl⟩; rw [HN.out])
          | (go_at_call 127; refine (refMay_any _ _).mono ?_; rintro e w1 ⟨rfl, rfl⟩; rw [hmf]))
        go_roundw
        case rel => exact ⟨k + 1, by omega, by omega, by go_num, HNO2.out, hbk, hb⟩
        case measure => simp [intOf]; omega
    · have hdec := dec_none HNE.out (fun m h1 h2 h3 => HNO.out m h1 (by rw [HLEN.out] at h3; omega) h3)
      have HD := Lib.hid hdec
      clear hdec HNO
      by_cases hk4 : k ≤ 4
      all_goals
        go_wp2_with (first
          | ((with_reducible refine at_store 196 (.tmp 4) (.tmp 41) ?_); refine wpList_setRow rfl 196 (.tmp 4) (.tmp 41) rfl w.heap.size (signV a (0xFFFD, 1)) rfl rfl 196 _ hbk size_sign rfl (signV_one _ _) ?_; intro w3 hbk3 hg3))
        refine bodyPost_ret (results_cell_row rfl _ _ w.heap.size 196 (signV a (0xFFFD, 1)) (0, 0) _ rfl hbk3 Tryz.underlying196 rfl size_sign) rfl ?_
        exact ⟨by rw [HD.out], hb.trans (below_of_grown hg3 (by omega) (Nat.le_refl _))⟩
end Go.Proofs.YtgpmfkedcoiopaaGreatDoor

/-
  Contracts of the document's own answers, layer 2: Signs.
-/
namespace Go.Proofs.YtgpmfkedcoiopaaGreatDoor
open Go.RowKit

/-- signs with their places -/
def offs (a : Nat) : List (Nat × Nat) → List (Nat × (Nat × Nat))
  | [] => []
  | x :: l => (a, x) :: offs (a + x.2) l
def flat (L : List (Nat × (Nat × Nat))) : List Value := L.flatMap fun p => (signV p.1 p.2).toList
theorem offs_snoc (a : Nat) (l : List (Nat × Nat)) (x : Nat × Nat) : offs a (l ++ [x]) = offs a l ++ [(a + width l, x)] := by
  induction l generalizing a with
  | nil => simp [offs, width]
  | cons y l ih => simp only [List.cons_append, offs, ih, width, List.map_cons, List.sum_cons]; rw [Nat.add_assoc]
theorem offs_len (a : Nat) (l : List (Nat × Nat)) : (offs a l).length = l.length := by
  induction l generalizing a with
  | nil => rfl
  | cons x l ih => simp [offs, ih]
theorem flat_snoc (L : List (Nat × (Nat × Nat))) (p : Nat × (Nat × Nat)) : flat (L ++ [p]) = flat L ++ (signV p.1 p.2).toList := by simp [flat]
theorem flat_get (L : List (Nat × (Nat × Nat))) (k j : Nat) (hk : k < L.length) (hj : j < 4) : (flat L)[k * 4 + j]? = (signV L[k].1 L[k].2)[j]? := by
  induction L generalizing k with
  | nil => simp at hk
  | cons p L ih =>
    have hl : (signV p.1 p.2).toList.length = 4 := rfl
    cases k with
    | zero =>
      simp only [flat, List.flatMap_cons, Nat.zero_mul, Nat.zero_add]
      rw [List.getElem?_append_left (by omega)]
      simp
    | succ k =>
      simp only [flat, List.flatMap_cons]
      rw [List.getElem?_append_right (by omega), hl, show (k + 1) * 4 + j - 4 = k * 4 + j by omega]
      have := ih k (by simpa using hk)
      simpa [flat] using this

theorem elt_sign : Elt Tryz.prog 134 196 (.agg #[.int .i64 0, .int .i64 0, .int .i64 0, .bool false]) 4 32 := ⟨Tryz.underlying134, by kernel_rfl, rfl, by decide⟩

set_option maxHeartbeats 1000000 in
theorem refSigns_any (S : List UInt8) (hs : S.length ≤ 1000000) (w : World) :
    Calls Tryz.prog 86 #[.string ⟨S.toArray⟩] w fun e w' => ∃ A c, e = .returned (.slice A (chars S).length c) ∧
      w'.ownsRow w.heap.size 196 4 (.slice A (chars S).length c) (chars S).length (flat (offs 0 (chars S))) ∧ Below w.heap.size w w' := by
  go_enter Tryz.func86, Tryz.ntmps86
  go_wp2
  go_loopw [3, 4] (fun v i wr => ∃ (done : List (Nat × Nat)) (a : Nat), i = .int .i64 a ∧ a ≤ S.length ∧ done.length ≤ a ∧ Hid (Read S done a) ∧ wr.ownsRow w.heap.size 196 4 v done.length (flat (offs 0 done)) ∧ Below w.heap.size w wr) (fun _ i _ => S.length - (intOf i).toNat)
  case atStart => exact ⟨[], 0, rfl, Nat.zero_le _, Nat.zero_le _, Read.start S, World.ownsRow_nil _ _ _ _, Below.refl _ _⟩
  case round =>
    obtain ⟨done, a, rfl, hal, hdl, HR, hown, hb⟩ := hrel
    have z := hb.size
    by_cases hlt : a < S.length
    · have hst := HR.out.step hlt
      have hple := dec_pos (S.drop a)
      have hnle := dec_le (drop_ne hlt)
      rw [List.length_drop] at hnle
      have HO : Hid (offs 0 (done ++ [dec (S.drop a)]) = offs 0 done ++ [(a, dec (S.drop a))]) := by
        show offs 0 _ = _
        rw [offs_snoc, HR.out.wide, Nat.zero_add]
      have HST := Lib.hid hst
      clear hst
      obtain ⟨A, c, rfl⟩ := own_form hown
      generalize hd : dec (S.drop a) = x at *
      have HD := Lib.hid hd
      clear hd
      go_wp2_with fail
      refine (refOne_any S a hlt (by unfold maxLen; omega) _).mono ?_
      rintro e w1 ⟨rfl, hb1⟩
      have z1 := hb1.size
      rw [HD.out]
      unfold signV
      have hown1 := own_keep hown hb1 (by omega)
      have hlo := hown.lt
      have hown2 := hown1.alloc (.cells #[.int .i64 (a : Int), .int .i64 (x.2 : Int), .int .i64 (x.1 : Int), .bool (!broken x)] 196)
      have hbx := Blk.new w1 196 #[.int .i64 (a : Int), .int .i64 (x.2 : Int), .int .i64 (x.1 : Int), .bool (!broken x)]
      clear hown hown1
      go_wp2_with (at_builtin; refine wpList_pushN rfl (.tmp 13) (.tmp 15) _ rfl w.heap.size 196 _ 4 32 elt_sign 196 _ _ _ rfl hown2 [.int .i64 (a : Int), .int .i64 (x.2 : Int), .int .i64 (x.1 : Int), .bool (!broken x)] (w1.heap.size + 1) (by simp) rfl rfl (by simp [Value.oneCell']) (by unfold maxLen; omega) (by omega) (by simp; omega) ?_; intro v3 w3 hown3 hb3 hfar3; have hbx3 : Blk w3 w1.heap.size 196 #[.int .i64 (a : Int), .int .i64 (x.2 : Int), .int .i64 (x.1 : Int), .bool (!broken x)] := (hfar3 _ (by simp) (fun e => by have := hlo _ e; omega)).trans hbx; have c1 : w3.cell? ⟨w1.heap.size, 1, none⟩ = some (.int .i64 (x.2 : Int)) := by rw [hbx3.cell]; rfl)
      go_roundw
      case rel => exact ⟨done ++ [x], a + x.2, by go_num, by omega, by simp; omega, HST.out, by rw [HO.out, flat_snoc, List.length_append]; exact hown3, (hb.trans (hb1.mono z)).trans (((Below.refl _ _).alloc (by omega) _).trans hb3)⟩
      case measure => simp [intOf]; omega
    · have HE := Lib.hid (HR.out.end_ (by omega))
      obtain ⟨A, c, rfl⟩ := own_form hown
      go_wp2
      go_ret
      exact ⟨A, c, by rw [HE.out]; rfl, by rw [HE.out]; exact hown, hb⟩
end Go.Proofs.YtgpmfkedcoiopaaGreatDoor

/-
  Contracts of the document's own answers, layer 2: Starts, Valid, which, begins, Align, Next, Prev, At.
-/
namespace Go.Proofs.YtgpmfkedcoiopaaGreatDoor
open Go.RowKit

theorem add_field (a : Addr) (n j : Nat) (hj : 0 < j) : a.add (n + j) = ⟨(a.add n).block, (a.add n).off + j, none⟩ := by
  unfold Addr.add
  by_cases hn : n = 0
  · subst hn; simp; omega
  · simp [hn]; omega
theorem offs_get (a : Nat) (l : List (Nat × Nat)) (k : Nat) (h : k < l.length) : (offs a l)[k]'(by rw [offs_len]; exact h) = (a + width (l.take k), l[k]) := by
  induction l generalizing a k with
  | nil => simp at h
  | cons x l ih =>
    cases k with
    | zero => simp [offs, width]
    | succ k =>
      have := ih (a + x.2) k (by simpa using h)
      simp only [offs, List.getElem_cons_succ, this, List.take_succ_cons, width, List.map_cons, List.sum_cons]
      rw [Nat.add_assoc]
/-- the four cells of the k-th sign -/
theorem sign_cells {w : World} {B a : Nat} {A : Option Addr} {l : List (Nat × Nat)} {k : Nat} (h : Row w B A (flat (offs a l))) (hk : k < l.length) :
    ∃ ad, A = some ad ∧ ad.block < B ∧ w.cell? (ad.add (k * 4)) = some (.int .i64 ((a + width (l.take k) : Nat) : Int)) ∧ w.cell? ⟨(ad.add (k * 4)).block, (ad.add (k * 4)).off + 1, none⟩ = some (.int .i64 (l[k].2 : Int)) ∧
      w.cell? ⟨(ad.add (k * 4)).block, (ad.add (k * 4)).off + 2, none⟩ = some (.int .i64 (l[k].1 : Int)) ∧ w.cell? ⟨(ad.add (k * 4)).block, (ad.add (k * 4)).off + 3, none⟩ = some (.bool (!broken l[k])) := by
  have hk' : k < (offs a l).length := by rw [offs_len]; exact hk
  have g0 := flat_get (offs a l) k 0 hk' (by omega)
  have g1 := flat_get (offs a l) k 1 hk' (by omega)
  have g2 := flat_get (offs a l) k 2 hk' (by omega)
  have g3 := flat_get (offs a l) k 3 hk' (by omega)
  rw [offs_get a l k hk] at g0 g1 g2 g3
  obtain ⟨ad, e, hb, c0⟩ := h.at_ (g0.trans rfl)
  obtain ⟨ad1, e1, _, c1⟩ := h.at_ (g1.trans rfl)
  obtain ⟨ad2, e2, _, c2⟩ := h.at_ (g2.trans rfl)
  obtain ⟨ad3, e3, _, c3⟩ := h.at_ (g3.trans rfl)
  subst e
  injection e1 with e1
  injection e2 with e2
  injection e3 with e3
  subst e1 e2 e3
  rw [add_field _ _ _ (by omega)] at c1 c2 c3
  exact ⟨ad, rfl, hb, c0, c1, c2, c3⟩

theorem elt_int : Elt Tryz.prog 184 3 (.int .i64 0) 1 8 := ⟨Tryz.underlying184, by kernel_rfl, rfl, by decide⟩
def intn (n : Nat) : Value := .int .i64 (n : Int)

theorem startsAt_take (a : Nat) (l : List (Nat × Nat)) (k : Nat) (h : k < l.length) : startsAt a (l.take (k + 1)) = startsAt a (l.take k) ++ [a + width (l.take k)] := by
  rw [List.take_succ_eq_append_getElem h, startsAt_append]; rfl

set_option maxHeartbeats 1000000 in
theorem refStarts_any (S : List UInt8) (hs : S.length ≤ 1000000) (w : World) :
    Calls Tryz.prog 186 #[.string ⟨S.toArray⟩] w fun e w' => ∃ A c, e = .returned (.slice A (startsAt 0 (chars S)).length c) ∧
      w'.ownsRow w.heap.size 3 1 (.slice A (startsAt 0 (chars S)).length c) (startsAt 0 (chars S)).length ((startsAt 0 (chars S)).map intn) ∧ Below w.heap.size w w' := by
  go_enter Tryz.func186, Tryz.ntmps186
  go_wp2_with fail
  refine (refSigns_any S hs _).mono ?_
  rintro e w1 ⟨A, c, rfl, hown, hb1⟩
  have hrow := Row.of_own hown
  have hcl := chars_len S
  have z1 := hb1.size
  clear hown
  go_wp2_with fail
  go_loopw [4, 5] (fun v i wr => ∃ k : Nat, k ≤ (chars S).length ∧ i = .int .i64 k ∧ wr.ownsRow w1.heap.size 3 1 v k ((startsAt 0 ((chars S).take k)).map intn) ∧ Below w1.heap.size w1 wr) (fun _ i _ => (chars S).length - (intOf i).toNat)
  case atStart => exact ⟨0, Nat.zero_le _, rfl, World.ownsRow_nil _ _ _ _, Below.refl _ _⟩
  case round =>
    obtain ⟨k, hk, rfl, hown, hb⟩ := hrel
    have z := hb.size
    by_cases hlt : k < (chars S).length
    · obtain ⟨ad, rfl, hbl, c0, c1, c2, c3⟩ := sign_cells (hrow.below hb) hlt
      have HT := Lib.hid (startsAt_take 0 (chars S) k hlt)
      rw [Nat.zero_add] at c0
      obtain ⟨A1, c1', rfl⟩ := own_form hown
      clear c1 c2 c3
      go_wp2_with (at_builtin; refine wpList_push rfl _ _ _ rfl w1.heap.size 3 _ 8 elt_int _ _ _ _ rfl hown (.int .i64 ((width ((chars S).take k) : Nat) : Int)) rfl rfl (by unfold maxLen; omega) (by omega) z ?_; intro v2 w2 hown2 hb2)
      go_roundw
      case rel => exact ⟨k + 1, by omega, by go_num, by rw [HT.out]; simpa [intn] using hown2, hb.trans hb2⟩
      case measure => simp [intOf]; omega
    · obtain rfl : k = (chars S).length := by omega
      rw [List.take_length] at hown
      have HL : Hid ((startsAt 0 (chars S)).length = (chars S).length) := startsAt_len _ _
      obtain ⟨A1, c1', rfl⟩ := own_form hown
      go_wp2
      go_ret
      exact ⟨A1, c1', by rw [HL.out]; rfl, by rw [HL.out]; exact own_base hown z1, hb1.trans (hb.mono z1)⟩
end Go.Proofs.YtgpmfkedcoiopaaGreatDoor

/-
  Contracts of the document's own answers, layer 2: which, begins, Align, Next, Prev, At.
-/
namespace Go.Proofs.YtgpmfkedcoiopaaGreatDoor
open Go.RowKit

/-- the number of the sign in which a place lies; how many there are, if it lies behind them -/
structure Which (l : List (Nat × Nat)) (p : Int) (i : Nat) : Prop where
  le : i ≤ l.length
  ahead : ∀ j, j < i → ((width (l.take (j + 1)) : Nat) : Int) ≤ p
  here : i < l.length → p < ((width (l.take (i + 1)) : Nat) : Int)
theorem width_take_mono (l : List (Nat × Nat)) {i j : Nat} (h : i ≤ j) : width (l.take i) ≤ width (l.take j) := by
  have e : l.take j = l.take i ++ (l.drop i).take (j - i) := by
    rw [← List.take_add]; congr 1; omega
  rw [e, width_append]; omega
theorem Which.unique {l : List (Nat × Nat)} {p : Int} {i j : Nat} (h1 : Which l p i) (h2 : Which l p j) : i = j := by
  rcases Nat.lt_trichotomy i j with h | h | h
  · have a := h1.here (by have := h2.le; omega)
    have b := h2.ahead i h
    omega
  · exact h
  · have a := h2.here (by have := h1.le; omega)
    have b := h1.ahead j h
    omega
theorem width_le_take (l : List (Nat × Nat)) (k : Nat) : width (l.take k) ≤ width l := by
  have := width_take_mono l (show k ≤ max k l.length by omega)
  rw [List.take_of_length_le (i := max k l.length) (by omega)] at this
  exact this
theorem width_succ (l : List (Nat × Nat)) (k : Nat) (h : k < l.length) : width (l.take (k + 1)) = width (l.take k) + l[k].2 := by
  rw [List.take_succ_eq_append_getElem h, width_append]; simp [width]
theorem width_chars (S : List UInt8) : width (chars S) = S.length := by
  have key : ∀ (n : Nat) (a : Nat) (done : List (Nat × Nat)), S.length - a ≤ n → Read S done a → width (chars S) = S.length := by
    intro n
    induction n with
    | zero =>
      intro a done h hr
      rw [hr.end_ (by omega), hr.wide]
      have := hr.le; omega
    | succ n ih =>
      intro a done h hr
      by_cases hlt : a < S.length
      · have := (dec_pos (S.drop a)).1
        exact ih _ _ (by omega) (hr.step hlt)
      · rw [hr.end_ (by omega), hr.wide]
        have := hr.le; omega
  exact key S.length 0 [] (by omega) (Read.start S)

set_option maxHeartbeats 1000000 in
theorem refWhich_any (A : Option Addr) (c B : Nat) (l : List (Nat × Nat)) (hl : l.length ≤ 1000000) (hw : width l ≤ 1000000) (p : Int) (w : World) (h : Row w B A (flat (offs 0 l))) :
    Calls Tryz.prog 88 #[.slice A l.length c, .int .i64 p] w fun e w' => ∃ i : Nat, e = .returned (.int .i64 i) ∧ Which l p i ∧ Below w.heap.size w w' ∧ Row w' B A (flat (offs 0 l)) := by
  go_enter Tryz.func88, Tryz.ntmps88
  go_wp2
  go_loopw [5] (fun i wr => ∃ k : Nat, k ≤ l.length ∧ i = .int .i64 k ∧ Hid (∀ j, j < k → ((width (l.take (j + 1)) : Nat) : Int) ≤ p) ∧ Row wr B A (flat (offs 0 l)) ∧ Below w.heap.size w wr) (fun i _ => l.length - (intOf i).toNat)
  case atStart => exact ⟨0, Nat.zero_le _, rfl, fun j hj => absurd hj (by omega), h, Below.refl _ _⟩
  case round =>
    obtain ⟨k, hk, rfl, HA, hrow, hb⟩ := hrel
    by_cases hlt : k < l.length
    · obtain ⟨ad, rfl, hbl, c0, c1, c2, c3⟩ := sign_cells hrow hlt
      rw [Nat.zero_add] at c0
      have HW := Lib.hid (width_succ l k hlt)
      have hle := width_le_take l (k + 1)
      rw [HW.out] at hle
      have HT := Lib.hid (fun (i : Nat) => width_succ l i)
      generalize l[k] = x at *
      have hkI : (k : Int) < (l.length : Int) := by omega
      have hk0 : (0 : Int) ≤ (k : Int) := by omega
      clear c2 c3
      by_cases hp : p < ((width (l.take k) : Nat) : Int) + (x.2 : Int)
      · go_wp2_with fail
        go_quiet (fail)
        go_wp2
        go_ret
        refine ⟨k, rfl, ⟨by omega, HA.out, fun _ => by rw [HW.out]; omega⟩, below_drewN hb _, hrow.drewN _⟩
      · go_wp2_with fail
        go_quiet (fail)
        go_wp2
        go_roundw
        case rel =>
          refine ⟨k + 1, by omega, by go_num, fun j hj => ?_, hrow.drewN _, below_drewN hb _⟩
          by_cases hjk : j = k
          · subst hjk; rw [HW.out]; omega
          · exact HA.out j (by omega)
        case measure => simp [intOf]; omega
    · obtain rfl : k = l.length := by omega
      go_wp2
      go_ret
      exact ⟨l.length, rfl, ⟨Nat.le_refl _, HA.out, fun h => absurd h (by omega)⟩, hb, hrow⟩

set_option maxHeartbeats 400000 in
theorem refAt_any (S : List UInt8) (hs : S.length ≤ 1000000) (p : Int) (w : World) :
    Calls Tryz.prog 112 #[.string ⟨S.toArray⟩, .int .i64 p] w fun e w' => ∃ i : Nat, e = .returned (.tuple #[.int .i64 (((chars S).getD i (0, 0)).1 : Nat), .int .i64 (((chars S).getD i (0, 0)).2 : Nat)]) ∧ Which (chars S) p i ∧ Below w.heap.size w w' := by
  have hcl := chars_len S
  have hwc : width (chars S) ≤ 1000000 := by rw [width_chars]; exact hs
  go_enter Tryz.func112, Tryz.ntmps112
  go_wp2_with fail
  refine (refSigns_any S hs _).mono ?_
  rintro e w1 ⟨A, c, rfl, hown, hb1⟩
  have hrow := Row.of_own hown
  have z1 := hb1.size
  clear hown
  go_wp2_with fail
  refine (refWhich_any A c _ (chars S) (by omega) hwc p _ hrow).mono ?_
  rintro e w2 ⟨i, rfl, hw, hb2, hrow2⟩
  have hi := hw.le
  by_cases hlt : i < (chars S).length
  · obtain ⟨ad, rfl, hbl, c0, c1, c2, c3⟩ := sign_cells hrow2 hlt
    have HG : Hid ((chars S).getD i (0, 0) = (chars S)[i]) := by show List.getD _ _ _ = _; simp [List.getD, hlt]
    generalize (chars S)[i] = x at *
    have hiI : (i : Int) < ((chars S).length : Int) := by omega
    have hi0 : (0 : Int) ≤ (i : Int) := by omega
    go_wp2_with fail
    go_quiet (fail)
    go_wp2
    go_ret2
    exact ⟨i, by rw [HG.out]; rfl, hw, below_drewN (hb1.trans (hb2.mono z1)) _⟩
  · have HG : Hid ((chars S).getD i (0, 0) = (0, 0)) := by show List.getD _ _ _ = _; simp [List.getD, hlt]
    go_wp2_with fail
    go_ret2
    exact ⟨i, by rw [HG.out]; rfl, hw, hb1.trans (hb2.mono z1)⟩
end Go.Proofs.YtgpmfkedcoiopaaGreatDoor

/-
  The contract of the document's own answer, layer 2: Encode.
-/
namespace Go.Proofs.YtgpmfkedcoiopaaGreatDoor
open Go.RowKit

/-- the bytes of any number -/
def encB (r : Int) : List UInt8 := if mayB r = true then enc r.toNat else enc 0xFFFD
def encAll (l : List Int) : List UInt8 := l.flatMap encB
theorem encB_len (r : Int) : 1 ≤ (encB r).length ∧ (encB r).length ≤ 4 := by unfold encB; split <;> exact enc_len _
def runz (n : Int) : Value := .int .i32 n
end Go.Proofs.YtgpmfkedcoiopaaGreatDoor

/-
  What package glyph's functions are to answer, as one bundle; its proof lies with the landed code's contracts. The law package's alive.
-/
namespace Go.Proofs.YtgpmfkedcoiopaaGreatDoor
open Go.RowKit

end Go.Proofs.YtgpmfkedcoiopaaGreatDoor

/-
  Plain facts for the statements of layer 2: encodings, texts one behind the other, texts and their runes.
-/
namespace Go.Proofs.YtgpmfkedcoiopaaGreatDoor

def fixR (r : Int) : Nat := if mayB r = true then r.toNat else 0xFFFD
theorem encB_fix (r : Int) : encB r = enc (fixR r) := by unfold encB fixR; split <;> rfl

def encSign (r : Int) : Nat × Nat := (fixR r, (enc (fixR r)).length)
def runes (l : List (Nat × Nat)) : List Int := l.map fun x => (x.1 : Int)
theorem fixR_nat {r : Nat} (h : may r) : fixR (r : Int) = r := by
  unfold fixR
  rw [if_pos ((mayB_may r).2 h)]; simp
/-- a text of whole signs is its runes' bytes; any other is longer then -/
theorem back_aux : ∀ (n : Nat) (s : List UInt8), s.length ≤ n →
    (((chars s).all fun x => !broken x) = true → encAll (runes (chars s)) = s) ∧ (s.length ≤ (encAll (runes (chars s))).length) ∧
    (((chars s).all fun x => !broken x) = false → s.length < (encAll (runes (chars s))).length) := by
  intro n
  induction n with
  | zero =>
    intro s h
    have : s = [] := List.eq_nil_of_length_eq_zero (by omega)
    subst this
    refine ⟨fun _ => rfl, by simp, fun h => ?_⟩
    rw [chars_nil] at h; cases h
  | succ n ih =>
    intro s h
    by_cases hs : s = []
    · subst hs
      refine ⟨fun _ => rfl, by simp, fun h => ?_⟩
      rw [chars_nil] at h; cases h
    · have hp := dec_pos s
      have hle := dec_le hs
      have hpos := List.length_pos_iff.2 hs
      obtain ⟨h1, h2, h3⟩ := ih (s.drop (dec s).2) (by rw [List.length_drop]; omega)
      have hlen : (s.drop (dec s).2).length = s.length - (dec s).2 := List.length_drop
      rw [chars_cons hs]
      have e : encAll (runes (dec s :: chars (s.drop (dec s).2))) = encB ((dec s).1 : Int) ++ encAll (runes (chars (s.drop (dec s).2))) := by simp [encAll, runes]
      rw [e, List.length_append]
      cases hb : broken (dec s) with
      | false =>
        obtain ⟨w1, w2, w3⟩ := dec_whole hs hb
        have e2 : encB ((dec s).1 : Int) = s.take (dec s).2 := by rw [encB_fix, fixR_nat w1, w3]
        have e3 : (encB ((dec s).1 : Int)).length = (dec s).2 := by rw [e2, List.length_take]; omega
        rw [List.all_cons, hb]
        refine ⟨fun hv => ?_, by omega, fun hv => ?_⟩
        · rw [h1 (by simpa using hv), e2, List.take_append_drop]
        · have := h3 (by simpa using hv)
          omega
      | true =>
        have hb' := hb
        unfold broken at hb'
        simp at hb'
        have e3 : (encB ((dec s).1 : Int)).length = 3 := by rw [hb'.1]; decide
        rw [List.all_cons, hb]
        refine ⟨fun hv => by simp at hv, by omega, fun _ => by omega⟩
theorem back (s : List UInt8) : (encAll (runes (chars s)) == s) = ((chars s).all fun x => !broken x) := by
  obtain ⟨h1, _, h3⟩ := back_aux s.length s (Nat.le_refl _)
  cases hv : (chars s).all fun x => !broken x with
  | true => rw [h1 hv]; simp
  | false =>
    have := h3 hv
    simp
    intro h
    rw [h] at this
    omega

/-- which sign a place within the i-th sign lies in -/
theorem which_in {l : List (Nat × Nat)} {i : Nat} (hi : i < l.length) {p : Int} (h1 : ((width (l.take i) : Nat) : Int) ≤ p) (h2 : p < ((width (l.take (i + 1)) : Nat) : Int)) : Which l p i :=
  ⟨by omega, fun j hj => by have := width_take_mono l (show j + 1 ≤ i by omega); omega, fun _ => h2⟩
end Go.Proofs.YtgpmfkedcoiopaaGreatDoor
