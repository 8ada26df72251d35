/-
  Plain facts on UTF-8: what stands at the head of bytes, against its encoding. No program here.
-/
import Derived.Test.YtnkhlallnblfmaaWords
namespace Go.Proofs.Ytnkhlallnblfmaa

/-- what stands at the head of bytes: its rune, and how many bytes it has; as the model reads it -/
def dec (t : List UInt8) : Nat × Nat :=
  let at' (k : Nat) : Nat := (t.getD k 0).toNat
  let cont (k : Nat) : Bool := decide (k < t.length) && at' k / 64 == 2
  let b0 := at' 0
  if b0 < 0x80 then (b0, 1)
  else if b0 / 32 == 6 && cont 1 then
    let c := (b0 % 32) * 64 + at' 1 % 64
    if c ≥ 0x80 then (c, 2) else (0xFFFD, 1)
  else if b0 / 16 == 14 && cont 1 && cont 2 then
    let c := (b0 % 16) * 4096 + (at' 1 % 64) * 64 + at' 2 % 64
    if c ≥ 0x800 && Utf8.valid c then (c, 3) else (0xFFFD, 1)
  else if b0 / 8 == 30 && cont 1 && cont 2 && cont 3 then
    let c := (b0 % 8) * 262144 + (at' 1 % 64) * 4096 + (at' 2 % 64) * 64 + at' 3 % 64
    if c ≥ 0x10000 && Utf8.valid c then (c, 4) else (0xFFFD, 1)
  else (0xFFFD, 1)

theorem get_drop (S : List UInt8) (i k : Nat) : ({ data := S.toArray } : ByteArray).get! (i + k) = (S.drop i).getD k 0 := by
  show S.toArray[i + k]! = _
  rw [List.getD_eq_getElem?_getD, List.getElem?_drop]
  simp [getElem!_def]
  cases S[i + k]? <;> rfl
theorem decode_drop (S : List UInt8) (i : Nat) : Utf8.decode ⟨S.toArray⟩ i = dec (S.drop i) := by
  have hg := fun k => get_drop S i k
  have hs : ∀ k, decide (i + k < ({ data := S.toArray } : ByteArray).size) = decide (k < (S.drop i).length) := fun k => by
    have : ({ data := S.toArray } : ByteArray).size = S.length := rfl
    rw [this, List.length_drop]
    by_cases h : i + k < S.length
    · rw [decide_eq_true h, decide_eq_true (by omega)]
    · rw [decide_eq_false h, decide_eq_false (by omega)]
  simp only [Utf8.decode, dec, hg, hs, Utf8.runeError]

def may (r : Nat) : Prop := r ≤ 0x10FFFF ∧ (r < 0xD800 ∨ 0xDFFF < r)
theorem valid_may (r : Nat) : Utf8.valid (r : Int) = true ↔ may r := by
  unfold Utf8.valid may
  simp
  omega
def byteOf (n : Nat) : UInt8 := UInt8.ofNat n
/-- the bytes of a rune -/
def enc (r : Nat) : List UInt8 :=
  if r < 0x80 then [byteOf r]
  else if r < 0x800 then [byteOf (0xC0 + r / 64), byteOf (0x80 + r % 64)]
  else if r < 0x10000 then [byteOf (0xE0 + r / 4096), byteOf (0x80 + r / 64 % 64), byteOf (0x80 + r % 64)]
  else [byteOf (0xF0 + r / 262144), byteOf (0x80 + r / 4096 % 64), byteOf (0x80 + r / 64 % 64), byteOf (0x80 + r % 64)]
theorem byteOf_nat {n : Nat} (h : n < 256) : (byteOf n).toNat = n := by unfold byteOf; rw [UInt8.toNat_ofNat', Nat.mod_eq_of_lt h]
theorem byteOf_toNat (b : UInt8) : byteOf b.toNat = b := by unfold byteOf; simp
theorem byteOf_eq {n : Nat} {b : UInt8} (h : n = b.toNat) : byteOf n = b := by rw [h, byteOf_toNat]
theorem enc_len (r : Nat) : 1 ≤ (enc r).length ∧ (enc r).length ≤ 4 := by unfold enc; split <;> (try split) <;> (try split) <;> simp

/-- an encoding is read back, whatever stands behind it -/
theorem dec_enc (r : Nat) (hr : may r) (t : List UInt8) : dec (enc r ++ t) = (r, (enc r).length) := by
  have hv := (valid_may r).2 hr
  unfold may at hr
  by_cases h1 : r < 0x80
  · have e : enc r = [byteOf r] := if_pos h1
    rw [e]
    simp only [dec, List.cons_append, List.nil_append, List.getD_cons_zero, byteOf_nat (show r < 256 by omega), h1, if_true, List.length_cons, List.length_nil]
  · by_cases h2 : r < 0x800
    · have e : enc r = [byteOf (0xC0 + r / 64), byteOf (0x80 + r % 64)] := by unfold enc; rw [if_neg h1, if_pos h2]
      rw [e]
      simp only [dec, List.cons_append, List.nil_append, List.getD_cons_zero, List.getD_cons_succ, byteOf_nat (show 0xC0 + r / 64 < 256 by omega), byteOf_nat (show 0x80 + r % 64 < 256 by omega), List.length_cons, List.length_nil]
      rw [if_neg (by omega), if_pos (by simp; omega), if_pos (by omega)]
      simp; omega
    · by_cases h3 : r < 0x10000
      · have e : enc r = [byteOf (0xE0 + r / 4096), byteOf (0x80 + r / 64 % 64), byteOf (0x80 + r % 64)] := by unfold enc; rw [if_neg h1, if_neg h2, if_pos h3]
        rw [e]
        simp only [dec, List.cons_append, List.nil_append, List.getD_cons_zero, List.getD_cons_succ, byteOf_nat (show 0xE0 + r / 4096 < 256 by omega), byteOf_nat (show 0x80 + r / 64 % 64 < 256 by omega), byteOf_nat (show 0x80 + r % 64 < 256 by omega), List.length_cons, List.length_nil]
        have ec : (0xE0 + r / 4096) % 16 * 4096 + (0x80 + r / 64 % 64) % 64 * 64 + (0x80 + r % 64) % 64 = r := by omega
        rw [ec, hv]
        rw [if_neg (by omega), if_neg (by simp; omega), if_pos (by simp; omega), if_pos (by simp; omega)]
      · have e : enc r = [byteOf (0xF0 + r / 262144), byteOf (0x80 + r / 4096 % 64), byteOf (0x80 + r / 64 % 64), byteOf (0x80 + r % 64)] := by unfold enc; rw [if_neg h1, if_neg h2, if_neg h3]
        rw [e]
        simp only [dec, List.cons_append, List.nil_append, List.getD_cons_zero, List.getD_cons_succ, byteOf_nat (show 0xF0 + r / 262144 < 256 by omega), byteOf_nat (show 0x80 + r / 4096 % 64 < 256 by omega), byteOf_nat (show 0x80 + r / 64 % 64 < 256 by omega), byteOf_nat (show 0x80 + r % 64 < 256 by omega), List.length_cons, List.length_nil]
        have ec : (0xF0 + r / 262144) % 8 * 262144 + (0x80 + r / 4096 % 64) % 64 * 4096 + (0x80 + r / 64 % 64) % 64 * 64 + (0x80 + r % 64) % 64 = r := by omega
        rw [ec, hv]
        rw [if_neg (by omega), if_neg (by simp; omega), if_neg (by simp; omega), if_pos (by simp; omega), if_pos (by simp; omega)]

def broken (x : Nat × Nat) : Bool := decide (x.1 = 0xFFFD ∧ x.2 = 1)

/-- what is read whole is an encoding -/
theorem dec_whole {t : List UInt8} (ht : t ≠ []) (h : broken (dec t) = false) : may (dec t).1 ∧ (dec t).2 ≤ t.length ∧ enc (dec t).1 = t.take (dec t).2 := by
  obtain ⟨a, t, rfl⟩ := List.exists_cons_of_ne_nil ht
  have ha : a.toNat < 256 := a.toNat_lt
  revert h
  simp only [dec]
  simp only [List.getD_cons_zero]
  by_cases h1 : a.toNat < 0x80
  · simp only [h1, if_true]
    intro _
    refine ⟨?_, by simp, ?_⟩
    · unfold may; omega
    · unfold enc; rw [if_pos h1, byteOf_toNat]; rfl
  · simp only [h1, if_false]
    by_cases h2 : (a.toNat / 32 == 6 && (decide (1 < (a :: t).length) && ((a :: t).getD 1 0).toNat / 64 == 2)) = true
    · rw [if_pos h2]
      simp only [Bool.and_eq_true, beq_iff_eq, decide_eq_true_iff] at h2
      match t, h2 with
      | b :: t, h2 =>
        have hb : b.toNat < 256 := b.toNat_lt
        simp only [List.getD_cons_zero, List.getD_cons_succ] at h2 ⊢
        by_cases hc : (a.toNat % 32) * 64 + b.toNat % 64 ≥ 0x80
        · rw [if_pos hc]
          intro _
          refine ⟨?_, by simp, ?_⟩
          · unfold may; simp only; omega
          · simp only
            unfold enc
            rw [if_neg (by omega), if_pos (by omega), byteOf_eq (b := a) (by omega), byteOf_eq (b := b) (by omega)]; rfl
        · rw [if_neg hc]; intro h; simp [broken] at h
      | [], h2 => simp at h2
    · rw [if_neg h2]
      by_cases h3 : (a.toNat / 16 == 14 && (decide (1 < (a :: t).length) && ((a :: t).getD 1 0).toNat / 64 == 2) && (decide (2 < (a :: t).length) && ((a :: t).getD 2 0).toNat / 64 == 2)) = true
      · rw [if_pos h3]
        simp only [Bool.and_eq_true, beq_iff_eq, decide_eq_true_iff] at h3
        match t, h3 with
        | b :: c :: t, h3 =>
          have hb : b.toNat < 256 := b.toNat_lt
          have hc0 : c.toNat < 256 := c.toNat_lt
          simp only [List.getD_cons_zero, List.getD_cons_succ] at h3 ⊢
          by_cases hc : (decide ((a.toNat % 16) * 4096 + (b.toNat % 64) * 64 + c.toNat % 64 ≥ 0x800) && Utf8.valid (((a.toNat % 16) * 4096 + (b.toNat % 64) * 64 + c.toNat % 64 : Nat) : Int)) = true
          · rw [if_pos hc]
            intro _
            simp only [Bool.and_eq_true, decide_eq_true_iff] at hc
            have hm := (valid_may _).1 hc.2
            refine ⟨hm, by simp, ?_⟩
            simp only
            unfold enc
            rw [if_neg (by omega), if_neg (by omega), if_pos (by omega), byteOf_eq (b := a) (by omega), byteOf_eq (b := b) (by omega), byteOf_eq (b := c) (by omega)]; rfl
          · rw [if_neg hc]; intro h; simp [broken] at h
        | [b], h3 => simp at h3
        | [], h3 => simp at h3
      · rw [if_neg h3]
        by_cases h4 : (a.toNat / 8 == 30 && (decide (1 < (a :: t).length) && ((a :: t).getD 1 0).toNat / 64 == 2) && (decide (2 < (a :: t).length) && ((a :: t).getD 2 0).toNat / 64 == 2) && (decide (3 < (a :: t).length) && ((a :: t).getD 3 0).toNat / 64 == 2)) = true
        · rw [if_pos h4]
          simp only [Bool.and_eq_true, beq_iff_eq, decide_eq_true_iff] at h4
          match t, h4 with
          | b :: c :: d :: t, h4 =>
            have hb : b.toNat < 256 := b.toNat_lt
            have hc0 : c.toNat < 256 := c.toNat_lt
            have hd0 : d.toNat < 256 := d.toNat_lt
            simp only [List.getD_cons_zero, List.getD_cons_succ] at h4 ⊢
            by_cases hc : (decide ((a.toNat % 8) * 262144 + (b.toNat % 64) * 4096 + (c.toNat % 64) * 64 + d.toNat % 64 ≥ 0x10000) && Utf8.valid (((a.toNat % 8) * 262144 + (b.toNat % 64) * 4096 + (c.toNat % 64) * 64 + d.toNat % 64 : Nat) : Int)) = true
            · rw [if_pos hc]
              intro _
              simp only [Bool.and_eq_true, decide_eq_true_iff] at hc
              have hm := (valid_may _).1 hc.2
              refine ⟨hm, by simp, ?_⟩
              simp only
              unfold enc
              unfold may at hm
              rw [if_neg (by omega), if_neg (by omega), if_neg (by omega), byteOf_eq (b := a) (by omega), byteOf_eq (b := b) (by omega), byteOf_eq (b := c) (by omega), byteOf_eq (b := d) (by omega)]; rfl
            · rw [if_neg hc]; intro h; simp [broken] at h
          | [b, c], h4 => simp at h4
          | [b], h4 => simp at h4
          | [], h4 => simp at h4
        · rw [if_neg h4]; intro h; simp [broken] at h

theorem enc_ne (r : Nat) : enc r ≠ [] := by have := enc_len r; intro h; rw [h] at this; simp at this
theorem enc_broken (r : Nat) (n : Nat) (h : n = (enc r).length) : broken (r, n) = false := by
  unfold broken
  simp only [decide_eq_false_iff_not]
  intro ⟨h1, h2⟩
  subst h1
  rw [h2] at h
  exact absurd h (by decide)
theorem dec_pos (t : List UInt8) : 1 ≤ (dec t).2 ∧ (dec t).2 ≤ 4 := by
  simp only [dec]
  repeat' split
  all_goals simp
theorem dec_le {t : List UInt8} (ht : t ≠ []) : (dec t).2 ≤ t.length := by
  cases h : broken (dec t) with
  | false => exact (dec_whole ht h).2.1
  | true =>
    unfold broken at h
    simp at h
    rw [h.2]
    exact List.length_pos_iff.2 ht
/-- what is whole is the same, whatever stands behind it -/
theorem dec_more {s : List UInt8} (hs : s ≠ []) (h : broken (dec s) = false) (t : List UInt8) : dec (s ++ t) = dec s := by
  obtain ⟨h1, h2, h3⟩ := dec_whole hs h
  have e : s = enc (dec s).1 ++ s.drop (dec s).2 := by rw [h3, List.take_append_drop]
  have h4 := dec_enc _ h1 (s.drop (dec s).2)
  have h5 := dec_enc _ h1 (s.drop (dec s).2 ++ t)
  rw [← List.append_assoc, ← e] at h5
  rw [← e] at h4
  rw [h5, h4]
end Go.Proofs.Ytnkhlallnblfmaa
