/-
  Signs found from behind: a byte that is no continuation always begins one. No program here.
-/
import Derived.Test.YtnkhlallnblfmaaUtfWhich
namespace Go.Proofs.Ytnkhlallnblfmaa
open Go.RowKit

theorem text_tail (s : List UInt8) (k : Nat) : ({ data := s.toArray } : ByteArray).extract k s.length = ⟨(s.drop k).toArray⟩ := by
  apply ByteArray.ext
  rw [ByteArray.data_extract]
  apply Array.ext'
  simp
  exact List.take_of_length_le (by rw [List.length_drop]; omega)

/-- a continuation at the head is one broken byte -/
theorem dec_cont {t : List UInt8} (h : (t.getD 0 0).toNat / 64 = 2) : (dec t).2 = 1 := by
  have e1 : ¬ (t.getD 0 0).toNat < 0x80 := by omega
  have e2 : ((t.getD 0 0).toNat / 32 == 6) = false := by simp only [beq_eq_false_iff_ne]; omega
  have e3 : ((t.getD 0 0).toNat / 16 == 14) = false := by simp only [beq_eq_false_iff_ne]; omega
  have e4 : ((t.getD 0 0).toNat / 8 == 30) = false := by simp only [beq_eq_false_iff_ne]; omega
  simp only [dec, e2, e3, e4, Bool.false_and, if_neg e1]
  rfl
/-- within a whole sign there are continuations alone -/
theorem dec_inner {t : List UInt8} {k : Nat} (h1 : 1 ≤ k) (h2 : k < (dec t).2) : (t.getD k 0).toNat / 64 = 2 := by
  revert h2
  simp only [dec]
  split
  · intro h; simp at h; omega
  · split
    · rename_i h3
      simp only [Bool.and_eq_true, beq_iff_eq, decide_eq_true_iff] at h3
      split
      · intro h; simp at h; obtain rfl : k = 1 := by omega
        exact h3.2.2
      · intro h; simp at h; omega
    · split
      · rename_i h3
        simp only [Bool.and_eq_true, beq_iff_eq, decide_eq_true_iff] at h3
        split
        · intro h; simp at h
          rcases (show k = 1 ∨ k = 2 by omega) with rfl | rfl
          · exact h3.1.2.2
          · exact h3.2.2
        · intro h; simp at h; omega
      · split
        · rename_i h3
          simp only [Bool.and_eq_true, beq_iff_eq, decide_eq_true_iff] at h3
          split
          · intro h; simp at h
            rcases (show k = 1 ∨ k = 2 ∨ k = 3 by omega) with rfl | rfl | rfl
            · exact h3.1.1.2.2
            · exact h3.1.2.2
            · exact h3.2.2
          · intro h; simp at h; omega
        · intro h; simp at h; omega

/-- every place lies in one -/
theorem which_ex (l : List (Nat × Nat)) (p : Int) : ∃ i, Which l p i := by
  have key : ∀ k, k ≤ l.length → (∃ i, Which l p i) ∨ ∀ j, j < k → ((width (l.take (j + 1)) : Nat) : Int) ≤ p := by
    intro k
    induction k with
    | zero => intro _; exact .inr fun j hj => absurd hj (by omega)
    | succ k ih =>
      intro hk
      rcases ih (by omega) with h | h
      · exact .inl h
      · by_cases hp : p < ((width (l.take (k + 1)) : Nat) : Int)
        · exact .inl ⟨k, by omega, h, fun _ => hp⟩
        · refine .inr fun j hj => ?_
          by_cases hjk : j = k
          · subst hjk; omega
          · exact h j (by omega)
  rcases key l.length (Nat.le_refl _) with h | h
  · exact h
  · exact ⟨l.length, Nat.le_refl _, h, fun h0 => absurd h0 (by omega)⟩

/-- the sign that a place lies in: it begins there or before, and has its bytes -/
theorem Which.here_bytes {S : List UInt8} {p i : Nat} (h : Which (chars S) p i) (hp : p < S.length) :
    i < (chars S).length ∧ width ((chars S).take i) ≤ p ∧ p < width ((chars S).take i) + (dec (S.drop (width ((chars S).take i)))).2 := by
  have hr := h.read
  have hle := h.le
  have hlen : ((chars S).take i).length = i := by rw [List.length_take]; omega
  have hap : width ((chars S).take i) ≤ p := by
    rcases Nat.eq_zero_or_pos i with rfl | hi
    · simp [width]
    · have := h.ahead (i - 1) (by omega)
      rw [show i - 1 + 1 = i by omega] at this
      omega
  have hlt : i < (chars S).length := by
    have := hr.len_lt (by omega)
    omega
  refine ⟨hlt, hap, ?_⟩
  have h1 := h.here hlt
  have h2 := hr.next_width (show width ((chars S).take i) < S.length by omega)
  rw [hlen] at h2
  omega
theorem getD_drop (S : List UInt8) (a k : Nat) : (S.drop a).getD k 0 = S.getD (a + k) 0 := by
  rw [List.getD_eq_getElem?_getD, List.getD_eq_getElem?_getD, List.getElem?_drop]
theorem Which.inner {S : List UInt8} {p i : Nat} (h : Which (chars S) p i) (hp : p < S.length) (hin : width ((chars S).take i) < p) : (dec (S.drop p)).2 = 1 := by
  obtain ⟨_, h1, h2⟩ := h.here_bytes hp
  have := dec_inner (t := S.drop (width ((chars S).take i))) (k := p - width ((chars S).take i)) (by omega) (by omega)
  refine dec_cont ?_
  rw [getD_drop] at this ⊢
  rw [show p + 0 = width ((chars S).take i) + (p - width ((chars S).take i)) by omega]
  exact this
/-- a sign stands so far before a place and goes over it, just where the place's own sign begins -/
theorem Which.back {S : List UInt8} {p i b : Nat} (h : Which (chars S) p i) (hp : p < S.length) (h1 : 1 ≤ b) (hb : b ≤ p) :
    b < (dec (S.drop (p - b))).2 ↔ width ((chars S).take i) = p - b := by
  obtain ⟨hi, h2, h3⟩ := h.here_bytes hp
  constructor
  · intro hlt
    rcases Nat.lt_trichotomy (width ((chars S).take i)) (p - b) with hc | hc | hc
    · have := dec_inner (t := S.drop (width ((chars S).take i))) (k := p - b - width ((chars S).take i)) (by omega) (by omega)
      have h4 : (dec (S.drop (p - b))).2 = 1 := dec_cont (by
        rw [getD_drop] at this ⊢
        rw [show p - b + 0 = width ((chars S).take i) + (p - b - width ((chars S).take i)) by omega]
        exact this)
      omega
    · exact hc
    · obtain ⟨j, hj⟩ := which_ex (chars S) ((p - b : Nat) : Int)
      obtain ⟨g1, g2, g3⟩ := hj.here_bytes (by omega)
      rcases Nat.lt_or_ge (width ((chars S).take j)) (p - b) with hd | hd
      · have := hj.inner (by omega) hd
        omega
      · have e : width ((chars S).take j) = p - b := by omega
        have hji : j < i := by
          rcases Nat.lt_or_ge j i with hx | hx
          · exact hx
          · have := width_take_mono (chars S) hx
            omega
        have h5 := width_take_mono (chars S) (show j + 1 ≤ i by omega)
        have h6 := hj.read.next_width (show width ((chars S).take j) < S.length by omega)
        have hlen : ((chars S).take j).length = j := by rw [List.length_take]; omega
        rw [hlen, e] at h6
        omega
  · intro e
    rw [← e]; omega

/-- what a text begins with: nothing, if it is empty -/
def headDec (t : List UInt8) : Nat × Nat := if t = [] then (0, 0) else dec t
theorem headDec_ne {t : List UInt8} (h : t ≠ []) : headDec t = dec t := if_neg h
theorem Which.head {S : List UInt8} {p : Int} {i : Nat} (h : Which (chars S) p i) : (chars S).getD i (0, 0) = headDec (S.drop (width ((chars S).take i))) := by
  have hr := h.read
  have hle := h.le
  have hlen : ((chars S).take i).length = i := by rw [List.length_take]; omega
  by_cases hlt : width ((chars S).take i) < S.length
  · have := hr.getD hlt
    rw [hlen] at this
    rw [this, headDec_ne (drop_ne hlt)]
  · have e := hr.end_ (by omega)
    rw [show S.drop (width ((chars S).take i)) = [] from List.drop_eq_nil_of_le (by omega)]
    have : (chars S).length ≤ i := by have := congrArg List.length e; omega
    simp [headDec, List.getD, List.getElem?_eq_none this]
theorem Which.head_width {S : List UInt8} {p : Int} {i : Nat} (h : Which (chars S) p i) :
    width ((chars S).take (i + 1)) = width ((chars S).take i) + (headDec (S.drop (width ((chars S).take i)))).2 := by
  have hr := h.read
  have hle := h.le
  have hlen : ((chars S).take i).length = i := by rw [List.length_take]; omega
  by_cases hlt : width ((chars S).take i) < S.length
  · have := hr.next_width hlt
    rw [hlen] at this
    rw [this, headDec_ne (drop_ne hlt)]
  · have e := hr.end_ (by omega)
    rw [show S.drop (width ((chars S).take i)) = [] from List.drop_eq_nil_of_le (by omega)]
    have : (chars S).length ≤ i := by have := congrArg List.length e; omega
    rw [List.take_of_length_le (by omega), List.take_of_length_le this]
    simp [headDec]
theorem Which.at_le {S : List UInt8} {p : Int} {i : Nat} (h : Which (chars S) p i) : width ((chars S).take i) ≤ S.length := h.read.le
/-- the place ahead of a sign lies in the one before it -/
theorem Which.before {S : List UInt8} {p : Int} {i j : Nat} (h : Which (chars S) p i) (hj : Which (chars S) (((width ((chars S).take i) : Nat) : Int) - 1) j) : j = i - 1 := by
  have hle := h.le
  refine hj.unique ?_
  rcases Nat.eq_zero_or_pos i with rfl | hi
  · exact ⟨Nat.zero_le _, fun k hk => absurd hk (by omega), fun hl => by
      have : ((width ((chars S).take 0) : Nat) : Int) = 0 := by simp [width]
      omega⟩
  · refine ⟨by omega, fun k hk => ?_, fun _ => ?_⟩
    · have hr := h.read
      have h1 := width_take_mono (chars S) (show k + 1 ≤ i - 1 by omega)
      have hlt : i - 1 < (chars S).length := by omega
      have h2 := width_succ (chars S) (i - 1) hlt
      have h3 := (chars_bound S _ (List.getElem_mem hlt)).2.1
      rw [show i - 1 + 1 = i by omega] at h2
      omega
    · rw [show i - 1 + 1 = i by omega]; omega
end Go.Proofs.Ytnkhlallnblfmaa
