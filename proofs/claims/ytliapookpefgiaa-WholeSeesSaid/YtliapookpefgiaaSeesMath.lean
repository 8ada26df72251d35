/-
  What a level sees of texts one behind the other, and of one that is raised above it: layer 4, as plain lists.
-/
import Derived.Test.YtliapookpefgiaaM04s
import Derived.Laws.Bits64
namespace Go.Proofs.Ytliapookpefgiaa
open Go.RowKit

theorem subB_full {x : Nat} (h : x < 18446744073709551616) : subB x 18446744073709551615 = true := by
  rw [subB_iff]
  intro i hi
  have h64 : i < 64 := by
    rcases Nat.lt_or_ge i 64 with h1 | h1
    · exact h1
    · have : x < 2 ^ i := Nat.lt_of_lt_of_le h (Nat.pow_le_pow_right (n := 2) (by omega) h1)
      rw [Nat.testBit_lt_two_pow this] at hi; cases hi
  have := Nat.testBit_two_pow_sub_one 64 i
  rw [show (2 ^ 64 - 1 : Nat) = 18446744073709551615 from rfl] at this
  rw [this]; simpa using h64
theorem viewTo_full {S : List UInt8} {bs : List Nat} (h : bs.length = S.length) (hb : ∀ x ∈ bs, x < 18446744073709551616) : viewTo S bs 18446744073709551615 = S := by
  apply List.ext_getElem
  · rw [viewTo_len h]
  · intro k hk1 hk2
    rw [viewTo_get h hk2, if_pos (subB_full (hb _ (List.getElem_mem _)))]
/-- all the categories that a level has not -/
def notN (y : Nat) : Nat := 18446744073709551615 - y
theorem notN_lt (y : Nat) : notN y < 18446744073709551616 := by unfold notN; omega
theorem notN_bit {y : Nat} (hy : y < 18446744073709551616) (i : Nat) : (notN y).testBit i = (decide (i < 64) && !y.testBit i) := by
  have := Nat.testBit_two_pow_sub_succ (x := y) (n := 64) hy i
  rw [← this]
  unfold notN
  congr 1
  omega
theorem bit_high {x i : Nat} (h : x < 18446744073709551616) (hi : 64 ≤ i) : x.testBit i = false :=
  Nat.testBit_lt_two_pow (Nat.lt_of_lt_of_le h (Nat.pow_le_pow_right (n := 2) (by omega) hi))
theorem level_not (y : Nat) (hy : y < 18446744073709551616) : bits BinOp.xor IntKind.u64 (if IntKind.u64.signed = true then -1 else IntKind.u64.max) (y : Int) = ((notN y : Nat) : Int) := by
  have e : (if IntKind.u64.signed = true then (-1 : Int) else IntKind.u64.max) = ((18446744073709551615 : Nat) : Int) := by decide
  rw [e, bits_xor_u64_nat _ _ (by omega) hy]
  congr 1
  apply Nat.eq_of_testBit_eq
  intro i
  have h1 := Nat.testBit_two_pow_sub_one 64 i
  rw [show (2 ^ 64 - 1 : Nat) = 18446744073709551615 from rfl] at h1
  rw [Nat.testBit_xor, h1, notN_bit hy]
  by_cases h : i < 64
  · simp [h]
  · have hb := bit_high hy (show 64 ≤ i by omega)
    simp [h, hb]
theorem notN_hidden {b y : Nat} (hy : y < 18446744073709551616) (hn : y ≠ 18446744073709551615) : ¬ subB (b ||| notN y) y = true := by
  intro h
  rw [subB_iff] at h
  obtain ⟨i, hi⟩ := Nat.exists_testBit_of_ne_zero (show notN y ≠ 0 by unfold notN; omega)
  have h2 := notN_bit hy i
  have h3 := h i (by rw [Nat.testBit_or, hi, Bool.or_true])
  rw [h2, h3] at hi
  simp at hi
theorem viewTo_above {S : List UInt8} {bs : List Nat} {y : Nat} (h : bs.length = S.length) (hy : y < 18446744073709551616) (hn : y ≠ 18446744073709551615) : viewTo S (bs.map fun b => b ||| notN y) y = List.replicate S.length 35 := by
  have h' : (bs.map fun b => b ||| notN y).length = S.length := by rw [List.length_map, h]
  apply List.ext_getElem
  · rw [viewTo_len h', List.length_replicate]
  · intro k hk1 hk2
    rw [viewTo_len h'] at hk1
    rw [viewTo_get h' hk1, List.getElem_map, if_neg (notN_hidden hy hn), List.getElem_replicate]
theorem catT_two {U S : List UInt8} {q l : List RunP} (hg : goodT U q = true) (hg2 : goodT S l = true) :
    catT U q S l = if U.length + S.length ≤ 4096 then ((U ++ S, pack (bytesOf q ++ bytesOf l)), 0) else (([], []), 3) := by
  obtain ⟨g1, g2, g3⟩ := goodT_size hg
  unfold catT
  rw [if_pos ⟨hg, hg2⟩]
  have hw : withinT U q (U.length : Nat) (U.length : Nat) = true := (withinT_iff _ _ _ _).2 ⟨hg, by omega, Int.le_refl _, Int.le_refl _⟩
  by_cases hb : U.length + S.length ≤ 4096
  · rw [if_pos hb, spliceT_ok hw hg2 (by omega), Int.toNat_natCast]
    rw [List.take_of_length_le (by omega : U.length ≤ U.length), List.drop_of_length_le (by omega : U.length ≤ U.length), List.take_of_length_le (by omega : (bytesOf q).length ≤ U.length), List.drop_of_length_le (by omega : (bytesOf q).length ≤ U.length)]
    rw [List.append_nil, List.append_nil]
  · rw [if_neg hb, spliceT_big hw hg2 (by omega)]
theorem goodT_two {U S : List UInt8} {q l : List RunP} (hg : goodT U q = true) (hg2 : goodT S l = true) (hb : U.length + S.length ≤ 4096) : goodT (U ++ S) (pack (bytesOf q ++ bytesOf l)) = true := by
  obtain ⟨g1, g2, g3⟩ := goodT_size hg
  obtain ⟨k1, k2, k3⟩ := goodT_size hg2
  exact (goodT_iff _ _).2 ⟨goodB_pack (by rw [List.length_append]; omega), by rw [bytesOf_pack, List.length_append, List.length_append]; omega⟩
theorem viewOf_good {S : List UInt8} {l : List RunP} (hg : goodT S l = true) (y : Nat) : viewOf S l y = (viewTo S (bytesOf l) y, 0) := if_pos hg
theorem raiseT_good {S : List UInt8} {l : List RunP} (hg : goodT S l = true) (y : Nat) : raiseT S l y = ((S, pack ((bytesOf l).map fun x => x ||| y)), 0) := if_pos hg
theorem goodT_above {S : List UInt8} {l : List RunP} (hg : goodT S l = true) (y : Nat) : goodT S (pack ((bytesOf l).map fun x => x ||| y)) = true := by
  obtain ⟨g1, g2, g3⟩ := goodT_size hg
  exact (goodT_iff _ _).2 ⟨goodB_pack (by rw [List.length_map]; omega), by rw [bytesOf_pack, List.length_map]; omega⟩
theorem text_two (a b : List UInt8) : (⟨a.toArray⟩ : ByteArray) ++ ⟨b.toArray⟩ = ⟨(a ++ b).toArray⟩ := by
  apply ByteArray.ext
  rw [ByteArray.data_append]
  simp
end Go.Proofs.Ytliapookpefgiaa
