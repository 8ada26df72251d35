/-
  The reference's Put: layer 5.
-/
import Derived.Test.YtacpfkkbjibmgaaPieSays
namespace Go.Proofs.Ytacpfkkbjibmgaa
open Go.RowKit

theorem within_packed {S : List UInt8} {b : List Nat} {f t : Int} (h : goodT S (pack b) = true) : withinT S (pack b) f t = true ↔ 0 ≤ f ∧ f ≤ t ∧ t ≤ (S.length : Int) := by
  unfold withinT; rw [h]; simp
theorem put_ref {S : List UInt8} {b : List Nat} {most : Nat} {f t : Int} {X : List UInt8} {m : List RunP} (hb : b.length = S.length) (hS : S.length ≤ most) (h4 : most ≤ 4096) :
    (putE S most f t X m = 2 ∧ spliceT S (pack b) f t X m = (([], []), 2)) ∨
    (putE S most f t X m = 4 ∧ ((spliceT S (pack b) f t X m).2 = 3 ∨ (spliceT S (pack b) f t X m).2 = 0 ∧ most < (spliceT S (pack b) f t X m).1.1.length)) ∨
    (putE S most f t X m = 0 ∧ spliceT S (pack b) f t X m = ((putS S most f t X m, pack (putB S b most f t X m)), 0) ∧ (putS S most f t X m).length ≤ most) := by
  have hg : goodT S (pack b) = true := good_packed hb (by omega)
  by_cases hok : goodT X m = true ∧ 0 ≤ f ∧ f ≤ t ∧ t ≤ (S.length : Int)
  · obtain ⟨hX, h0, hft, ht⟩ := hok
    have hw := (within_packed hg).2 ⟨h0, hft, ht⟩
    have hl : ((S.take f.toNat ++ X ++ S.drop t.toNat).length : Int) = (S.length : Int) - (t - f) + (X.length : Int) := by
      rw [List.length_append, List.length_append, List.length_take, List.length_drop]; omega
    by_cases hm : (S.length : Int) - (t - f) + (X.length : Int) ≤ (most : Int)
    · have he : putE S most f t X m = 0 := by unfold putE; rw [if_pos ⟨hX, h0, hft, ht⟩, if_pos hm]
      have hs : putS S most f t X m = S.take f.toNat ++ X ++ S.drop t.toNat := if_pos he
      refine .inr (.inr ⟨he, ?_, ?_⟩)
      · rw [spliceT_ok hw hX (by omega), bytesOf_pack, hs, putB, if_pos he]
      · rw [hs]; omega
    · have he : putE S most f t X m = 4 := by unfold putE; rw [if_pos ⟨hX, h0, hft, ht⟩, if_neg hm]
      refine .inr (.inl ⟨he, ?_⟩)
      by_cases h5 : (S.length : Int) - (t - f) + (X.length : Int) ≤ 4096
      · rw [spliceT_ok hw hX h5]
        exact .inr ⟨rfl, by show most < (S.take f.toNat ++ X ++ S.drop t.toNat).length; omega⟩
      · rw [spliceT_big hw hX h5]
        exact .inl rfl
  · have he : putE S most f t X m = 2 := by unfold putE; rw [if_neg hok]
    refine .inl ⟨he, spliceT_bad fun h => hok ⟨h.2, (within_packed hg).1 h.1⟩⟩
theorem putE_cases (S : List UInt8) (most : Nat) (f t : Int) (X : List UInt8) (m : List RunP) : putE S most f t X m = 0 ∨ putE S most f t X m = 2 ∨ putE S most f t X m = 4 := by
  unfold putE
  split
  · split
    · exact .inl rfl
    · exact .inr (.inr rfl)
  · exact .inr (.inl rfl)
theorem put_bad {S : List UInt8} {b : List Nat} {most : Nat} {f t : Int} {X : List UInt8} {m : List RunP} (h : putE S most f t X m ≠ 0) : putS S most f t X m = S ∧ putB S b most f t X m = b := ⟨if_neg h, if_neg h⟩
theorem put_done {S : List UInt8} {b : List Nat} {most : Nat} {f t : Int} {X : List UInt8} {m : List RunP} (h : putE S most f t X m = 0) :
    putS S most f t X m = S.take f.toNat ++ X ++ S.drop t.toNat ∧ putB S b most f t X m = b.take f.toNat ++ bytesOf m ++ b.drop t.toNat ∧ goodT X m = true ∧ 0 ≤ f ∧ f ≤ t ∧ t ≤ (S.length : Int) ∧ (S.length : Int) - (t - f) + (X.length : Int) ≤ (most : Int) := by
  refine ⟨if_pos h, if_pos h, ?_⟩
  unfold putE at h
  split at h
  · next h1 =>
    split at h
    · next h2 => exact ⟨h1.1, h1.2.1, h1.2.2.1, h1.2.2.2, h2⟩
    · omega
  · omega
end Go.Proofs.Ytacpfkkbjibmgaa
