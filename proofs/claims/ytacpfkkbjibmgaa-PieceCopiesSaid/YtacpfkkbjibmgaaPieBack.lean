/-
  A Put and what puts it back: layer 5.
-/
import Derived.Test.YtacpfkkbjibmgaaPieRef
namespace Go.Proofs.Ytacpfkkbjibmgaa
open Go.RowKit

theorem cutS_ok {S : List UInt8} {b : List Nat} {f t : Int} (h : 0 ≤ f ∧ f ≤ t ∧ t ≤ (S.length : Int)) : cutS S b f t = (((S.drop f.toNat).take (t.toNat - f.toNat), pack ((b.drop f.toNat).take (t.toNat - f.toNat))), 0) := if_pos h
theorem mid_of {α : Type} (S X Z : List α) (F : Nat) (h : S.length = F) : ((S ++ X ++ Z).drop F).take X.length = X := by
  subst h; rw [List.append_assoc, List.drop_left, List.take_left]
theorem back_of {α : Type} (S X : List α) (F T : Nat) (h : F ≤ T) (hT : T ≤ S.length) : (S.take F ++ X ++ S.drop T).take F ++ (S.drop F).take (T - F) ++ (S.take F ++ X ++ S.drop T).drop (F + X.length) = S := by
  have e1 : (S.take F ++ X ++ S.drop T).take F = S.take F := by rw [List.append_assoc, List.take_append_of_le_length (by rw [List.length_take]; omega), List.take_take, Nat.min_self]
  have e2 : (S.take F ++ X ++ S.drop T).drop (F + X.length) = S.drop T := by
    have : F + X.length = (S.take F ++ X).length := by rw [List.length_append, List.length_take]; omega
    rw [this, List.drop_left]
  rw [e1, e2, List.append_assoc]
  have e3 : (S.drop F).take (T - F) ++ S.drop T = S.drop F := by
    have : S.drop T = (S.drop F).drop (T - F) := by rw [List.drop_drop]; congr 1; omega
    rw [this, List.take_append_drop]
  rw [e3, List.take_append_drop]
theorem put_back {S : List UInt8} {b : List Nat} {most : Nat} {f t : Int} {X : List UInt8} {m : List RunP} (hb : b.length = S.length) (hS : S.length ≤ most) (h4 : most ≤ 4096) (h : putE S most f t X m = 0) :
    ∃ U v, v.length = U.length ∧ U.length ≤ 4096 ∧ (∀ x ∈ v, x ∈ b) ∧ cutS S b f t = ((U, pack v), 0) ∧ 0 ≤ f ∧ f ≤ 4096 ∧ X.length ≤ 4096 ∧
      cutS (putS S most f t X m) (putB S b most f t X m) f (f + (X.length : Int)) = ((X, m), 0) ∧ putE (putS S most f t X m) most f (f + (X.length : Int)) U (pack v) = 0 ∧
      putS (putS S most f t X m) most f (f + (X.length : Int)) U (pack v) = S ∧ putB (putS S most f t X m) (putB S b most f t X m) most f (f + (X.length : Int)) U (pack v) = b := by
  obtain ⟨e1, e2, hX, h0, hft, ht, hroom⟩ := put_done (b := b) h
  obtain ⟨gB, gL⟩ := (goodT_iff X m).1 hX
  obtain ⟨F, rfl⟩ : ∃ F : Nat, f = (F : Int) := ⟨f.toNat, by omega⟩
  obtain ⟨T, rfl⟩ : ∃ T : Nat, t = (T : Int) := ⟨t.toNat, by omega⟩
  simp only [Int.toNat_natCast] at e1 e2
  have l1 : ((S.drop F).take (T - F)).length = T - F := by rw [List.length_take, List.length_drop]; omega
  have l2 : ((b.drop F).take (T - F)).length = T - F := by rw [List.length_take, List.length_drop]; omega
  have lS : (putS S most F T X m).length = F + X.length + (S.length - T) := by rw [e1, List.length_append, List.length_append, List.length_take, List.length_drop]; omega
  have hg : goodT ((S.drop F).take (T - F)) (pack ((b.drop F).take (T - F))) = true := good_packed (by rw [l1, l2]) (by rw [l1]; omega)
  have hE : putE (putS S most F T X m) most F (F + (X.length : Int)) ((S.drop F).take (T - F)) (pack ((b.drop F).take (T - F))) = 0 := by
    unfold putE
    rw [if_pos ⟨hg, by omega, by omega, by rw [lS]; omega⟩, if_pos (by rw [lS, l1]; omega)]
  have hFX : (F : Int) + (X.length : Int) = ((F + X.length : Nat) : Int) := by omega
  refine ⟨(S.drop F).take (T - F), (b.drop F).take (T - F), by rw [l1, l2], by rw [l1]; omega, fun x hx => List.mem_of_mem_drop (List.mem_of_mem_take hx), ?_, by omega, by omega, by omega, ?_, hE, ?_, ?_⟩
  · rw [cutS_ok ⟨h0, hft, ht⟩]; simp only [Int.toNat_natCast]
  · rw [cutS_ok ⟨h0, by omega, by rw [lS]; omega⟩, hFX]
    simp only [Int.toNat_natCast]
    rw [Nat.add_sub_cancel_left, e1, mid_of _ _ _ _ (by rw [List.length_take]; omega), e2, ← gL, mid_of _ _ _ _ (by rw [List.length_take]; omega), goodB_eq gB]
  · rw [(put_done (b := b) hE).1, hFX]
    simp only [Int.toNat_natCast]
    rw [e1, back_of S X F T (by omega) (by omega)]
  · rw [(put_done hE).2.1, hFX]
    simp only [Int.toNat_natCast]
    rw [e2, bytesOf_pack, ← gL, back_of b (bytesOf m) F T (by omega) (by omega)]
end Go.Proofs.Ytacpfkkbjibmgaa
