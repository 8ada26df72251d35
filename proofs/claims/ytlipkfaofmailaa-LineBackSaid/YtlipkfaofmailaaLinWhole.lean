/-
  Contracts of the landed package line: Whole.
-/
import Derived.Test.YtlipkfaofmailaaLinOwn
import Derived.Deep.RegionWith
namespace Go.Proofs.Ytlipkfaofmailaa
open Go.RowKit

attribute [local irreducible] boundsL countL wholeL begL endL
set_option maxHeartbeats 1000000 in
theorem linWhole_any (S : List UInt8) (hs : S.length ≤ 1000000) (a b : Int) (w : World) :
    Calls Try.prog 22 #[.string ⟨S.toArray⟩, .int .i64 a, .int .i64 b] w (Gives3 w (wholeL S a b)) := by
  by_cases h : 0 ≤ a ∧ a ≤ b ∧ b < (countL S : Int)
  · obtain ⟨A, rfl⟩ : ∃ A : Nat, a = (A : Int) := ⟨a.toNat, by omega⟩
    obtain ⟨B, rfl⟩ : ∃ B : Nat, b = (B : Int) := ⟨b.toNat, by omega⟩
    have hA : A < countL S := by omega
    have hB : B < countL S := by omega
    have HDA : Hid (hasB S (A : Int) = true) := decide_eq_true (by omega)
    have HDB : Hid (hasB S (B : Int) = true) := decide_eq_true (by omega)
    have g1 : ¬ (B : Int) < (A : Int) := by omega
    have hgo := wholeL_good (S := S) (a := A) (b := B) h
    rw [boundsL_nat hA] at hgo
    have HA := Lib.hid hA
    have HB := Lib.hid hB
    have hbA := beg_le hA
    have heB := end_le hB
    by_cases h3 : B + 1 < countL S
    · have hlt := (ends_inner h3).2.1
      rw [if_pos (by omega), show ((B : Int) + 1) = ((B + 1 : Nat) : Int) by omega, boundsL_nat h3, beg_succ] at hgo
      have HG := Lib.hid hgo
      have hltI : (endL S B : Int) < (S.length : Int) := by omega
      have hw := wrap_small ((endL S B : Int) + 1) (by omega) (by omega)
      clear h hA hB hgo h3
      go_enter Try.func22, Try.ntmps22
      go_wp2_with (first
        | (go_at_call_of 28 A; refine (linHas_any S hs (A : Int) _).mono ?_; rintro e w1 ⟨rfl, b1⟩; rw [HDA.out])
        | (go_at_call_of 28 B; refine (linHas_any S hs (B : Int) _).mono ?_; rintro e w2 ⟨rfl, b2⟩; rw [HDB.out])
        | (go_at_call_of 29 A; refine (linBegEnd_any S hs A HA.out _).mono ?_; rintro e w3 ⟨rfl, b3⟩)
        | (go_at_call_of 29 B; refine (linBegEnd_any S hs B HB.out _).mono ?_; rintro e w4 ⟨rfl, b4⟩))
      go_ret3
      have z1 := b1.size
      have z2 := b2.size
      have z3 := b3.size
      exact ⟨by rw [HG.out]; rfl, ((b1.trans (b2.mono z1)).trans (b3.mono (by omega))).trans (b4.mono (by omega))⟩
    · have hee := ends_last (S := S) (n := B) (by omega)
      rw [if_neg (by omega)] at hgo
      by_cases h4 : 0 < A
      · have hpos : 0 < begL S A := by
          obtain ⟨A', rfl⟩ : ∃ A', A = A' + 1 := ⟨A - 1, by omega⟩
          rw [beg_succ]; omega
        rw [if_pos (by omega)] at hgo
        have HG := Lib.hid hgo
        have HE := Lib.hid hee
        have hposI : (0 : Int) < (begL S A : Int) := by omega
        have HS : Hid ((((begL S A) - 1 : Nat) : Int) = (begL S A : Int) - 1) := by show _ = _; omega
        have hw := wrap_small ((begL S A : Int) - 1) (by omega) (by omega)
        clear h hA hB hgo h3 h4 hee
        go_enter Try.func22, Try.ntmps22
        go_wp2_with (first
          | (go_at_call_of 28 A; refine (linHas_any S hs (A : Int) _).mono ?_; rintro e w1 ⟨rfl, b1⟩; rw [HDA.out])
          | (go_at_call_of 28 B; refine (linHas_any S hs (B : Int) _).mono ?_; rintro e w2 ⟨rfl, b2⟩; rw [HDB.out])
          | (go_at_call_of 29 A; refine (linBegEnd_any S hs A HA.out _).mono ?_; rintro e w3 ⟨rfl, b3⟩)
          | (go_at_call_of 29 B; refine (linBegEnd_any S hs B HB.out _).mono ?_; rintro e w4 ⟨rfl, b4⟩; rw [HE.out]))
        go_ret3
        have z1 := b1.size
        have z2 := b2.size
        have z3 := b3.size
        exact ⟨by rw [HG.out]; dsimp only; rw [HS.out]; rfl, ((b1.trans (b2.mono z1)).trans (b3.mono (by omega))).trans (b4.mono (by omega))⟩
      · have HZ : Hid (begL S A = 0) := by
          have hA0 : A = 0 := by omega
          show begL S A = 0
          rw [hA0]; exact beg_zero S
        rw [if_neg (by omega)] at hgo
        have HG := Lib.hid hgo
        have HE := Lib.hid hee
        clear h hA hB hgo h3 h4 hee hbA
        go_enter Try.func22, Try.ntmps22
        go_wp2_with (first
          | (go_at_call_of 28 A; refine (linHas_any S hs (A : Int) _).mono ?_; rintro e w1 ⟨rfl, b1⟩; rw [HDA.out])
          | (go_at_call_of 28 B; refine (linHas_any S hs (B : Int) _).mono ?_; rintro e w2 ⟨rfl, b2⟩; rw [HDB.out])
          | (go_at_call_of 29 A; refine (linBegEnd_any S hs A HA.out _).mono ?_; rintro e w3 ⟨rfl, b3⟩; rw [HZ.out])
          | (go_at_call_of 29 B; refine (linBegEnd_any S hs B HB.out _).mono ?_; rintro e w4 ⟨rfl, b4⟩; rw [HE.out]))
        go_ret3
        have z1 := b1.size
        have z2 := b2.size
        have z3 := b3.size
        exact ⟨by rw [HG.out]; dsimp only; rfl, ((b1.trans (b2.mono z1)).trans (b3.mono (by omega))).trans (b4.mono (by omega))⟩
  · have HG := Lib.hid (wholeL_bad h)
    by_cases h1 : 0 ≤ a ∧ a < (countL S : Int)
    · have HDA : Hid (hasB S a = true) := decide_eq_true h1
      by_cases h2 : 0 ≤ b ∧ b < (countL S : Int)
      · have HDB : Hid (hasB S b = true) := decide_eq_true h2
        have h3 : b < a := by omega
        clear h h1 h2
        go_enter Try.func22, Try.ntmps22
        go_wp2_with (first
          | (go_at_call_of 28 a; refine (linHas_any S hs a _).mono ?_; rintro e w1 ⟨rfl, b1⟩; rw [HDA.out])
          | (go_at_call_of 28 b; refine (linHas_any S hs b _).mono ?_; rintro e w2 ⟨rfl, b2⟩; rw [HDB.out]))
        go_ret3
        exact ⟨by rw [HG.out]; rfl, b1.trans (b2.mono b1.size)⟩
      · have HDB : Hid (hasB S b = false) := decide_eq_false h2
        clear h h1 h2
        go_enter Try.func22, Try.ntmps22
        go_wp2_with (first
          | (go_at_call_of 28 a; refine (linHas_any S hs a _).mono ?_; rintro e w1 ⟨rfl, b1⟩; rw [HDA.out])
          | (go_at_call_of 28 b; refine (linHas_any S hs b _).mono ?_; rintro e w2 ⟨rfl, b2⟩; rw [HDB.out]))
        go_ret3
        exact ⟨by rw [HG.out]; rfl, b1.trans (b2.mono b1.size)⟩
    · have HDA : Hid (hasB S a = false) := decide_eq_false h1
      clear h h1
      go_enter Try.func22, Try.ntmps22
      go_wp2_with (go_at_call_of 28 a; refine (linHas_any S hs a _).mono ?_; rintro e w1 ⟨rfl, b1⟩; rw [HDA.out])
      go_ret3
      exact ⟨by rw [HG.out]; rfl, b1⟩
end Go.Proofs.Ytlipkfaofmailaa
