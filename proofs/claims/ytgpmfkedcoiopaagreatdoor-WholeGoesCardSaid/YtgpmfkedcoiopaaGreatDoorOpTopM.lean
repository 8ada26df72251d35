/-
  What d takes on the way of a motion, as plain facts: layer 14, WholeGoes.
-/
import Derived.Test.YtgpmfkedcoiopaaGreatDoorM14d
import Derived.Test.YtgpmfkedcoiopaaGreatDoorSeesMath
import Derived.Test.YtgpmfkedcoiopaaGreatDoorM14a
namespace Go.Proofs.YtgpmfkedcoiopaaGreatDoor
open Go.RowKit

theorem next_ge (V : List UInt8) (i : Nat) (hi : i ≤ (chars V).length) : width ((chars V).take i) ≤ nextM V (width ((chars V).take i) : Nat) ∧ nextM V (width ((chars V).take i) : Nat) ≤ V.length := by
  have hw : whichM (chars V) (width ((chars V).take i) : Nat) = i := ((which_self hi).unique (which_is _ _)).symm
  unfold nextM
  rw [hw]
  have h1 := width_le_take (chars V) (i + 1)
  rw [width_chars] at h1
  exact ⟨width_take_mono _ (by omega), h1⟩
theorem span_in (V : List UInt8) (p q k : Int) (hk : k ≠ 2) : ∃ F E : Nat, spanM V p q k = ((F : Int), (E : Int), false) ∧ F ≤ E ∧ E ≤ V.length := by
  have ha := alignM_le V p
  have hb := alignM_le V q
  unfold spanM
  rw [if_neg hk]
  by_cases h1 : k = 1
  · rw [if_pos h1]
    have hm : ∃ i, i ≤ (chars V).length ∧ max (alignM V p) (alignM V q) = width ((chars V).take i) := by
      rcases Nat.le_total (alignM V p) (alignM V q) with h | h
      · exact ⟨whichM (chars V) q, (which_is _ _).le, by rw [Nat.max_eq_right h]; rfl⟩
      · exact ⟨whichM (chars V) p, (which_is _ _).le, by rw [Nat.max_eq_left h]; rfl⟩
    obtain ⟨i, hi, he⟩ := hm
    obtain ⟨n1, n2⟩ := next_ge V i hi
    refine ⟨_, _, rfl, ?_, ?_⟩
    · rw [he]
      have : min (alignM V p) (alignM V q) ≤ max (alignM V p) (alignM V q) := by omega
      omega
    · rw [he]; exact n2
  · rw [if_neg h1]
    exact ⟨_, _, rfl, by omega, by omega⟩
/-- d, y and cuts of the same bytes -/
theorem goes {S : List UInt8} {l : List RunP} {y : Nat} {F E : Nat} (hg : goodT S l = true) (hFE : F ≤ E) (hE : E ≤ S.length) :
    ∃ (C : List UInt8) (cl : List RunP) (U : List UInt8) (q : List RunP) (wide : Bool) (P : List UInt8) (pl : List RunP) (Q : List UInt8) (ql : List RunP), cutOf S l (F : Int) (E : Int) = ((C, cl), 0) ∧
      doM S l y 100 (F : Int) (E : Int) false = (⟨⟨(F : Int), C, cl, [], []⟩, C, cl, false, wide, (F : Int)⟩, 0) ∧
      doM S l y 121 (F : Int) (E : Int) false = (⟨⟨(F : Int), [], [], [], []⟩, C, cl, false, wide, (F : Int)⟩, 0) ∧
      applyE S l (F : Int) C cl [] [] = ((U, q), 0) ∧ applyE S l (F : Int) [] [] [] [] = ((S, l), 0) ∧
      cutOf S l 0 (F : Int) = ((P, pl), 0) ∧ cutOf S l (E : Int) (S.length : Int) = ((Q, ql), 0) ∧ catT P pl Q ql = ((U, q), 0) := by
  have h0 : (viewOf S l y).2 = 0 := by unfold viewOf; rw [if_pos hg]
  have hvl : S.length = (viewOf S l y).1.length := view_same h0
  have hr : rightM (viewOf S l y).1 (F : Int) (E : Int) false = true := by
    unfold rightM
    rw [if_neg (by decide)]
    exact decide_eq_true ⟨by omega, by omega, by omega⟩
  have hn : ¬ ((viewOf S l y).2 ≠ 0 ∨ rightM (viewOf S l y).1 (F : Int) (E : Int) false = false) := fun e => by
    rcases e with e | e
    · exact e h0
    · rw [hr] at e; cases e
  have hd := turned_del hg hFE hE y
  obtain ⟨_, ka, kw, _, ks, kX, km, kc, kap, _, _⟩ := turned_ok hd
  rcases hE1 : (turnedM S l y (F : Int) (E : Int) [] [] true).1.1 with ⟨a, C, cl, X, m⟩
  rw [hE1] at ka kX km kc kap
  dsimp only at ka kX km kc kap
  subst ka kX km
  have gs := goodT_size hg
  have w1 : withinT S l 0 (F : Int) = true := within_nat hg (Nat.zero_le F) (show F ≤ S.length by omega)
  have w2 := within_nat hg hE (Nat.le_refl _)
  have c1 : cutOf S l 0 (F : Int) = ((S.take F, pack ((bytesOf l).take F)), 0) := by
    unfold cutOf
    rw [if_pos w1]
    simp [cut]
  have c2 : cutOf S l (E : Int) (S.length : Int) = ((S.drop E, pack ((bytesOf l).drop E)), 0) := by
    unfold cutOf
    rw [if_pos w2]
    have e1 : ((E : Int)).toNat = E := by omega
    have e2 : ((S.length : Int) - (E : Int)).toNat = S.length - E := by omega
    unfold cut
    rw [e1, e2, List.take_of_length_le (by rw [List.length_drop]; omega), List.take_of_length_le (by rw [List.length_drop]; omega)]
  have g1 := cut_good (S := S) (l := l) (f := 0) (t := (F : Int)) (by rw [c1])
  have g2 := cut_good (S := S) (l := l) (f := (E : Int)) (t := (S.length : Int)) (by rw [c2])
  rw [c1] at g1
  rw [c2] at g2
  have hcat := catT_two g1 g2
  rw [if_pos (by rw [List.length_take, List.length_drop]; omega), bytesOf_pack, bytesOf_pack] at hcat
  have hsp : spliceT S l (F : Int) (E : Int) [] [] = ((S.take F ++ S.drop E, pack ((bytesOf l).take F ++ (bytesOf l).drop E)), 0) := by
    obtain ⟨q1, q2, q3⟩ := spliceT_zero ks
    unfold spliceT
    rw [if_pos ⟨q1, q2⟩, if_pos q3]
    have e0 : bytesOf ([] : List RunP) = [] := rfl
    rw [e0]
    simp
  refine ⟨C, cl, S.take F ++ S.drop E, pack ((bytesOf l).take F ++ (bytesOf l).drop E), false || decide (1 < countL (((viewOf S l y).1.drop (F : Int).toNat).take ((E : Int).toNat - (F : Int).toNat))), S.take F, pack ((bytesOf l).take F), S.drop E, pack ((bytesOf l).drop E), kc, ?_, ?_, by rw [kap, hsp], apply_none hg (by omega), c1, c2, hcat⟩
  · unfold doM
    dsimp only
    rw [if_neg hn, if_pos (.inl rfl)]
    unfold takenM
    dsimp only
    have hb : bytesM (viewOf S l y).1 (F : Int) (E : Int) false = ((F : Int), (E : Int)) := if_neg (by decide)
    rw [hb]
    dsimp only
    rw [if_neg (by decide), if_neg (fun e => absurd e.2 (by decide)), hE1, kc]
  · unfold doM
    dsimp only
    rw [if_neg hn, if_pos (.inr (.inl rfl))]
    unfold takenM
    dsimp only
    have hb : bytesM (viewOf S l y).1 (F : Int) (E : Int) false = ((F : Int), (E : Int)) := if_neg (by decide)
    rw [hb]
    dsimp only
    rw [if_pos rfl, kc]
end Go.Proofs.YtgpmfkedcoiopaaGreatDoor
