/-
  What a substitution answers, as plain facts: layer 15.
-/
import Derived.Test.YtgmeamefbfgbgaaDoorSuPlac
import Derived.Test.YtgmeamefbfgbgaaDoorM04s
namespace Go.Proofs.YtgmeamefbfgbgaaDoor
open Go.RowKit

/-- what is so if a substitution is made -/
structure SubP (S : List UInt8) (l : List RunP) (y : Nat) (A B : Nat) (pat rep : List UInt8) (every : Bool) (V : List UInt8) (P : List Nat) : Prop where
  g : goodT S l = true
  v : V = viewTo S (bytesOf l) y
  vl : V.length = S.length
  ab : A ≤ B
  bc : B < countL V
  m : 0 < pat.length
  nl : countL pat = 1
  r : rep.length ≤ 4096
  p : P = placesL S V (bytesOf l) y pat every A (B + 1 - A)
  apart : Apart pat.length (begL V A) (endL V B) P
  fit : (S.length : Int) + (P.length : Int) * ((rep.length : Int) - (pat.length : Int)) ≤ 4096
section
variable {S : List UInt8} {l : List RunP} {y A B : Nat} {pat rep : List UInt8} {every : Bool} {V : List UInt8} {P : List Nat}
theorem SubP.le (h : SubP S l y A B pat rep every V P) : begL V A ≤ endL V B ∧ endL V B ≤ S.length := by
  have h1 := beg_mono h.ab h.bc
  have h2 := beg_end h.bc
  have h3 := end_le h.bc
  have h4 := h.vl
  omega
theorem SubP.lab (h : SubP S l y A B pat rep every V P) : (bytesOf l).length = S.length := (goodT_size h.g).2.2
/-- how long what comes is -/
theorem SubP.len {α : Type} (h : SubP S l y A B pat rep every V P) (x r : List α) (hx : x.length = S.length) (hr : r.length = rep.length) :
    (putsL ((x.drop (begL V A)).take (endL V B - begL V A)) (begL V A) pat.length r P).length + P.length * pat.length = endL V B - begL V A + P.length * rep.length := by
  have hle := h.le
  have e : ((x.drop (begL V A)).take (endL V B - begL V A)).length = endL V B - begL V A := by rw [List.length_take, List.length_drop]; omega
  have := putsL_len r P ((x.drop (begL V A)).take (endL V B - begL V A)) (begL V A) (by rw [e, show begL V A + (endL V B - begL V A) = endL V B by omega]; exact h.apart)
  rw [e, hr] at this
  exact this
theorem SubP.short (h : SubP S l y A B pat rep every V P) {n : Nat} (hn : n + P.length * pat.length = endL V B - begL V A + P.length * rep.length) : n ≤ 4096 ∧ (S.length : Int) - ((endL V B : Int) - (begL V A : Int)) + (n : Int) ≤ 4096 := by
  have hle := h.le
  have hf := h.fit
  rw [Int.mul_sub] at hf
  have c1 : ((P.length * pat.length : Nat) : Int) = (P.length : Int) * (pat.length : Int) := Int.natCast_mul _ _
  have c2 : ((P.length * rep.length : Nat) : Int) = (P.length : Int) * (rep.length : Int) := Int.natCast_mul _ _
  generalize P.length * pat.length = u at *
  generalize P.length * rep.length = q at *
  omega
/-- what comes is a good text -/
theorem SubP.goodX (h : SubP S l y A B pat rep every V P) : goodT (putsL ((S.drop (begL V A)).take (endL V B - begL V A)) (begL V A) pat.length rep P) (pack (putsL (((bytesOf l).drop (begL V A)).take (endL V B - begL V A)) (begL V A) pat.length (List.replicate rep.length y) P)) = true := by
  have h1 := h.len S rep rfl rfl
  have h2 := h.len (bytesOf l) (List.replicate rep.length y) h.lab List.length_replicate
  have h3 := (h.short h2).1
  exact (goodT_iff _ _).2 ⟨goodB_pack h3, by rw [bytesOf_pack]; omega⟩
/-- the edit is made -/
theorem SubP.made (h : SubP S l y A B pat rep every V P) : ofE S l (begL V A : Nat) (endL V B : Nat) (putsL ((S.drop (begL V A)).take (endL V B - begL V A)) (begL V A) pat.length rep P) (pack (putsL (((bytesOf l).drop (begL V A)).take (endL V B - begL V A)) (begL V A) pat.length (List.replicate rep.length y) P)) =
    (⟨(begL V A : Nat), (S.drop (begL V A)).take (endL V B - begL V A), pack (((bytesOf l).drop (begL V A)).take (endL V B - begL V A)), putsL ((S.drop (begL V A)).take (endL V B - begL V A)) (begL V A) pat.length rep P, pack (putsL (((bytesOf l).drop (begL V A)).take (endL V B - begL V A)) (begL V A) pat.length (List.replicate rep.length y) P)⟩, 0) := by
  have hle := h.le
  have hw : withinT S l (begL V A : Nat) (endL V B : Nat) = true := by
    unfold withinT
    rw [h.g, decide_eq_true (by omega : (0 : Int) ≤ (begL V A : Nat)), decide_eq_true (by omega : ((begL V A : Nat) : Int) ≤ (endL V B : Nat)), decide_eq_true (by omega : ((endL V B : Nat) : Int) ≤ (S.length : Int))]
    rfl
  have hc : cutOf S l (begL V A : Nat) (endL V B : Nat) = (((S.drop (begL V A)).take (endL V B - begL V A), pack (((bytesOf l).drop (begL V A)).take (endL V B - begL V A))), 0) := by
    unfold cutOf
    rw [if_pos hw]
    unfold cut
    rw [Int.toNat_natCast, show ((endL V B : Nat) : Int) - ((begL V A : Nat) : Int) = ((endL V B - begL V A : Nat) : Int) by omega, Int.toNat_natCast]
  have hs := spliceT_ok hw h.goodX (h.short (h.len S rep rfl rfl)).2
  unfold ofE
  rw [if_pos (by rw [hc]), if_pos (by rw [hs]), hc]
/-- the text behind -/
theorem SubP.apply (h : SubP S l y A B pat rep every V P) {xs : List UInt8} {xl : List Nat} (e1 : putsL ((S.drop (begL V A)).take (endL V B - begL V A)) (begL V A) pat.length rep P = xs) (e2 : putsL (((bytesOf l).drop (begL V A)).take (endL V B - begL V A)) (begL V A) pat.length (List.replicate rep.length y) P = xl) :
    applyE S l (begL V A : Nat) ((S.drop (begL V A)).take (endL V B - begL V A)) (pack (((bytesOf l).drop (begL V A)).take (endL V B - begL V A))) xs (pack xl) =
      ((S.take (begL V A) ++ xs ++ S.drop (endL V B), pack ((bytesOf l).take (begL V A) ++ xl ++ (bytesOf l).drop (endL V B))), 0) := by
  have hle := h.le
  have hm := h.made
  rw [e1, e2] at hm
  obtain ⟨_, _, _, _, h5, h6⟩ := of_apply hm
  rw [h5]
  have hw : withinT S l (begL V A : Nat) (endL V B : Nat) = true ∧ goodT xs (pack xl) = true ∧ _ := spliceT_zero h6
  rw [spliceT_ok hw.1 hw.2.1 hw.2.2, bytesOf_pack, Int.toNat_natCast, Int.toNat_natCast]
theorem subS_ok (h : SubP S l y A B pat rep every V P) (hP : P ≠ []) : subS S l y A B pat rep every = ((⟨(begL V A : Nat), (S.drop (begL V A)).take (endL V B - begL V A), pack (((bytesOf l).drop (begL V A)).take (endL V B - begL V A)), putsL ((S.drop (begL V A)).take (endL V B - begL V A)) (begL V A) pat.length rep P, pack (putsL (((bytesOf l).drop (begL V A)).take (endL V B - begL V A)) (begL V A) pat.length (List.replicate rep.length y) P)⟩, P.length), 0) := by
  have hv : viewOf S l y = (V, 0) := by unfold viewOf; rw [if_pos h.g, h.v]
  have hm : mayS V (A : Int) (B : Int) pat rep = true := by
    have := h.ab; have := h.bc; have := h.m; have := h.r
    unfold mayS
    rw [decide_eq_true ⟨by omega, by omega, by omega, by omega, by omega⟩, decide_eq_true h.nl]; rfl
  unfold subS
  rw [hv]
  dsimp only
  rw [if_neg (by rw [hm]; simp), Int.toNat_natCast, Int.toNat_natCast, ← h.p, if_neg hP, if_neg (Int.not_lt.2 h.fit)]
  rw [h.made, if_neg (by simp)]
/-- what a made substitution tells -/
theorem subS_zero {S : List UInt8} {l : List RunP} {y : Nat} {A B : Int} {pat rep : List UInt8} {every : Bool} (h : (subS S l y A B pat rep every).2 = 0) :
    ∃ a b V P, A = ((a : Nat) : Int) ∧ B = ((b : Nat) : Int) ∧ P ≠ [] ∧ SubP S l y a b pat rep every V P := by
  unfold subS at h
  by_cases h1 : (viewOf S l y).2 ≠ 0 ∨ mayS (viewOf S l y).1 A B pat rep = false
  · rw [if_pos h1] at h; cases h
  · rw [if_neg h1] at h
    dsimp only at h
    have hv : (viewOf S l y).2 = 0 := Decidable.byContradiction fun e => h1 (.inl e)
    have hm : mayS (viewOf S l y).1 A B pat rep = true := by
      cases hh : mayS (viewOf S l y).1 A B pat rep with
      | true => rfl
      | false => exact absurd (.inr hh) h1
    have hg : goodT S l = true := by
      cases hh : goodT S l with
      | true => rfl
      | false => unfold viewOf at hv; rw [if_neg (by rw [hh]; decide)] at hv; cases hv
    have hV : (viewOf S l y).1 = viewTo S (bytesOf l) y := by unfold viewOf; rw [if_pos hg]
    generalize (viewOf S l y).1 = V at *
    unfold mayS at hm
    rw [Bool.and_eq_true, decide_eq_true_iff, decide_eq_true_iff] at hm
    obtain ⟨⟨m1, m2, m3, m4, m5⟩, m6⟩ := hm
    obtain ⟨a, rfl⟩ : ∃ a : Nat, A = (a : Int) := ⟨A.toNat, by omega⟩
    obtain ⟨b, rfl⟩ : ∃ b : Nat, B = (b : Int) := ⟨B.toNat, by omega⟩
    rw [Int.toNat_natCast, Int.toNat_natCast] at h
    have hap : Apart pat.length (begL V a) (endL V b) (placesL S V (bytesOf l) y pat every a (b + 1 - a)) := by
      have := placesL_apart (S := S) (V := V) (L := bytesOf l) (y := y) (pat := pat) (every := every) (A := a) (b - a) (by omega)
      rw [show a + (b - a) = b by omega, show b - a + 1 = b + 1 - a by omega] at this
      exact this
    generalize hPd : placesL S V (bytesOf l) y pat every a (b + 1 - a) = P at *
    by_cases hP : P = []
    · rw [if_pos hP] at h; cases h
    · rw [if_neg hP] at h
      by_cases hb : (S.length : Int) + (P.length : Int) * ((rep.length : Int) - (pat.length : Int)) > 4096
      · rw [if_pos hb] at h; cases h
      · exact ⟨a, b, V, P, rfl, rfl, hP, ⟨hg, hV, by rw [hV, viewTo_len (goodT_size hg).2.2], by omega, by omega, m4, m6, m5, hPd.symm, hap, by omega⟩⟩
/-- a refused one has no answer -/
theorem subS_err {S : List UInt8} {l : List RunP} {y : Nat} {A B : Int} {pat rep : List UInt8} {every : Bool} (h : (subS S l y A B pat rep every).2 ≠ 0) : (subS S l y A B pat rep every).1 = (⟨0, [], [], [], []⟩, 0) := by
  unfold subS at h ⊢
  split
  · rfl
  · next h1 =>
    rw [if_neg h1] at h
    dsimp only at h ⊢
    split
    · rfl
    · next h2 =>
      rw [if_neg h2] at h
      split
      · rfl
      · next h3 =>
        rw [if_neg h3] at h
        split
        · rfl
        · next h4 =>
          rw [if_neg h4] at h
          exact absurd rfl h
end
end Go.Proofs.YtgmeamefbfgbgaaDoor
