/-
  Substitution in texts that are alike for a level, as plain facts: layer 15.
-/
import Derived.Test.YtgmeamefbfgbgaaDoorSuFact
namespace Go.Proofs.YtgmeamefbfgbgaaDoor
open Go.RowKit

theorem LikeT.lenS {S T : List UInt8} {bs : List Nat} {y : Nat} (h : LikeT S T bs y) : S.length = T.length := by rw [← h.hS, h.hT]
/-- a good text, and another one that is alike for a level -/
structure TwinS (S T : List UInt8) (l : List RunP) (y : Nat) : Prop where
  g : goodT S l = true
  gT : goodT T l = true
  k : LikeT S T (bytesOf l) y
theorem TwinS.view {S T : List UInt8} {l : List RunP} {y : Nat} (h : TwinS S T l y) : viewOf S l y = viewOf T l y := by
  unfold viewOf
  rw [if_pos h.g, if_pos h.gT, h.k.same]
/-- the four ways of a substitution -/
theorem subS_ways (S : List UInt8) (l : List RunP) (y : Nat) (A B : Int) (pat rep : List UInt8) (every : Bool) :
    (((viewOf S l y).2 ≠ 0 ∨ mayS (viewOf S l y).1 A B pat rep = false) ∧ subS S l y A B pat rep every = ((⟨0, [], [], [], []⟩, 0), 2)) ∨
    (¬((viewOf S l y).2 ≠ 0 ∨ mayS (viewOf S l y).1 A B pat rep = false) ∧ placesL S (viewOf S l y).1 (bytesOf l) y pat every A.toNat (B.toNat + 1 - A.toNat) = [] ∧ subS S l y A B pat rep every = ((⟨0, [], [], [], []⟩, 0), 6)) ∨
    (¬((viewOf S l y).2 ≠ 0 ∨ mayS (viewOf S l y).1 A B pat rep = false) ∧ placesL S (viewOf S l y).1 (bytesOf l) y pat every A.toNat (B.toNat + 1 - A.toNat) ≠ [] ∧ (S.length : Int) + ((placesL S (viewOf S l y).1 (bytesOf l) y pat every A.toNat (B.toNat + 1 - A.toNat)).length : Int) * ((rep.length : Int) - (pat.length : Int)) > 4096 ∧ subS S l y A B pat rep every = ((⟨0, [], [], [], []⟩, 0), 3)) ∨
    (∃ a b V P, A = ((a : Nat) : Int) ∧ B = ((b : Nat) : Int) ∧ P ≠ [] ∧ SubP S l y a b pat rep every V P) := by
  by_cases h1 : (viewOf S l y).2 ≠ 0 ∨ mayS (viewOf S l y).1 A B pat rep = false
  · left
    exact ⟨h1, by unfold subS; rw [if_pos h1]⟩
  · right
    by_cases hP : placesL S (viewOf S l y).1 (bytesOf l) y pat every A.toNat (B.toNat + 1 - A.toNat) = []
    · left
      exact ⟨h1, hP, by unfold subS; rw [if_neg h1]; dsimp only; rw [if_pos hP]⟩
    · right
      by_cases hb : (S.length : Int) + ((placesL S (viewOf S l y).1 (bytesOf l) y pat every A.toNat (B.toNat + 1 - A.toNat)).length : Int) * ((rep.length : Int) - (pat.length : Int)) > 4096
      · left
        exact ⟨h1, hP, hb, by unfold subS; rw [if_neg h1]; dsimp only; rw [if_neg hP, if_pos hb]⟩
      · right
        have hv : (viewOf S l y).2 = 0 := Decidable.byContradiction fun e => h1 (.inl e)
        have hm : mayS (viewOf S l y).1 A B pat rep = true := by
          cases hh : mayS (viewOf S l y).1 A B pat rep with
          | true => rfl
          | false => exact absurd (.inr hh) h1
        have hg : goodT S l = true := by
          cases hh : goodT S l with
          | true => rfl
          | false => unfold viewOf at hv; rw [if_neg (by rw [hh]; decide)] at hv; cases hv
        have hV : (viewOf S l y).1 = viewTo S (bytesOf l) y := by unfold viewOf; rw [if_pos hg]
        generalize (viewOf S l y).1 = V at *
        unfold mayS at hm
        rw [Bool.and_eq_true, decide_eq_true_iff, decide_eq_true_iff] at hm
        obtain ⟨⟨m1, m2, m3, m4, m5⟩, m6⟩ := hm
        obtain ⟨a, rfl⟩ : ∃ a : Nat, A = (a : Int) := ⟨A.toNat, by omega⟩
        obtain ⟨b, rfl⟩ : ∃ b : Nat, B = (b : Int) := ⟨B.toNat, by omega⟩
        rw [Int.toNat_natCast, Int.toNat_natCast] at hP hb
        have hap := placesL_apart (S := S) (V := V) (L := bytesOf l) (y := y) (pat := pat) (every := every) (A := a) (b - a) (by omega)
        rw [show a + (b - a) = b by omega, show b - a + 1 = b + 1 - a by omega] at hap
        exact ⟨a, b, V, _, rfl, rfl, hP, ⟨hg, hV, by rw [hV, viewTo_len (goodT_size hg).2.2], by omega, by omega, m4, m6, m5, rfl, hap, by omega⟩⟩
section
variable {S T : List UInt8} {L : List Nat} {y : Nat}
theorem LikeT.seen (h : LikeT S T L y) {i : Nat} (hs : subB (L.getD i 0) y = true) : S[i]? = T[i]? := by
  rw [← view_seen h.hS hs, h.same, view_seen h.hT hs]
theorem stand_like (h : LikeT S T L y) (pat : List UInt8) (a z : Nat) : standsS S L y pat a z = standsS T L y pat a z := by
  rw [Bool.eq_iff_iff, standsS_iff, standsS_iff]
  constructor
  · rintro ⟨h1, h2⟩
    exact ⟨h1, fun i hi => ⟨by rw [← h.seen (h2 i hi).2]; exact (h2 i hi).1, (h2 i hi).2⟩⟩
  · rintro ⟨h1, h2⟩
    exact ⟨h1, fun i hi => ⟨by rw [h.seen (h2 i hi).2]; exact (h2 i hi).1, (h2 i hi).2⟩⟩
theorem placesAt_like (h : LikeT S T L y) (pat : List UInt8) (every : Bool) (z : Nat) : ∀ k a, placesAt S L y pat every z k a = placesAt T L y pat every z k a := by
  intro k
  induction k with
  | zero => intro a; rfl
  | succ k ih => intro a; unfold placesAt; rw [stand_like h, ih, ih]
theorem placesL_like (h : LikeT S T L y) (V pat : List UInt8) (every : Bool) (A k : Nat) : placesL S V L y pat every A k = placesL T V L y pat every A k := by
  unfold placesL
  congr 1
  funext n
  exact placesAt_like h pat every _ _ _
theorem puts_like {m : Nat} (r : List UInt8) : ∀ (P : List Nat) (x x' : List UInt8) (lx : List Nat) (off : Nat), LikeT x x' lx y → Apart m off (off + x.length) P → LikeT (putsL x off m r P) (putsL x' off m r P) (putsL lx off m (List.replicate r.length y) P) y := by
  intro P
  induction P with
  | nil => intro x x' lx off h _; exact h
  | cons p P ih =>
    intro x x' lx off h ha
    have hl := ha.2.le
    have h1 := ha.1
    rw [putsL_first r ha, putsL_first r (by rw [← h.lenS]; exact ha), putsL_first (List.replicate r.length y) (by rw [h.hS]; exact ha)]
    refine ((h.take _).append ⟨List.length_replicate, List.length_replicate, rfl⟩).append (ih _ _ _ _ (h.drop _) ?_)
    rw [List.length_drop, show p + m + (x.length - (p + m - off)) = off + x.length by omega]
    exact ha.2
end
theorem SubP.twin {S T : List UInt8} {l : List RunP} {y a b : Nat} {pat rep : List UInt8} {every : Bool} {V : List UInt8} {P : List Nat} (H : SubP S l y a b pat rep every V P) (h : TwinS S T l y) : SubP T l y a b pat rep every V P :=
  ⟨h.gT, by rw [H.v, h.k.same], by rw [H.vl, h.k.lenS], H.ab, H.bc, H.m, H.nl, H.r, by rw [H.p, placesL_like h.k], H.apart, by have := H.fit; rw [← h.k.lenS]; exact this⟩
/-- alike for a level: what is done to alike texts -/
theorem sub_hides {S T : List UInt8} {l : List RunP} {y : Nat} (h : TwinS S T l y) (A B : Int) (pat rep : List UInt8) (every : Bool) :
    (subS S l y A B pat rep every).2 = (subS T l y A B pat rep every).2 ∧ (subS S l y A B pat rep every).1.2 = (subS T l y A B pat rep every).1.2 ∧ (subS S l y A B pat rep every).1.1.a = (subS T l y A B pat rep every).1.1.a ∧
    lowT (subS S l y A B pat rep every).1.1.S (subS T l y A B pat rep every).1.1.S (subS S l y A B pat rep every).1.1.l (subS T l y A B pat rep every).1.1.l y = true ∧
    lowT (subS S l y A B pat rep every).1.1.X (subS T l y A B pat rep every).1.1.X (subS S l y A B pat rep every).1.1.m (subS T l y A B pat rep every).1.1.m y = true := by
  have hnil : lowT [] [] [] [] y = true := by
    unfold lowT
    rw [decide_eq_true_iff]
    exact ⟨rfl, rfl, rfl, rfl⟩
  have hv := h.view
  have hp := fun V => placesL_like h.k V pat every A.toNat (B.toNat + 1 - A.toNat)
  have hl := h.k.lenS
  rcases subS_ways S l y A B pat rep every with ⟨h1, h2⟩ | ⟨h1, h2, h3⟩ | ⟨h1, h2, h3, h4⟩ | ⟨a, b, V, P, rfl, rfl, hP, H⟩
  · have g2 : subS T l y A B pat rep every = ((⟨0, [], [], [], []⟩, 0), 2) := by rw [hv] at h1; unfold subS; rw [if_pos h1]
    rw [h2, g2]
    exact ⟨rfl, rfl, rfl, hnil, hnil⟩
  · have g2 : subS T l y A B pat rep every = ((⟨0, [], [], [], []⟩, 0), 6) := by
      rw [hp, hv] at h2; rw [hv] at h1; unfold subS; rw [if_neg h1]; dsimp only; rw [if_pos h2]
    rw [h3, g2]
    exact ⟨rfl, rfl, rfl, hnil, hnil⟩
  · have g2 : subS T l y A B pat rep every = ((⟨0, [], [], [], []⟩, 0), 3) := by
      rw [hp, hv] at h2; rw [hp, hv, hl] at h3; rw [hv] at h1; unfold subS; rw [if_neg h1]; dsimp only; rw [if_neg h2, if_pos h3]
    rw [h4, g2]
    exact ⟨rfl, rfl, rfl, hnil, hnil⟩
  · rw [subS_ok H hP, subS_ok (H.twin h) hP]
    have hle := H.le
    have hk := ((h.k.drop (begL V a)).take (endL V b - begL V a))
    refine ⟨rfl, rfl, rfl, hk.low ?_, (puts_like rep P _ _ _ _ hk (H.apartX S rfl)).low ?_⟩
    · rw [H.cutLen _ H.lab]; have := goodT_size h.g; omega
    · exact (H.short (H.len (bytesOf l) (List.replicate rep.length y) H.lab List.length_replicate)).1
end Go.Proofs.YtgmeamefbfgbgaaDoor
