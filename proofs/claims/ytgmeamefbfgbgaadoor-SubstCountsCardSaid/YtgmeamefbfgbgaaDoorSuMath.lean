/-
  Occurrences of a text in lines, and what comes in their place, as plain functions: layer 15.
-/
import Derived.Test.YtgmeamefbfgbgaaDoorM07e
import Derived.Test.YtgmeamefbfgbgaaDoorM06r
namespace Go.Proofs.YtgmeamefbfgbgaaDoor
open Go.RowKit

/-- some elements of a list in place of others -/
def putL {α : Type} (x : List α) (f t : Nat) (r : List α) : List α := x.take f ++ r ++ x.drop t
/-- does a text stand at a place, ahead of an end, with no byte hidden? -/
def standsS (S : List UInt8) (L : List Nat) (y : Nat) (pat : List UInt8) (a z : Nat) : Bool :=
  decide (a + pat.length ≤ z) && (List.range pat.length).all fun i => decide (S[a + i]? = pat[i]?) && subB (L.getD (a + i) 0) y
theorem standsS_iff (S : List UInt8) (L : List Nat) (y : Nat) (pat : List UInt8) (a z : Nat) :
    standsS S L y pat a z = true ↔ a + pat.length ≤ z ∧ ∀ i, i < pat.length → S[a + i]? = pat[i]? ∧ subB (L.getD (a + i) 0) y = true := by
  unfold standsS
  simp
/-- the places of a line, from a place on -/
def placesAt (S : List UInt8) (L : List Nat) (y : Nat) (pat : List UInt8) (every : Bool) (z : Nat) : Nat → Nat → List Nat
  | 0, _ => []
  | k + 1, a => if a < z then (if standsS S L y pat a z = true then a :: (if every = true then placesAt S L y pat every z k (a + pat.length) else []) else placesAt S L y pat every z k (a + 1)) else []
section
variable {S : List UInt8} {L : List Nat} {y : Nat} {pat : List UInt8} {every : Bool} {z : Nat}
theorem placesAt_end (k : Nat) {a : Nat} (h : z ≤ a) : placesAt S L y pat every z k a = [] := by
  cases k with
  | zero => rfl
  | succ k => exact if_neg (by omega)
theorem placesAt_fuel (hp : 0 < pat.length) : ∀ (k k' a : Nat), z ≤ a + k → z ≤ a + k' → placesAt S L y pat every z k a = placesAt S L y pat every z k' a := by
  intro k
  induction k with
  | zero => intro k' a h _; rw [placesAt_end _ (by omega), placesAt_end _ (by omega)]
  | succ k ih =>
    intro k' a h h'
    cases k' with
    | zero => rw [placesAt_end _ (by omega), placesAt_end _ (by omega)]
    | succ k' =>
      unfold placesAt
      by_cases ha : a < z
      · rw [if_pos ha, if_pos ha, ih k' (a + pat.length) (by omega) (by omega), ih k' (a + 1) (by omega) (by omega)]
      · rw [if_neg ha, if_neg ha]
end
/-- the places of a line -/
def placesN (S V : List UInt8) (L : List Nat) (y : Nat) (pat : List UInt8) (every : Bool) (n : Nat) : List Nat :=
  placesAt S L y pat every (endL V n) (endL V n - begL V n) (begL V n)
/-- the places of so many lines -/
def placesL (S V : List UInt8) (L : List Nat) (y : Nat) (pat : List UInt8) (every : Bool) (A k : Nat) : List Nat :=
  (List.range' A k).flatMap (placesN S V L y pat every)
def mayS (V : List UInt8) (A B : Int) (pat rep : List UInt8) : Bool :=
  decide (0 ≤ A ∧ A ≤ B ∧ B < (countL V : Int) ∧ 0 < pat.length ∧ rep.length ≤ 4096) && decide (countL pat = 1)
/-- what comes in place of the places' texts: from the last one on -/
def putsL {α : Type} (x : List α) (off m : Nat) (r : List α) (P : List Nat) : List α := P.foldr (fun p x => putL x (p - off) (p - off + m) r) x
/-- an edit, how many places, and the error -/
def subS (S : List UInt8) (l : List RunP) (y : Nat) (A B : Int) (pat rep : List UInt8) (every : Bool) : (EdP × Nat) × Nat :=
  if (viewOf S l y).2 ≠ 0 ∨ mayS (viewOf S l y).1 A B pat rep = false then ((⟨0, [], [], [], []⟩, 0), 2) else
  let V := (viewOf S l y).1
  let P := placesL S V (bytesOf l) y pat every A.toNat (B.toNat + 1 - A.toNat)
  if P = [] then ((⟨0, [], [], [], []⟩, 0), 6) else
  if (S.length : Int) + (P.length : Int) * ((rep.length : Int) - (pat.length : Int)) > 4096 then ((⟨0, [], [], [], []⟩, 0), 3) else
  let f := begL V A.toNat
  let t := endL V B.toNat
  let xs := putsL ((S.drop f).take (t - f)) f pat.length rep P
  let xl := putsL (((bytesOf l).drop f).take (t - f)) f pat.length (List.replicate rep.length y) P
  if (ofE S l f t xs (pack xl)).2 ≠ 0 then ((⟨0, [], [], [], []⟩, 0), (ofE S l f t xs (pack xl)).2) else
  (((ofE S l f t xs (pack xl)).1, P.length), 0)

/-- places that lie apart, from a place on, up z another -/
def Apart (m : Nat) : Nat → Nat → List Nat → Prop
  | f, t, [] => f ≤ t
  | f, t, p :: P => f ≤ p ∧ Apart m (p + m) t P
section
variable {m f t : Nat} {P Q : List Nat}
theorem Apart.le (h : Apart m f t P) : f + P.length * m ≤ t := by
  induction P generalizing f with
  | nil => simpa [Apart] using h
  | cons p P ih => have := ih h.2; have := h.1; rw [List.length_cons, Nat.succ_mul]; omega
theorem Apart.front {f' : Nat} (h : Apart m f t P) (hf : f' ≤ f) : Apart m f' t P := by
  cases P with
  | nil => exact Nat.le_trans hf h
  | cons p P => exact ⟨Nat.le_trans hf h.1, h.2⟩
theorem Apart.back {t' : Nat} (h : Apart m f t P) (ht : t ≤ t') : Apart m f t' P := by
  induction P generalizing f with
  | nil => exact Nat.le_trans h ht
  | cons p P ih => exact ⟨h.1, ih h.2⟩
theorem Apart.append {k : Nat} (h : Apart m f k P) (g : Apart m k t Q) : Apart m f t (P ++ Q) := by
  induction P generalizing f with
  | nil => exact g.front h
  | cons p P ih => exact ⟨h.1, ih h.2⟩
theorem Apart.mem (h : Apart m f t P) : ∀ p ∈ P, f ≤ p ∧ p + m ≤ t := by
  induction P generalizing f with
  | nil => intro p hp; simp at hp
  | cons q P ih =>
    intro p hp
    have hl := h.2.le
    rcases List.mem_cons.1 hp with rfl | hp
    · exact ⟨h.1, by omega⟩
    · have := ih h.2 p hp; have := h.1; omega
end
section
variable {α : Type}
theorem putsL_nil (x : List α) (off m : Nat) (r : List α) : putsL x off m r [] = x := rfl
theorem putsL_cons (x : List α) (off m : Nat) (r : List α) (p : Nat) (P : List Nat) : putsL x off m r (p :: P) = putL (putsL x off m r P) (p - off) (p - off + m) r := rfl
/-- places behind the first ones leave those alone -/
theorem putsL_split {m : Nat} (r : List α) : ∀ (P : List Nat) (x : List α) (off k : Nat), off ≤ k → k - off ≤ x.length → Apart m k (off + x.length) P → putsL x off m r P = x.take (k - off) ++ putsL (x.drop (k - off)) k m r P := by
  intro P
  induction P with
  | nil => intro x off k _ _ _; exact (List.take_append_drop _ _).symm
  | cons p P ih =>
    intro x off k hk hx h
    have hl := h.2.le
    have h1 := h.1
    rw [putsL_cons, putsL_cons, ih x off k hk hx (h.2.front (by omega))]
    unfold putL
    have e1 : (x.take (k - off)).length = k - off := by rw [List.length_take]; omega
    generalize x.take (k - off) = u at *
    rw [List.take_append, List.drop_append, List.take_of_length_le (l := u) (by omega), (List.drop_eq_nil_of_le (by omega) : u.drop _ = []), e1]
    rw [show p - off - (k - off) = p - k by omega, show p - off + m - (k - off) = p - k + m by omega]
    simp
/-- the first place, and the rest -/
theorem putsL_first {m : Nat} (r : List α) {p : Nat} {P : List Nat} {x : List α} {off : Nat} (h : Apart m off (off + x.length) (p :: P)) :
    putsL x off m r (p :: P) = x.take (p - off) ++ r ++ putsL (x.drop (p + m - off)) (p + m) m r P := by
  have hl := h.2.le
  have h1 := h.1
  rw [putsL_cons, putsL_split r P x off (p + m) (by omega) (by omega) h.2]
  unfold putL
  have e1 : (x.take (p + m - off)).length = p + m - off := by rw [List.length_take]; omega
  have e2 : (x.take (p + m - off)).take (p - off) = x.take (p - off) := by rw [List.take_take]; congr 1; omega
  generalize x.take (p + m - off) = u at *
  rw [List.take_append, List.drop_append, e2, e1, show p - off + m = p + m - off by omega, Nat.sub_self, (List.drop_eq_nil_of_le (by omega) : u.drop _ = []), show p - off - (p + m - off) = 0 by omega]
  simp
theorem putsL_len {m : Nat} (r : List α) : ∀ (P : List Nat) (x : List α) (off : Nat), Apart m off (off + x.length) P → (putsL x off m r P).length + P.length * m = x.length + P.length * r.length := by
  intro P
  induction P with
  | nil => intro x off _; simp [putsL_nil]
  | cons p P ih =>
    intro x off h
    have hl := h.2.le
    have h1 := h.1
    have h2 := ih (x.drop (p + m - off)) (p + m) (by rw [List.length_drop, show p + m + (x.length - (p + m - off)) = off + x.length by omega]; exact h.2)
    rw [putsL_first r h]
    simp only [List.length_append, List.length_take, List.length_drop, List.length_cons, Nat.succ_mul] at *
    omega
end
end Go.Proofs.YtgmeamefbfgbgaaDoor
