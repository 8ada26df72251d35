/-
  Pairs of brackets: what stands between is balanced; pairs of quotes: no quote stands between: layer 13, as plain lists.
-/
import Derived.Test.YtnkhlallnblfmaaM13r
namespace Go.Proofs.Ytnkhlallnblfmaa
open Go.RowKit

/-- how deep one is behind j bytes from f on -/
def depO (S : List UInt8) (o s : UInt8) (f : Nat) : Nat → Int
  | 0 => 0
  | j + 1 => depO S o s f j + (if S.getD (f + j) 0 = o then 1 else 0) - (if S.getD (f + j) 0 = s then 1 else 0)
theorem depO_add (S : List UInt8) (o s : UInt8) (f i : Nat) : ∀ j, depO S o s f (i + j) = depO S o s f i + depO S o s (f + i) j
  | 0 => by show _ = _ + 0; rw [Nat.add_zero]; omega
  | j + 1 => by
    have ih := depO_add S o s f i j
    show depO S o s f (i + j) + (if S.getD (f + (i + j)) 0 = o then 1 else 0) - (if S.getD (f + (i + j)) 0 = s then 1 else 0) = depO S o s f i + (depO S o s (f + i) j + (if S.getD (f + i + j) 0 = o then 1 else 0) - (if S.getD (f + i + j) 0 = s then 1 else 0))
    rw [ih, Nat.add_assoc]
    omega
/-- from f to t no more are shut than are open, and as many in all -/
def BalO (S : List UInt8) (o s : UInt8) (f t : Nat) : Prop := f ≤ t ∧ (∀ j, f + j ≤ t → 0 ≤ depO S o s f j) ∧ depO S o s f (t - f) = 0
section
variable {S : List UInt8} {o s : UInt8}
theorem BalO.nil (f : Nat) : BalO S o s f f := ⟨Nat.le_refl _, fun j hj => by
  obtain rfl : j = 0 := by omega
  exact Int.le_refl 0, by rw [Nat.sub_self]; rfl⟩
theorem BalO.app {f m t : Nat} (h1 : BalO S o s f m) (h2 : BalO S o s m t) : BalO S o s f t := by
  obtain ⟨a1, b1, c1⟩ := h1
  obtain ⟨a2, b2, c2⟩ := h2
  refine ⟨Nat.le_trans a1 a2, fun j hj => ?_, ?_⟩
  · rcases Nat.lt_or_ge j (m - f) with h | h
    · exact b1 j (by omega)
    · have e := depO_add S o s f (m - f) (j - (m - f))
      rw [show m - f + (j - (m - f)) = j by omega, show f + (m - f) = m by omega, c1] at e
      have := b2 (j - (m - f)) (by omega)
      omega
  · have e := depO_add S o s f (m - f) (t - m)
    rw [show m - f + (t - m) = t - f by omega, show f + (m - f) = m by omega, c1, c2] at e
    omega
theorem dep_one (f : Nat) : depO S o s f 1 = (if S.getD f 0 = o then 1 else 0) - (if S.getD f 0 = s then 1 else 0) := by
  show 0 + _ - _ = _
  rw [Nat.add_zero]
  omega
theorem BalO.other {f : Nat} (h1 : S.getD f 0 ≠ o) (h2 : S.getD f 0 ≠ s) : BalO S o s f (f + 1) := by
  refine ⟨Nat.le_succ _, fun j hj => ?_, ?_⟩
  · rcases (show j = 0 ∨ j = 1 by omega) with rfl | rfl
    · exact Int.le_refl 0
    · rw [dep_one, if_neg h1, if_neg h2]; decide
  · rw [Nat.add_sub_cancel_left, dep_one, if_neg h1, if_neg h2]; rfl
theorem BalO.pair {p i : Nat} (hos : o ≠ s) (h : BalO S o s (p + 1) i) (h1 : S.getD p 0 = o) (h2 : S.getD i 0 = s) : BalO S o s p (i + 1) := by
  obtain ⟨a, b, c⟩ := h
  have d1 : depO S o s p 1 = 1 := by rw [dep_one, if_pos h1, if_neg (by rw [h1]; exact hos)]; rfl
  have d2 : depO S o s i 1 = -1 := by rw [dep_one, if_neg (by rw [h2]; exact hos.symm), if_pos h2]; rfl
  have d3 : depO S o s p (1 + (i - (p + 1))) = 1 := by rw [depO_add, d1, c]; rfl
  have d4 : depO S o s p (i + 1 - p) = 0 := by
    have := depO_add S o s p (1 + (i - (p + 1))) 1
    rw [d3, show p + (1 + (i - (p + 1))) = i by omega, d2, show 1 + (i - (p + 1)) + 1 = i + 1 - p by omega] at this
    exact this
  refine ⟨by omega, fun j hj => ?_, d4⟩
  rcases Nat.eq_zero_or_pos j with rfl | hp
  · exact Int.le_refl 0
  · rcases Nat.lt_or_ge (p + j) (i + 1) with h | h
    · have := depO_add S o s p 1 (j - 1)
      rw [show 1 + (j - 1) = j by omega, d1] at this
      have := b (j - 1) (by omega)
      omega
    · rw [show j = i + 1 - p by omega, d4]
      exact Int.le_refl 0
end
/-- what is open, the last first: between any two, and behind the last, it is balanced -/
def OpenO (S : List UInt8) (o s : UInt8) : List Nat → Nat → Prop
  | [], _ => True
  | p :: M, i => p < i ∧ S.getD p 0 = o ∧ BalO S o s (p + 1) i ∧ OpenO S o s M p
def PairO (S : List UInt8) (o s : UInt8) (x : RwO) : Prop := x.1 < x.2.1 ∧ x.2.1 < S.length ∧ S.getD x.1 0 = o ∧ S.getD x.2.1 0 = s ∧ BalO S o s (x.1 + 1) x.2.1
theorem open_more {S : List UInt8} {o s : UInt8} {M : List Nat} {i t : Nat} (h : OpenO S o s M i) (hb : BalO S o s i t) : OpenO S o s M t := by
  cases M with
  | nil => trivial
  | cons p M =>
    obtain ⟨h1, h2, h3, h4⟩ := h
    exact ⟨by have := hb.1; omega, h2, h3.app hb, h4⟩
theorem brackets_pairs {S : List UInt8} {o s : UInt8} (hos : o ≠ s) : ∀ x ∈ bracketsM S o s, PairO S o s x := by
  have key : ∀ i, i ≤ S.length → (∀ x ∈ (brTo S o s i).1, PairO S o s x) ∧ OpenO S o s (brTo S o s i).2.reverse i := by
    intro i
    induction i with
    | zero => intro _; exact ⟨fun x hx => (by cases hx), trivial⟩
    | succ i ih =>
      intro hi
      obtain ⟨h1, h2⟩ := ih (by omega)
      show (∀ x ∈ (brStep o s (S.getD i 0) i (brTo S o s i)).1, _) ∧ OpenO S o s (brStep o s (S.getD i 0) i (brTo S o s i)).2.reverse (i + 1)
      generalize brTo S o s i = st at *
      obtain ⟨L, P⟩ := st
      dsimp only at h1 h2
      by_cases ho : S.getD i 0 = o
      · rw [brStep_open ho]
        refine ⟨h1, ?_⟩
        dsimp only
        rw [List.reverse_append, List.reverse_singleton, List.singleton_append]
        exact ⟨by omega, ho, BalO.nil _, h2⟩
      · by_cases hs : S.getD i 0 = s
        · rcases List.eq_nil_or_concat P with rfl | ⟨M, p, rfl⟩
          · rw [brStep_none ho]
            exact ⟨h1, trivial⟩
          · rw [List.concat_eq_append] at h2 ⊢
            rw [brStep_shut ho hs]
            rw [List.reverse_append, List.reverse_singleton, List.singleton_append] at h2
            obtain ⟨a1, a2, a3, a4⟩ := h2
            refine ⟨fun x hx => ?_, open_more a4 (a3.pair hos a2 hs)⟩
            rcases List.mem_append.1 hx with hx | hx
            · exact h1 x hx
            · rw [List.mem_singleton] at hx
              subst hx
              exact ⟨a1, by show i < S.length; omega, a2, hs, a3⟩
        · rw [brStep_else ho hs]
          exact ⟨h1, open_more h2 (BalO.other ho hs)⟩
  exact (key S.length (Nat.le_refl _)).1
/-- a pair of quotes in the bytes from f on, up to t -/
def MarkO (S : List UInt8) (q : UInt8) (f t : Nat) (x : RwO) : Prop := (f ≤ x.1 ∧ x.1 < x.2.1 ∧ x.2.1 < t) ∧ S.getD x.1 0 = q ∧ S.getD x.2.1 0 = q ∧ ∀ i, x.1 < i → i < x.2.1 → S.getD i 0 ≠ q
theorem quotes_marks (S : List UInt8) (n : Int) (q : UInt8) : ∀ x ∈ quotesM S n q, MarkO S q (boundsL S n).1.1 (boundsL S n).1.2 x := by
  have key : ∀ f j t, f + j ≤ t → (∀ x ∈ (quTo S q f j).1, MarkO S q f t x) ∧ ∀ k, (quTo S q f j).2 = some k → (f ≤ k ∧ k < f + j) ∧ S.getD k 0 = q ∧ ∀ i, k < i → i < f + j → S.getD i 0 ≠ q := by
    intro f j t
    induction j with
    | zero => intro _; exact ⟨fun x hx => (by cases hx), fun k hk => (by cases hk)⟩
    | succ j ih =>
      intro ht
      obtain ⟨h1, h2⟩ := ih (by omega)
      show (∀ x ∈ (quStep q (S.getD (f + j) 0) (f + j) (quTo S q f j)).1, _) ∧ ∀ k, (quStep q (S.getD (f + j) 0) (f + j) (quTo S q f j)).2 = some k → _
      generalize quTo S q f j = st at *
      obtain ⟨L, op⟩ := st
      dsimp only at h1 h2
      unfold quStep
      split
      · next hq =>
        cases op with
        | none => exact ⟨h1, fun k hk => by injection hk with hk; subst hk; exact ⟨by omega, hq, fun i _ _ => by omega⟩⟩
        | some p =>
          obtain ⟨a1, a2, a3⟩ := h2 p rfl
          refine ⟨fun x hx => ?_, fun k hk => by cases hk⟩
          rcases List.mem_append.1 hx with hx | hx
          · exact h1 x hx
          · rw [List.mem_singleton] at hx
            subst hx
            exact ⟨⟨a1.1, a1.2, by show f + j < t; omega⟩, a2, hq, a3⟩
      · next hq =>
        refine ⟨h1, fun k hk => ?_⟩
        obtain ⟨a1, a2, a3⟩ := h2 k hk
        refine ⟨by omega, a2, fun i h3 h4 => ?_⟩
        rcases Nat.lt_or_ge i (f + j) with h5 | h5
        · exact a3 i h3 h5
        · rw [show i = f + j by omega]; exact hq
  have hb := bounds_le S n
  exact (key _ _ _ (by omega)).1
theorem about_in {l : List RwO} {a : Nat} {x : RwO} (h : aboutM l a = some x) : x.1 ≤ a ∧ a ≤ x.2.1 := by
  have key : ∀ (l : List RwO) (b : Option RwO), (∀ y, b = some y → y.1 ≤ a ∧ a ≤ y.2.1) → ∀ y, l.foldl (aboStep a) b = some y → y.1 ≤ a ∧ a ≤ y.2.1 := by
    intro l
    induction l with
    | nil => exact fun b hb => hb
    | cons z l ih =>
      intro b hb
      refine ih _ fun y hy => ?_
      unfold aboStep at hy
      split at hy
      · next hc => injection hy with hy; subst hy; exact ⟨hc.1, hc.2.1⟩
      · exact hb y hy
  exact key l none (fun y hy => by cases hy) x h
end Go.Proofs.Ytnkhlallnblfmaa
