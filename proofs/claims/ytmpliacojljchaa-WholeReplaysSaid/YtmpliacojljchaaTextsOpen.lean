/-
  Arguments of layer 4: a list of texts.
-/
import Derived.Test.YtmpliacojljchaaM04
namespace Go.Proofs.Ytmpliacojljchaa
open Go.RowKit Go.ChangeShapes Go.WideShapes

/-- a text as it lies in a list: its bytes, where its runs lie, and they -/
structure TextP where
  S : List UInt8
  A : Option Addr
  c : Nat
  l : List RunP
def flatX (ts : List TextP) : List Value := ts.flatMap fun r => [.string ⟨r.S.toArray⟩, .slice r.A r.l.length r.c]
theorem flatX_len (ts : List TextP) : (flatX ts).length = ts.length * 2 := by
  induction ts with
  | nil => rfl
  | cons r l ih => simp only [flatX, List.flatMap_cons, List.length_append, List.length_cons] at *; rw [ih]; simp; omega
theorem flatX_get (ts : List TextP) (k : Nat) (hk : k < ts.length) : (flatX ts)[k * 2]? = some (.string ⟨ts[k].S.toArray⟩) ∧ (flatX ts)[k * 2 + 1]? = some (.slice ts[k].A ts[k].l.length ts[k].c) := by
  induction ts generalizing k with
  | nil => simp at hk
  | cons r l ih =>
    cases k with
    | zero => simp [flatX]
    | succ k =>
      have := ih k (by simpa using hk)
      simp only [flatX, List.flatMap_cons, List.getElem_cons_succ] at *
      rw [List.getElem?_append_right (by simp; omega), List.getElem?_append_right (by simp; omega)]
      simp only [List.length_cons, List.length_nil]
      rw [show (k + 1) * 2 - (0 + 1 + 1) = k * 2 by omega, show (k + 1) * 2 + 1 - (0 + 1 + 1) = k * 2 + 1 by omega]
      exact this
theorem text_at {w : World} {B : Nat} {A : Option Addr} {ts : List TextP} (h : Row w B A (flatX ts)) {k : Nat} (hk : k < ts.length) :
    ∃ ad, A = some ad ∧ ad.block < B ∧ w.cell? (ad.add (k * 2)) = some (.string ⟨ts[k].S.toArray⟩) ∧ w.cell? ⟨(ad.add (k * 2)).block, (ad.add (k * 2)).off + 1, none⟩ = some (.slice ts[k].A ts[k].l.length ts[k].c) := by
  rcases h with h | ⟨ad, rfl, hb, hc⟩
  · have := congrArg List.length h
    rw [flatX_len] at this
    simp at this; omega
  · have c1 := hc _ _ (flatX_get ts k hk).2
    rw [run_field _ _] at c1
    exact ⟨ad, rfl, hb, hc _ _ (flatX_get ts k hk).1, c1⟩
theorem flatX_at {ts : List TextP} {j : Nat} {u : Value} (h : (flatX ts)[j]? = some u) : ∃ k, ∃ hk : k < ts.length, (j = k * 2 ∧ u = .string ⟨ts[k].S.toArray⟩) ∨ (j = k * 2 + 1 ∧ u = .slice ts[k].A ts[k].l.length ts[k].c) := by
  have hj : j < ts.length * 2 := by
    rcases Nat.lt_or_ge j (ts.length * 2) with h1 | h1
    · exact h1
    · rw [List.getElem?_eq_none (by rw [flatX_len]; exact h1)] at h; cases h
  have hk : j / 2 < ts.length := by omega
  obtain ⟨g0, g1⟩ := flatX_get ts (j / 2) hk
  refine ⟨j / 2, hk, ?_⟩
  rcases Nat.mod_two_eq_zero_or_one j with h0 | h0
  · left
    have e : j / 2 * 2 = j := by omega
    rw [e, h] at g0
    exact ⟨e.symm, by injection g0⟩
  · right
    have e : j / 2 * 2 + 1 = j := by omega
    rw [e, h] at g1
    exact ⟨e.symm, by injection g1⟩
theorem list_of {α : Type} {P : Nat → α → Prop} : ∀ n : Nat, (∀ i, i < n → ∃ x, P i x) → ∃ l : List α, l.length = n ∧ ∀ i (h : i < l.length), P i l[i] := by
  intro n
  induction n with
  | zero => intro _; exact ⟨[], rfl, fun i h => absurd h (by simp)⟩
  | succ n ih =>
    intro h
    obtain ⟨l, hl, hp⟩ := ih (fun i hi => h i (by omega))
    obtain ⟨x, hx⟩ := h n (by omega)
    refine ⟨l ++ [x], by simp [hl], fun i hi => ?_⟩
    by_cases hin : i < l.length
    · rw [List.getElem_append_left hin]; exact hp i hin
    · have : i = n := by simp at hi; omega
      subst this
      rw [List.getElem_append_right (by omega)]
      simpa [hl] using hx

section
variable {H : Type} {enc : TypeId × Value → H} {W : World}
end
end Go.Proofs.Ytmpliacojljchaa
