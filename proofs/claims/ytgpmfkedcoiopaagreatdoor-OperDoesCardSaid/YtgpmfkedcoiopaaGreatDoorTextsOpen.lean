/-
  Arguments of layer 4: a list of texts.
-/
import Derived.Test.YtgpmfkedcoiopaaGreatDoorM04
namespace Go.Proofs.YtgpmfkedcoiopaaGreatDoor
open Go.RowKit Go.ChangeShapes Go.WideShapes
set_option maxRecDepth 100000

/-- a text as it lies in a list: its bytes, where its runs lie, and they -/
structure TextP where
  S : List UInt8
  A : Option Addr
  c : Nat
  l : List RunP
def flatX (ts : List TextP) : List Value := ts.flatMap fun r => [.string ⟨r.S.toArray⟩, .slice r.A r.l.length r.c]
theorem flatX_len (ts : List TextP) : (flatX ts).length = ts.length * 2 := by
  induction ts with
  | nil => rfl
  | cons r l ih => simp only [flatX, List.flatMap_cons, List.length_append, List.length_cons] at *; rw [ih]; simp; omega
theorem flatX_get (ts : List TextP) (k : Nat) (hk : k < ts.length) : (flatX ts)[k * 2]? = some (.string ⟨ts[k].S.toArray⟩) ∧ (flatX ts)[k * 2 + 1]? = some (.slice ts[k].A ts[k].l.length ts[k].c) := by
  induction ts generalizing k with
  | nil => simp at hk
  | cons r l ih =>
    cases k with
    | zero => simp [flatX]
    | succ k =>
      have := ih k (by simpa using hk)
      simp only [flatX, List.flatMap_cons, List.getElem_cons_succ] at *
      rw [List.getElem?_append_right (by simp; omega), List.getElem?_append_right (by simp; omega)]
      simp only [List.length_cons, List.length_nil]
      rw [show (k + 1) * 2 - (0 + 1 + 1) = k * 2 by omega, show (k + 1) * 2 + 1 - (0 + 1 + 1) = k * 2 + 1 by omega]
      exact this
theorem text_at {w : World} {B : Nat} {A : Option Addr} {ts : List TextP} (h : Row w B A (flatX ts)) {k : Nat} (hk : k < ts.length) :
    ∃ ad, A = some ad ∧ ad.block < B ∧ w.cell? (ad.add (k * 2)) = some (.string ⟨ts[k].S.toArray⟩) ∧ w.cell? ⟨(ad.add (k * 2)).block, (ad.add (k * 2)).off + 1, none⟩ = some (.slice ts[k].A ts[k].l.length ts[k].c) := by
  rcases h with h | ⟨ad, rfl, hb, hc⟩
  · have := congrArg List.length h
    rw [flatX_len] at this
    simp at this; omega
  · have c1 := hc _ _ (flatX_get ts k hk).2
    rw [run_field _ _] at c1
    exact ⟨ad, rfl, hb, hc _ _ (flatX_get ts k hk).1, c1⟩
section
variable {H : Type} {enc : TypeId × Value → H} {W : World}
end
end Go.Proofs.YtgpmfkedcoiopaaGreatDoor
