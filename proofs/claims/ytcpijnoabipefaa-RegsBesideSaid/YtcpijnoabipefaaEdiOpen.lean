/-
  Arguments of layer 7: an edit, a list of texts with their places.
-/
import Derived.Test.YtcpijnoabipefaaEdiWords
import Derived.Test.YtcpijnoabipefaaTextsOpen
namespace Go.Proofs.Ytcpijnoabipefaa
open Go.RowKit Go.ChangeShapes Go.WideShapes
set_option maxRecDepth 100000

section
variable {H : Type} {enc : TypeId × Value → H} {W : World}
end

/-- a text and its places, as they lie in a list -/
structure PutP where
  f : Int
  t : Int
  S : List UInt8
  A : Option Addr
  c : Nat
  l : List RunP
def PutP.cells (r : PutP) : List Value := [.int .i64 r.f, .int .i64 r.t, .string ⟨r.S.toArray⟩, .slice r.A r.l.length r.c]
structure PutOk (W : World) (r : PutP) : Prop where
  hf : -9223372036854775808 ≤ r.f ∧ r.f ≤ 9223372036854775807
  ht : -9223372036854775808 ≤ r.t ∧ r.t ≤ 9223372036854775807
  txt : Txt W W.heap.size r.A r.S r.l
def flatU (pus : List PutP) : List Value := pus.flatMap PutP.cells
theorem flatU_len (pus : List PutP) : (flatU pus).length = pus.length * 4 := by
  induction pus with
  | nil => rfl
  | cons r l ih => simp only [flatU, List.flatMap_cons, List.length_append, List.length_cons] at *; rw [ih]; simp [PutP.cells]; omega
theorem flatU_get (pus : List PutP) (k : Nat) (hk : k < pus.length) (j : Nat) (hj : j < 4) : (flatU pus)[k * 4 + j]? = pus[k].cells[j]? := by
  induction pus generalizing k with
  | nil => simp at hk
  | cons r l ih =>
    cases k with
    | zero =>
      simp only [flatU, List.flatMap_cons, Nat.zero_mul, Nat.zero_add, List.getElem_cons_zero]
      rw [List.getElem?_append_left (by simp [PutP.cells]; omega)]
    | succ k =>
      have := ih k (by simpa using hk)
      simp only [flatU, List.flatMap_cons, List.getElem_cons_succ] at *
      rw [List.getElem?_append_right (by simp [PutP.cells]; omega), show (k + 1) * 4 + j - r.cells.length = k * 4 + j by simp [PutP.cells]; omega]
      exact this
theorem put_field (ad : Addr) (k j : Nat) (hj : 0 < j) : ad.add (k * 4 + j) = ⟨(ad.add (k * 4)).block, (ad.add (k * 4)).off + j, none⟩ := by
  unfold Addr.add
  by_cases hn : k = 0
  · subst hn; simp; omega
  · have h1 : k * 4 ≠ 0 := by omega
    simp [h1]; omega
theorem put_at {w : World} {B : Nat} {A : Option Addr} {pus : List PutP} (h : Row w B A (flatU pus)) {k : Nat} (hk : k < pus.length) :
    ∃ ad, A = some ad ∧ ad.block < B ∧ w.cell? (ad.add (k * 4)) = some (.int .i64 pus[k].f) ∧ w.cell? ⟨(ad.add (k * 4)).block, (ad.add (k * 4)).off + 1, none⟩ = some (.int .i64 pus[k].t) ∧ w.cell? ⟨(ad.add (k * 4)).block, (ad.add (k * 4)).off + 2, none⟩ = some (.string ⟨pus[k].S.toArray⟩) ∧
      w.cell? ⟨(ad.add (k * 4)).block, (ad.add (k * 4)).off + 3, none⟩ = some (.slice pus[k].A pus[k].l.length pus[k].c) := by
  rcases h with h | ⟨ad, rfl, hb, hc⟩
  · have := congrArg List.length h
    rw [flatU_len] at this
    simp at this; omega
  · have g := fun j hj => flatU_get pus k hk j hj
    have c0 := hc (k * 4) _ (by have := g 0 (by omega); rw [Nat.add_zero] at this; rw [this]; rfl)
    have c1 := hc (k * 4 + 1) _ (by rw [g 1 (by omega)]; rfl)
    have c2 := hc (k * 4 + 2) _ (by rw [g 2 (by omega)]; rfl)
    have c3 := hc (k * 4 + 3) _ (by rw [g 3 (by omega)]; rfl)
    rw [put_field _ _ _ (by omega)] at c1 c2 c3
    exact ⟨ad, rfl, hb, c0, c1, c2, c3⟩

section
variable {H : Type} {enc : TypeId × Value → H} {W : World}
end
end Go.Proofs.Ytcpijnoabipefaa
