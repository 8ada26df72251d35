/-
  Contracts of the document's own answers, layer 2: Starts, Valid, which, begins, Align, Next, Prev, At.
-/
import Derived.Test.YtnkhlallnblfmaaGlyList
import Derived.Deep.QuietTactic
import Derived.BigQuiet
namespace Go.Proofs.Ytnkhlallnblfmaa
open Go.RowKit

theorem add_add' (a : Addr) (i j : Nat) : (a.add i).add j = a.add (i + j) := by
  unfold Addr.add
  by_cases hi : i = 0 <;> by_cases hj : j = 0 <;> simp [hi, hj, Nat.add_assoc]
theorem add_field (a : Addr) (n j : Nat) (hj : 0 < j) : a.add (n + j) = ⟨(a.add n).block, (a.add n).off + j, none⟩ := by
  unfold Addr.add
  by_cases hn : n = 0
  · subst hn; simp; omega
  · simp [hn]; omega
theorem offs_get (a : Nat) (l : List (Nat × Nat)) (k : Nat) (h : k < l.length) : (offs a l)[k]'(by rw [offs_len]; exact h) = (a + width (l.take k), l[k]) := by
  induction l generalizing a k with
  | nil => simp at h
  | cons x l ih =>
    cases k with
    | zero => simp [offs, width]
    | succ k =>
      have := ih (a + x.2) k (by simpa using h)
      simp only [offs, List.getElem_cons_succ, this, List.take_succ_cons, width, List.map_cons, List.sum_cons]
      rw [Nat.add_assoc]
/-- the four cells of the k-th sign -/
theorem sign_cells {w : World} {B a : Nat} {A : Option Addr} {l : List (Nat × Nat)} {k : Nat} (h : Row w B A (flat (offs a l))) (hk : k < l.length) :
    ∃ ad, A = some ad ∧ ad.block < B ∧ w.cell? (ad.add (k * 4)) = some (.int .i64 ((a + width (l.take k) : Nat) : Int)) ∧ w.cell? ⟨(ad.add (k * 4)).block, (ad.add (k * 4)).off + 1, none⟩ = some (.int .i64 (l[k].2 : Int)) ∧
      w.cell? ⟨(ad.add (k * 4)).block, (ad.add (k * 4)).off + 2, none⟩ = some (.int .i64 (l[k].1 : Int)) ∧ w.cell? ⟨(ad.add (k * 4)).block, (ad.add (k * 4)).off + 3, none⟩ = some (.bool (!broken l[k])) := by
  have hk' : k < (offs a l).length := by rw [offs_len]; exact hk
  have g0 := flat_get (offs a l) k 0 hk' (by omega)
  have g1 := flat_get (offs a l) k 1 hk' (by omega)
  have g2 := flat_get (offs a l) k 2 hk' (by omega)
  have g3 := flat_get (offs a l) k 3 hk' (by omega)
  rw [offs_get a l k hk] at g0 g1 g2 g3
  obtain ⟨ad, e, hb, c0⟩ := h.at_ (g0.trans rfl)
  obtain ⟨ad1, e1, _, c1⟩ := h.at_ (g1.trans rfl)
  obtain ⟨ad2, e2, _, c2⟩ := h.at_ (g2.trans rfl)
  obtain ⟨ad3, e3, _, c3⟩ := h.at_ (g3.trans rfl)
  subst e
  injection e1 with e1
  injection e2 with e2
  injection e3 with e3
  subst e1 e2 e3
  rw [add_field _ _ _ (by omega)] at c1 c2 c3
  exact ⟨ad, rfl, hb, c0, c1, c2, c3⟩

theorem elt_int : Elt Try.prog 55 3 (.int .i64 0) 1 8 := ⟨Try.underlying55, by kernel_rfl, rfl, by decide⟩
def intn (n : Nat) : Value := .int .i64 (n : Int)

theorem startsAt_take (a : Nat) (l : List (Nat × Nat)) (k : Nat) (h : k < l.length) : startsAt a (l.take (k + 1)) = startsAt a (l.take k) ++ [a + width (l.take k)] := by
  rw [List.take_succ_eq_append_getElem h, startsAt_append]; rfl

end Go.Proofs.Ytnkhlallnblfmaa
