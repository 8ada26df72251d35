/-
  Arguments of layer 7: an edit, a list of texts with their places.
-/
import Derived.Test.YtfeaffabminpfaaEdiWords
import Derived.Test.YtfeaffabminpfaaTextsOpen
namespace Go.Proofs.Ytfeaffabminpfaa
open Go.RowKit Go.ChangeShapes Go.WideShapes
set_option maxRecDepth 100000

theorem edit_fields : ∃ f0 f1 f2 : Field, Try.prog.underlying 34 = some (.struct #[f0, f1, f2]) ∧ f0.offset = 0 ∧ f1.offset = 1 ∧ f2.offset = 3 ∧ f0.type = 3 ∧ f1.type = 32 ∧ f2.type = 32 :=
  ⟨_, _, _, Try.underlying34, by rfl, by rfl, by rfl, by rfl, by rfl, by rfl⟩
section
variable {H : Type} {enc : TypeId × Value → H} {W : World}
theorem open_edit {r : Reach} {b0 : Nat} {v : Value} {d : DataW H} {ps : List MemPlace} (hval : Value.okWide Try.prog W r b0 34 v) (h : DataW.Trod enc Try.prog W 0 (fun _ => true) true 34 v d ps) :
    ∃ (a : Int) (S : List UInt8) (A : Option Addr) (l : List RunP) (c : Nat) (X : List UInt8) (A2 : Option Addr) (m : List RunP) (d : Nat),
      v = .agg #[.int .i64 a, .string ⟨S.toArray⟩, .slice A l.length c, .string ⟨X.toArray⟩, .slice A2 m.length d] ∧ Txt W W.heap.size A S l ∧ Txt W W.heap.size A2 X m := by
  obtain ⟨f0, f1, f2, he, o0, o1, o2, t0, t1, t2⟩ := edit_fields
  have kt : Try.prog.cellsOf 32 = 2 := by kernel_rfl
  have ki : Try.prog.cellsOf 3 = 1 := by kernel_rfl
  have kh : Try.prog.cellsOf 34 = 5 := by kernel_rfl
  obtain ⟨cs, rfl, hsz⟩ := okWide_struct he hval
  obtain ⟨q⟩ := cs
  match q, hsz.trans kh with
  | [a0, a1, a2, a3, a4], _ =>
    obtain ⟨fuel, hf⟩ := h
    obtain ⟨xs, n, _, _, _, hxl, hg⟩ := DataW.trod_struct he hf
    have hx : xs.length = 3 := hxl
    have g0 := hg 0 f0 rfl
    have g1 := hg 1 f1 rfl
    have g2 := hg 2 f2 rfl
    rw [o0, t0, ki, List.getElem?_eq_getElem (show 0 < xs.length by omega)] at g0
    rw [o1, t1, kt, List.getElem?_eq_getElem (show 1 < xs.length by omega)] at g1
    rw [o2, t2, kt, List.getElem?_eq_getElem (show 2 < xs.length by omega)] at g2
    simp [Value.cells] at g0 g1 g2
    obtain ⟨a, e0, _, h0⟩ := DataW.trod_int Try.underlying3 g0
    obtain ⟨A, c, S, l, e1, h1⟩ := text_of_trod g1
    obtain ⟨A2, d, X, m, e2, h2⟩ := text_of_trod g2
    simp at e0 e1 e2
    subst e0
    obtain ⟨rfl, rfl⟩ := e1
    obtain ⟨rfl, rfl⟩ := e2
    exact ⟨a, S, A, l, c, X, A2, m, d, rfl, h1, h2⟩
end

/-- a text and its places, as they lie in a list -/
structure PutP where
  f : Int
  t : Int
  S : List UInt8
  A : Option Addr
  c : Nat
  l : List RunP
def PutP.cells (r : PutP) : List Value := [.int .i64 r.f, .int .i64 r.t, .string ⟨r.S.toArray⟩, .slice r.A r.l.length r.c]
structure PutOk (W : World) (r : PutP) : Prop where
  hf : -9223372036854775808 ≤ r.f ∧ r.f ≤ 9223372036854775807
  ht : -9223372036854775808 ≤ r.t ∧ r.t ≤ 9223372036854775807
  txt : Txt W W.heap.size r.A r.S r.l
def flatU (pus : List PutP) : List Value := pus.flatMap PutP.cells
theorem flatU_len (pus : List PutP) : (flatU pus).length = pus.length * 4 := by
  induction pus with
  | nil => rfl
  | cons r l ih => simp only [flatU, List.flatMap_cons, List.length_append, List.length_cons] at *; rw [ih]; simp [PutP.cells]; omega
theorem flatU_get (pus : List PutP) (k : Nat) (hk : k < pus.length) (j : Nat) (hj : j < 4) : (flatU pus)[k * 4 + j]? = pus[k].cells[j]? := by
  induction pus generalizing k with
  | nil => simp at hk
  | cons r l ih =>
    cases k with
    | zero =>
      simp only [flatU, List.flatMap_cons, Nat.zero_mul, Nat.zero_add, List.getElem_cons_zero]
      rw [List.getElem?_append_left (by simp [PutP.cells]; omega)]
    | succ k =>
      have := ih k (by simpa using hk)
      simp only [flatU, List.flatMap_cons, List.getElem_cons_succ] at *
      rw [List.getElem?_append_right (by simp [PutP.cells]; omega), show (k + 1) * 4 + j - r.cells.length = k * 4 + j by simp [PutP.cells]; omega]
      exact this
theorem put_field (ad : Addr) (k j : Nat) (hj : 0 < j) : ad.add (k * 4 + j) = ⟨(ad.add (k * 4)).block, (ad.add (k * 4)).off + j, none⟩ := by
  unfold Addr.add
  by_cases hn : k = 0
  · subst hn; simp; omega
  · have h1 : k * 4 ≠ 0 := by omega
    simp [h1]; omega
theorem put_at {w : World} {B : Nat} {A : Option Addr} {pus : List PutP} (h : Row w B A (flatU pus)) {k : Nat} (hk : k < pus.length) :
    ∃ ad, A = some ad ∧ ad.block < B ∧ w.cell? (ad.add (k * 4)) = some (.int .i64 pus[k].f) ∧ w.cell? ⟨(ad.add (k * 4)).block, (ad.add (k * 4)).off + 1, none⟩ = some (.int .i64 pus[k].t) ∧ w.cell? ⟨(ad.add (k * 4)).block, (ad.add (k * 4)).off + 2, none⟩ = some (.string ⟨pus[k].S.toArray⟩) ∧
      w.cell? ⟨(ad.add (k * 4)).block, (ad.add (k * 4)).off + 3, none⟩ = some (.slice pus[k].A pus[k].l.length pus[k].c) := by
  rcases h with h | ⟨ad, rfl, hb, hc⟩
  · have := congrArg List.length h
    rw [flatU_len] at this
    simp at this; omega
  · have g := fun j hj => flatU_get pus k hk j hj
    have c0 := hc (k * 4) _ (by have := g 0 (by omega); rw [Nat.add_zero] at this; rw [this]; rfl)
    have c1 := hc (k * 4 + 1) _ (by rw [g 1 (by omega)]; rfl)
    have c2 := hc (k * 4 + 2) _ (by rw [g 2 (by omega)]; rfl)
    have c3 := hc (k * 4 + 3) _ (by rw [g 3 (by omega)]; rfl)
    rw [put_field _ _ _ (by omega)] at c1 c2 c3
    exact ⟨ad, rfl, hb, c0, c1, c2, c3⟩

section
variable {H : Type} {enc : TypeId × Value → H} {W : World}
end
end Go.Proofs.Ytfeaffabminpfaa
