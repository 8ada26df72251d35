/-
  Arguments of layer 7: an edit, a list of texts with their places.
-/
import Derived.Test.YtmpliacojljchaaEdiWords
import Derived.Test.YtmpliacojljchaaTextsOpen
namespace Go.Proofs.Ytmpliacojljchaa
open Go.RowKit Go.ChangeShapes Go.WideShapes

theorem edit_fields : ∃ f0 f1 f2 : Field, Try.prog.underlying 29 = some (.struct #[f0, f1, f2]) ∧ f0.offset = 0 ∧ f1.offset = 1 ∧ f2.offset = 3 ∧ f0.type = 3 ∧ f1.type = 24 ∧ f2.type = 24 :=
  ⟨_, _, _, Try.underlying29, by rfl, by rfl, by rfl, by rfl, by rfl, by rfl⟩
section
variable {H : Type} {enc : TypeId × Value → H} {W : World}
theorem open_edit {r : Reach} {b0 : Nat} {v : Value} {d : DataW H} {ps : List MemPlace} (hval : Value.okWide Try.prog W r b0 29 v) (h : DataW.Trod enc Try.prog W 0 (fun _ => true) true 29 v d ps) :
    ∃ (a : Int) (S : List UInt8) (A : Option Addr) (l : List RunP) (c : Nat) (X : List UInt8) (A2 : Option Addr) (m : List RunP) (d : Nat),
      v = .agg #[.int .i64 a, .string ⟨S.toArray⟩, .slice A l.length c, .string ⟨X.toArray⟩, .slice A2 m.length d] ∧ Txt W W.heap.size A S l ∧ Txt W W.heap.size A2 X m := by
  obtain ⟨f0, f1, f2, he, o0, o1, o2, t0, t1, t2⟩ := edit_fields
  have kt : Try.prog.cellsOf 24 = 2 := by kernel_rfl
  have ki : Try.prog.cellsOf 3 = 1 := by kernel_rfl
  have kh : Try.prog.cellsOf 29 = 5 := by kernel_rfl
  obtain ⟨cs, rfl, hsz⟩ := okWide_struct he hval
  obtain ⟨q⟩ := cs
  match q, hsz.trans kh with
  | [a0, a1, a2, a3, a4], _ =>
    obtain ⟨fuel, hf⟩ := h
    obtain ⟨xs, n, _, _, _, hxl, hg⟩ := DataW.trod_struct he hf
    have hx : xs.length = 3 := hxl
    have g0 := hg 0 f0 rfl
    have g1 := hg 1 f1 rfl
    have g2 := hg 2 f2 rfl
    rw [o0, t0, ki, List.getElem?_eq_getElem (show 0 < xs.length by omega)] at g0
    rw [o1, t1, kt, List.getElem?_eq_getElem (show 1 < xs.length by omega)] at g1
    rw [o2, t2, kt, List.getElem?_eq_getElem (show 2 < xs.length by omega)] at g2
    simp [Value.cells] at g0 g1 g2
    obtain ⟨a, e0, _, h0⟩ := DataW.trod_int Try.underlying3 g0
    obtain ⟨A, c, S, l, e1, h1⟩ := text_of_trod g1
    obtain ⟨A2, d, X, m, e2, h2⟩ := text_of_trod g2
    simp at e0 e1 e2
    subst e0
    obtain ⟨rfl, rfl⟩ := e1
    obtain ⟨rfl, rfl⟩ := e2
    exact ⟨a, S, A, l, c, X, A2, m, d, rfl, h1, h2⟩
end

/-- a text and its places, as they lie in a list -/
structure PutP where
  f : Int
  t : Int
  S : List UInt8
  A : Option Addr
  c : Nat
  l : List RunP
def PutP.cells (r : PutP) : List Value := [.int .i64 r.f, .int .i64 r.t, .string ⟨r.S.toArray⟩, .slice r.A r.l.length r.c]
structure PutOk (W : World) (r : PutP) : Prop where
  hf : -9223372036854775808 ≤ r.f ∧ r.f ≤ 9223372036854775807
  ht : -9223372036854775808 ≤ r.t ∧ r.t ≤ 9223372036854775807
  txt : Txt W W.heap.size r.A r.S r.l
def flatU (pus : List PutP) : List Value := pus.flatMap PutP.cells
theorem flatU_len (pus : List PutP) : (flatU pus).length = pus.length * 4 := by
  induction pus with
  | nil => rfl
  | cons r l ih => simp only [flatU, List.flatMap_cons, List.length_append, List.length_cons] at *; rw [ih]; simp [PutP.cells]; omega
theorem flatU_get (pus : List PutP) (k : Nat) (hk : k < pus.length) (j : Nat) (hj : j < 4) : (flatU pus)[k * 4 + j]? = pus[k].cells[j]? := by
  induction pus generalizing k with
  | nil => simp at hk
  | cons r l ih =>
    cases k with
    | zero =>
      simp only [flatU, List.flatMap_cons, Nat.zero_mul, Nat.zero_add, List.getElem_cons_zero]
      rw [List.getElem?_append_left (by simp [PutP.cells]; omega)]
    | succ k =>
      have := ih k (by simpa using hk)
      simp only [flatU, List.flatMap_cons, List.getElem_cons_succ] at *
      rw [List.getElem?_append_right (by simp [PutP.cells]; omega), show (k + 1) * 4 + j - r.cells.length = k * 4 + j by simp [PutP.cells]; omega]
      exact this
theorem put_field (ad : Addr) (k j : Nat) (hj : 0 < j) : ad.add (k * 4 + j) = ⟨(ad.add (k * 4)).block, (ad.add (k * 4)).off + j, none⟩ := by
  unfold Addr.add
  by_cases hn : k = 0
  · subst hn; simp; omega
  · have h1 : k * 4 ≠ 0 := by omega
    simp [h1]; omega
theorem put_at {w : World} {B : Nat} {A : Option Addr} {pus : List PutP} (h : Row w B A (flatU pus)) {k : Nat} (hk : k < pus.length) :
    ∃ ad, A = some ad ∧ ad.block < B ∧ w.cell? (ad.add (k * 4)) = some (.int .i64 pus[k].f) ∧ w.cell? ⟨(ad.add (k * 4)).block, (ad.add (k * 4)).off + 1, none⟩ = some (.int .i64 pus[k].t) ∧ w.cell? ⟨(ad.add (k * 4)).block, (ad.add (k * 4)).off + 2, none⟩ = some (.string ⟨pus[k].S.toArray⟩) ∧
      w.cell? ⟨(ad.add (k * 4)).block, (ad.add (k * 4)).off + 3, none⟩ = some (.slice pus[k].A pus[k].l.length pus[k].c) := by
  rcases h with h | ⟨ad, rfl, hb, hc⟩
  · have := congrArg List.length h
    rw [flatU_len] at this
    simp at this; omega
  · have g := fun j hj => flatU_get pus k hk j hj
    have c0 := hc (k * 4) _ (by have := g 0 (by omega); rw [Nat.add_zero] at this; rw [this]; rfl)
    have c1 := hc (k * 4 + 1) _ (by rw [g 1 (by omega)]; rfl)
    have c2 := hc (k * 4 + 2) _ (by rw [g 2 (by omega)]; rfl)
    have c3 := hc (k * 4 + 3) _ (by rw [g 3 (by omega)]; rfl)
    rw [put_field _ _ _ (by omega)] at c1 c2 c3
    exact ⟨ad, rfl, hb, c0, c1, c2, c3⟩

theorem put_fields : ∃ f0 f1 f2 : Field, Try.prog.underlying 61 = some (.struct #[f0, f1, f2]) ∧ (f0.offset = 0 ∧ f1.offset = 1 ∧ f2.offset = 2) ∧
    (Try.prog.cellsOf f0.type = 1 ∧ Try.prog.cellsOf f1.type = 1 ∧ Try.prog.cellsOf f2.type = 2) ∧
    Try.prog.underlying f0.type = some (.int .i64) ∧ Try.prog.underlying f1.type = some (.int .i64) ∧ f2.type = 24 ∧ Try.prog.cellsOf 61 = 4 :=
  ⟨_, _, _, Try.underlying61, ⟨by rfl, by rfl, by rfl⟩, ⟨by kernel_rfl, by kernel_rfl, by kernel_rfl⟩, by kernel_rfl, by kernel_rfl, by rfl, by kernel_rfl⟩

section
variable {H : Type} {enc : TypeId × Value → H} {W : World}
theorem put_of_trod {fuel : Nat} {cs : List Value} {x : DataW H × List MemPlace} (hf : DataW.trod enc Try.prog W 0 (fun _ => true) true fuel 61 cs = some x) :
    ∃ r : PutP, cs = r.cells ∧ PutOk W r := by
  obtain ⟨f0, f1, f2, he, ⟨o0, o1, o2⟩, ⟨c0, c1, c2⟩, k0, k1, k2, kc⟩ := put_fields
  obtain ⟨xs, n, _, _, hl, hxl, hg⟩ := DataW.trod_struct he hf
  rw [kc] at hl
  match cs, hl with
  | [v0, v1, v2, v3], _ =>
    have g0 := hg 0 f0 rfl
    have g1 := hg 1 f1 rfl
    have g2 := hg 2 f2 rfl
    rw [o0, c0] at g0
    rw [o1, c1] at g1
    rw [o2, c2] at g2
    simp at g0 g1 g2
    have hx3 : xs.length = 3 := hxl
    rw [List.getElem?_eq_getElem (show 0 < xs.length by omega)] at g0
    rw [List.getElem?_eq_getElem (show 1 < xs.length by omega)] at g1
    rw [List.getElem?_eq_getElem (show 2 < xs.length by omega), k2] at g2
    obtain ⟨n0, e0, _, w0⟩ := DataW.trod_int k0 g0
    obtain ⟨n1, e1, _, w1⟩ := DataW.trod_int k1 g1
    obtain ⟨A, c, S, l, e2, h2⟩ := text_of_trod g2
    refine ⟨⟨n0, n1, S, A, c, l⟩, ?_, bound_i64 w0, bound_i64 w1, h2⟩
    injection e0 with e0
    injection e1 with e1
    injection e2 with e2 e2'
    injection e2' with e2'
    rw [e0, e1, e2, e2']
    rfl
theorem open_puts {r : Reach} {b0 : Nat} {v : Value} {d : DataW H} {ps : List MemPlace} (hval : Value.okWide Try.prog W r b0 55 v) (h : DataW.Trod enc Try.prog W 0 (fun _ => true) true 55 v d ps) :
    ∃ (A : Option Addr) (c : Nat) (pus : List PutP), v = .slice A pus.length c ∧ pus.length ≤ maxLen ∧ (∀ a ∈ pus, PutOk W a) ∧ Row W W.heap.size A (flatU pus) := by
  obtain ⟨a0, len0, cap0, rfl⟩ := okWide_slice Try.underlying55 hval
  obtain ⟨fuel, hf⟩ := h
  have kc : Try.prog.cellsOf 61 = 4 := by obtain ⟨_, _, _, _, _, _, _, _, _, h⟩ := put_fields; exact h
  rcases Go.Deep.open_slice Try.underlying55 hf with ⟨h0, _⟩ | ⟨a, len, cap, m, n, D, Pl, h0, _, hl, hm, hmm, _, hx⟩
  · simp [Value.cells] at h0
    obtain ⟨rfl, rfl, rfl⟩ := h0
    exact ⟨none, 0, [], rfl, by simp, fun r hr => by simp at hr, Row.nil⟩
  · simp [Value.cells] at h0
    obtain ⟨rfl, rfl, rfl⟩ := h0
    have hm' : m = cap0 := hmm
    have key : ∀ i, i < len0 → ∃ r : PutP, (∀ j, j < 4 → W.cell? ((a.add (i * 4)).add j) = r.cells[j]?) ∧ PutOk W r := fun i hi => by
      obtain ⟨cs', h1, h2⟩ := hx i (by omega)
      rw [kc] at h1
      obtain ⟨_, _, hcell⟩ := World.cells?_some h1
      obtain ⟨r, rfl, hr⟩ := put_of_trod h2
      exact ⟨r, hcell, hr⟩
    obtain ⟨pus, hlen, has⟩ := list_of len0 key
    refine ⟨some a, cap0, pus, by rw [hlen], by rw [hlen]; omega, fun r hr => ?_, ?_⟩
    · obtain ⟨i, hi, rfl⟩ := List.getElem_of_mem hr
      exact (has i hi).2
    · by_cases h0 : len0 = 0
      · left
        have : pus = [] := List.eq_nil_of_length_eq_zero (by omega)
        subst this; rfl
      · right
        have hb : a.block < W.heap.size := by
          have h1 := (has 0 (by omega)).1 0 (by omega)
          have hb := Go.World.block_lt_of_cell? _ _ (h1.trans (by rfl : _ = some (Value.int .i64 (pus[0]'(by omega)).f)))
          rw [add_block, add_block] at hb
          exact hb
        refine ⟨a, rfl, hb, fun j u hj => ?_⟩
        have hjl : j < pus.length * 4 := by
          rcases Nat.lt_or_ge j (pus.length * 4) with h1 | h1
          · exact h1
          · rw [List.getElem?_eq_none (by rw [flatU_len]; exact h1)] at hj; cases hj
        have hk : j / 4 < pus.length := by omega
        have e1 := (has (j / 4) hk).1 (j % 4) (Nat.mod_lt _ (by omega))
        rw [Go.Deep.add_add, show j / 4 * 4 + j % 4 = j by omega] at e1
        rw [e1, ← flatU_get pus (j / 4) hk (j % 4) (Nat.mod_lt _ (by omega)), show j / 4 * 4 + j % 4 = j by omega]
        exact hj
end
end Go.Proofs.Ytmpliacojljchaa
