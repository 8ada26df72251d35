/-
  Arguments of layer 5: a call, a list of calls.
-/
import Derived.Test.YtacpfkkbjibmgaaPieSays
import Derived.Test.YtacpfkkbjibmgaaTextsOpen
namespace Go.Proofs.Ytacpfkkbjibmgaa
open Go.RowKit Go.ChangeShapes Go.WideShapes

/-- a call as it lies in a list -/
structure ActP where
  f : Int
  t : Int
  S : List UInt8
  A : Option Addr
  c : Nat
  l : List RunP
  cut : Bool
  fork : Bool
def ActP.cells (r : ActP) : List Value := [.int .i64 r.f, .int .i64 r.t, .string ⟨r.S.toArray⟩, .slice r.A r.l.length r.c, .bool r.cut, .bool r.fork]
structure ActOk (W : World) (r : ActP) : Prop where
  hf : -9223372036854775808 ≤ r.f ∧ r.f ≤ 9223372036854775807
  ht : -9223372036854775808 ≤ r.t ∧ r.t ≤ 9223372036854775807
  txt : Txt W W.heap.size r.A r.S r.l
def flatA (acs : List ActP) : List Value := acs.flatMap ActP.cells
theorem flatA_len (acs : List ActP) : (flatA acs).length = acs.length * 6 := by
  induction acs with
  | nil => rfl
  | cons r l ih => simp only [flatA, List.flatMap_cons, List.length_append, List.length_cons] at *; rw [ih]; simp [ActP.cells]; omega
theorem flatA_get (acs : List ActP) (k : Nat) (hk : k < acs.length) (j : Nat) (hj : j < 6) : (flatA acs)[k * 6 + j]? = acs[k].cells[j]? := by
  induction acs generalizing k with
  | nil => simp at hk
  | cons r l ih =>
    cases k with
    | zero =>
      simp only [flatA, List.flatMap_cons, Nat.zero_mul, Nat.zero_add, List.getElem_cons_zero]
      rw [List.getElem?_append_left (by simp [ActP.cells]; omega)]
    | succ k =>
      have := ih k (by simpa using hk)
      simp only [flatA, List.flatMap_cons, List.getElem_cons_succ] at *
      rw [List.getElem?_append_right (by simp [ActP.cells]; omega), show (k + 1) * 6 + j - r.cells.length = k * 6 + j by simp [ActP.cells]; omega]
      exact this
theorem act_field (ad : Addr) (k j : Nat) (hj : 0 < j) : ad.add (k * 6 + j) = ⟨(ad.add (k * 6)).block, (ad.add (k * 6)).off + j, none⟩ := by
  unfold Addr.add
  by_cases hn : k = 0
  · subst hn; simp; omega
  · have h1 : k * 6 ≠ 0 := by omega
    simp [h1]; omega
theorem act_at {w : World} {B : Nat} {A : Option Addr} {acs : List ActP} (h : Row w B A (flatA acs)) {k : Nat} (hk : k < acs.length) :
    ∃ ad, A = some ad ∧ ad.block < B ∧ w.cell? (ad.add (k * 6)) = some (.int .i64 acs[k].f) ∧ w.cell? ⟨(ad.add (k * 6)).block, (ad.add (k * 6)).off + 1, none⟩ = some (.int .i64 acs[k].t) ∧ w.cell? ⟨(ad.add (k * 6)).block, (ad.add (k * 6)).off + 2, none⟩ = some (.string ⟨acs[k].S.toArray⟩) ∧
      w.cell? ⟨(ad.add (k * 6)).block, (ad.add (k * 6)).off + 3, none⟩ = some (.slice acs[k].A acs[k].l.length acs[k].c) ∧ w.cell? ⟨(ad.add (k * 6)).block, (ad.add (k * 6)).off + 4, none⟩ = some (.bool acs[k].cut) ∧ w.cell? ⟨(ad.add (k * 6)).block, (ad.add (k * 6)).off + 5, none⟩ = some (.bool acs[k].fork) := by
  rcases h with h | ⟨ad, rfl, hb, hc⟩
  · have := congrArg List.length h
    rw [flatA_len] at this
    simp at this; omega
  · have g := fun j hj => flatA_get acs k hk j hj
    have c0 := hc (k * 6) _ (by have := g 0 (by omega); rw [Nat.add_zero] at this; rw [this]; rfl)
    have c1 := hc (k * 6 + 1) _ (by rw [g 1 (by omega)]; rfl)
    have c2 := hc (k * 6 + 2) _ (by rw [g 2 (by omega)]; rfl)
    have c3 := hc (k * 6 + 3) _ (by rw [g 3 (by omega)]; rfl)
    have c4 := hc (k * 6 + 4) _ (by rw [g 4 (by omega)]; rfl)
    have c5 := hc (k * 6 + 5) _ (by rw [g 5 (by omega)]; rfl)
    rw [act_field _ _ _ (by omega)] at c1 c2 c3 c4 c5
    exact ⟨ad, rfl, hb, c0, c1, c2, c3, c4, c5⟩

theorem act_fields : ∃ f0 f1 f2 f3 f4 : Field, Try.prog.underlying 32 = some (.struct #[f0, f1, f2, f3, f4]) ∧ (f0.offset = 0 ∧ f1.offset = 1 ∧ f2.offset = 2 ∧ f3.offset = 4 ∧ f4.offset = 5) ∧
    (Try.prog.cellsOf f0.type = 1 ∧ Try.prog.cellsOf f1.type = 1 ∧ Try.prog.cellsOf f2.type = 2 ∧ Try.prog.cellsOf f3.type = 1 ∧ Try.prog.cellsOf f4.type = 1) ∧
    Try.prog.underlying f0.type = some (.int .i64) ∧ Try.prog.underlying f1.type = some (.int .i64) ∧ f2.type = 28 ∧ Try.prog.underlying f3.type = some .bool ∧ Try.prog.underlying f4.type = some .bool ∧ Try.prog.cellsOf 32 = 6 :=
  ⟨_, _, _, _, _, Try.underlying32, ⟨by rfl, by rfl, by rfl, by rfl, by rfl⟩, ⟨by kernel_rfl, by kernel_rfl, by kernel_rfl, by kernel_rfl, by kernel_rfl⟩, by kernel_rfl, by kernel_rfl, by rfl, by kernel_rfl, by kernel_rfl, by kernel_rfl⟩

section
variable {H : Type} {enc : TypeId × Value → H} {W : World}
theorem act_of_trod {fuel : Nat} {cs : List Value} {x : DataW H × List MemPlace} (hf : DataW.trod enc Try.prog W 0 (fun _ => true) true fuel 32 cs = some x) :
    ∃ r : ActP, cs = r.cells ∧ ActOk W r := by
  obtain ⟨f0, f1, f2, f3, f4, he, ⟨o0, o1, o2, o3, o4⟩, ⟨c0, c1, c2, c3, c4⟩, k0, k1, k2, k3, k4, kc⟩ := act_fields
  obtain ⟨xs, n, _, _, hl, hxl, hg⟩ := DataW.trod_struct he hf
  rw [kc] at hl
  match cs, hl with
  | [v0, v1, v2, v3, v4, v5], _ =>
    have g0 := hg 0 f0 rfl
    have g1 := hg 1 f1 rfl
    have g2 := hg 2 f2 rfl
    have g3 := hg 3 f3 rfl
    have g4 := hg 4 f4 rfl
    rw [o0, c0] at g0
    rw [o1, c1] at g1
    rw [o2, c2] at g2
    rw [o3, c3] at g3
    rw [o4, c4] at g4
    simp at g0 g1 g2 g3 g4
    have hx5 : xs.length = 5 := hxl
    rw [List.getElem?_eq_getElem (show 0 < xs.length by omega)] at g0
    rw [List.getElem?_eq_getElem (show 1 < xs.length by omega)] at g1
    rw [List.getElem?_eq_getElem (show 2 < xs.length by omega), k2] at g2
    rw [List.getElem?_eq_getElem (show 3 < xs.length by omega)] at g3
    rw [List.getElem?_eq_getElem (show 4 < xs.length by omega)] at g4
    obtain ⟨n0, e0, _, w0⟩ := DataW.trod_int k0 g0
    obtain ⟨n1, e1, _, w1⟩ := DataW.trod_int k1 g1
    obtain ⟨A, c, S, l, e2, h2⟩ := text_of_trod g2
    obtain ⟨b3, e3, _⟩ := DataW.trod_bool k3 g3
    obtain ⟨b4, e4, _⟩ := DataW.trod_bool k4 g4
    refine ⟨⟨n0, n1, S, A, c, l, b3, b4⟩, ?_, bound_i64 w0, bound_i64 w1, h2⟩
    injection e0 with e0
    injection e1 with e1
    injection e2 with e2 e2'
    injection e2' with e2'
    injection e3 with e3
    injection e4 with e4
    rw [e0, e1, e2, e2', e3, e4]
    rfl
theorem open_act {r : Reach} {b0 : Nat} {v : Value} {d : DataW H} {ps : List MemPlace} (hval : Value.okWide Try.prog W r b0 32 v) (h : DataW.Trod enc Try.prog W 0 (fun _ => true) true 32 v d ps) :
    ∃ a : ActP, v = .agg a.cells.toArray ∧ ActOk W a := by
  obtain ⟨f0, f1, f2, f3, f4, he, _⟩ := act_fields
  obtain ⟨cs, rfl, _⟩ := okWide_struct he hval
  obtain ⟨fuel, hf⟩ := h
  obtain ⟨a, e, ha⟩ := act_of_trod hf
  refine ⟨a, ?_, ha⟩
  have : cs.toList = a.cells := by simpa [Value.cells] using e
  rw [← this, Array.toArray_toList]
theorem open_acts {r : Reach} {b0 : Nat} {v : Value} {d : DataW H} {ps : List MemPlace} (hval : Value.okWide Try.prog W r b0 22 v) (h : DataW.Trod enc Try.prog W 0 (fun _ => true) true 22 v d ps) :
    ∃ (A : Option Addr) (c : Nat) (acs : List ActP), v = .slice A acs.length c ∧ acs.length ≤ maxLen ∧ (∀ a ∈ acs, ActOk W a) ∧ Row W W.heap.size A (flatA acs) := by
  obtain ⟨a0, len0, cap0, rfl⟩ := okWide_slice Try.underlying22 hval
  obtain ⟨fuel, hf⟩ := h
  have kc : Try.prog.cellsOf 32 = 6 := by obtain ⟨_, _, _, _, _, _, _, _, _, _, _, _, _, h⟩ := act_fields; exact h
  rcases Go.Deep.open_slice Try.underlying22 hf with ⟨h0, _⟩ | ⟨a, len, cap, m, n, D, Pl, h0, _, hl, hm, hmm, _, hx⟩
  · simp [Value.cells] at h0
    obtain ⟨rfl, rfl, rfl⟩ := h0
    exact ⟨none, 0, [], rfl, by simp, fun r hr => by simp at hr, Row.nil⟩
  · simp [Value.cells] at h0
    obtain ⟨rfl, rfl, rfl⟩ := h0
    have hm' : m = cap0 := hmm
    have key : ∀ i, i < len0 → ∃ r : ActP, (∀ j, j < 6 → W.cell? ((a.add (i * 6)).add j) = r.cells[j]?) ∧ ActOk W r := fun i hi => by
      obtain ⟨cs', h1, h2⟩ := hx i (by omega)
      rw [kc] at h1
      obtain ⟨_, _, hcell⟩ := World.cells?_some h1
      obtain ⟨r, rfl, hr⟩ := act_of_trod h2
      exact ⟨r, hcell, hr⟩
    obtain ⟨acs, hlen, has⟩ := list_of len0 key
    refine ⟨some a, cap0, acs, by rw [hlen], by rw [hlen]; omega, fun r hr => ?_, ?_⟩
    · obtain ⟨i, hi, rfl⟩ := List.getElem_of_mem hr
      exact (has i hi).2
    · by_cases h0 : len0 = 0
      · left
        have : acs = [] := List.eq_nil_of_length_eq_zero (by omega)
        subst this; rfl
      · right
        have hb : a.block < W.heap.size := by
          have h1 := (has 0 (by omega)).1 0 (by omega)
          have hb := Go.World.block_lt_of_cell? _ _ (h1.trans (by rfl : _ = some (Value.int .i64 (acs[0]'(by omega)).f)))
          rw [add_block, add_block] at hb
          exact hb
        refine ⟨a, rfl, hb, fun j u hj => ?_⟩
        have hjl : j < acs.length * 6 := by
          rcases Nat.lt_or_ge j (acs.length * 6) with h1 | h1
          · exact h1
          · rw [List.getElem?_eq_none (by rw [flatA_len]; exact h1)] at hj; cases hj
        have hk : j / 6 < acs.length := by omega
        have e1 := (has (j / 6) hk).1 (j % 6) (Nat.mod_lt _ (by omega))
        rw [Go.Deep.add_add, show j / 6 * 6 + j % 6 = j by omega] at e1
        rw [e1, ← flatA_get acs (j / 6) hk (j % 6) (Nat.mod_lt _ (by omega)), show j / 6 * 6 + j % 6 = j by omega]
        exact hj
end
end Go.Proofs.Ytacpfkkbjibmgaa
