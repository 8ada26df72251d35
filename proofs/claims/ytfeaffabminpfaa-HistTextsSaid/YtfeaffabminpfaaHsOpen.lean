/-
  Arguments of layer 8: a call, a list of calls.
-/
import Derived.Test.YtfeaffabminpfaaEdiOpen
import Derived.Test.YtfeaffabminpfaaHsMath
namespace Go.Proofs.Ytfeaffabminpfaa
open Go.RowKit Go.ChangeShapes Go.WideShapes
set_option maxRecDepth 100000

/-- a call as it lies in a list -/
structure ActE where
  kind : Int
  e : EdV
  fork : Bool
def ActE.cells (r : ActE) : List Value := [.int .u8 r.kind, .int .i64 r.e.a, .string ⟨r.e.S.toArray⟩, .slice r.e.A r.e.l.length r.e.c, .string ⟨r.e.X.toArray⟩, .slice r.e.B r.e.m.length r.e.d, .bool r.fork]
structure ActEOk (W : World) (r : ActE) : Prop where
  hk : 0 ≤ r.kind ∧ r.kind ≤ 255
  old : Txt W W.heap.size r.e.A r.e.S r.e.l
  new : Txt W W.heap.size r.e.B r.e.X r.e.m
def flatE (acs : List ActE) : List Value := acs.flatMap ActE.cells
theorem actE_len (r : ActE) : r.cells.length = 7 := rfl
theorem flatE_len (acs : List ActE) : (flatE acs).length = acs.length * 7 := cellsG_len ActE.cells 7 actE_len acs
theorem flatE_get (acs : List ActE) (k : Nat) (hk : k < acs.length) (j : Nat) (hj : j < 7) : (flatE acs)[k * 7 + j]? = acs[k].cells[j]? := cellsG_get ActE.cells 7 actE_len acs k hk j hj
theorem actE_at {w : World} {B : Nat} {A : Option Addr} {acs : List ActE} (h : Row w B A (flatE acs)) {k : Nat} (hk : k < acs.length) :
    ∃ ad, A = some ad ∧ ad.block < B ∧ w.cell? (ad.add (k * 7)) = some (.int .u8 acs[k].kind) ∧ w.cell? ⟨(ad.add (k * 7)).block, (ad.add (k * 7)).off + 1, none⟩ = some (.int .i64 acs[k].e.a) ∧
      w.cell? ⟨(ad.add (k * 7)).block, (ad.add (k * 7)).off + 2, none⟩ = some (.string ⟨acs[k].e.S.toArray⟩) ∧ w.cell? ⟨(ad.add (k * 7)).block, (ad.add (k * 7)).off + 3, none⟩ = some (.slice acs[k].e.A acs[k].e.l.length acs[k].e.c) ∧
      w.cell? ⟨(ad.add (k * 7)).block, (ad.add (k * 7)).off + 4, none⟩ = some (.string ⟨acs[k].e.X.toArray⟩) ∧ w.cell? ⟨(ad.add (k * 7)).block, (ad.add (k * 7)).off + 5, none⟩ = some (.slice acs[k].e.B acs[k].e.m.length acs[k].e.d) ∧
      w.cell? ⟨(ad.add (k * 7)).block, (ad.add (k * 7)).off + 6, none⟩ = some (.bool acs[k].fork) := by
  obtain ⟨ad, rfl, hb, h0, hj⟩ := cellsG_at ActE.cells 7 actE_len (by decide) h hk
  exact ⟨ad, rfl, hb, h0, hj 1 (by decide) (by decide), hj 2 (by decide) (by decide), hj 3 (by decide) (by decide), hj 4 (by decide) (by decide), hj 5 (by decide) (by decide), hj 6 (by decide) (by decide)⟩
theorem actE_fields : ∃ f0 f1 f2 : Field, Try.prog.underlying 36 = some (.struct #[f0, f1, f2]) ∧ (f0.offset = 0 ∧ f1.offset = 1 ∧ f2.offset = 6) ∧
    (Try.prog.cellsOf f0.type = 1 ∧ Try.prog.cellsOf f1.type = 5 ∧ Try.prog.cellsOf f2.type = 1) ∧
    Try.prog.underlying f0.type = some (.int .u8) ∧ f1.type = 34 ∧ Try.prog.underlying f2.type = some .bool ∧ Try.prog.cellsOf 36 = 7 :=
  ⟨_, _, _, Try.underlying36, ⟨by rfl, by rfl, by rfl⟩, ⟨by kernel_rfl, by kernel_rfl, by kernel_rfl⟩, by kernel_rfl, by rfl, by kernel_rfl, by kernel_rfl⟩

section
variable {H : Type} {enc : TypeId × Value → H} {W : World}
theorem edit_of_trod {fuel : Nat} {cs : List Value} {x : DataW H × List MemPlace} (hf : DataW.trod enc Try.prog W 0 (fun _ => true) true fuel 34 cs = some x) :
    ∃ e : EdV, cs = [.int .i64 e.a, .string ⟨e.S.toArray⟩, .slice e.A e.l.length e.c, .string ⟨e.X.toArray⟩, .slice e.B e.m.length e.d] ∧ Txt W W.heap.size e.A e.S e.l ∧ Txt W W.heap.size e.B e.X e.m := by
  obtain ⟨f0, f1, f2, he, o0, o1, o2, t0, t1, t2⟩ := edit_fields
  have kt : Try.prog.cellsOf 32 = 2 := by kernel_rfl
  have ki : Try.prog.cellsOf 3 = 1 := by kernel_rfl
  have kh : Try.prog.cellsOf 34 = 5 := by kernel_rfl
  obtain ⟨xs, n, _, _, hl, hxl, hg⟩ := DataW.trod_struct he hf
  rw [kh] at hl
  match cs, hl with
  | [a0, a1, a2, a3, a4], _ =>
    have hx : xs.length = 3 := hxl
    have g0 := hg 0 f0 rfl
    have g1 := hg 1 f1 rfl
    have g2 := hg 2 f2 rfl
    rw [o0, t0, ki, List.getElem?_eq_getElem (show 0 < xs.length by omega)] at g0
    rw [o1, t1, kt, List.getElem?_eq_getElem (show 1 < xs.length by omega)] at g1
    rw [o2, t2, kt, List.getElem?_eq_getElem (show 2 < xs.length by omega)] at g2
    simp at g0 g1 g2
    obtain ⟨a, e0, _, h0⟩ := DataW.trod_int Try.underlying3 g0
    obtain ⟨A, c, S, l, e1, h1⟩ := text_of_trod g1
    obtain ⟨A2, d, X, m, e2, h2⟩ := text_of_trod g2
    refine ⟨⟨a, S, A, l, c, X, A2, m, d⟩, ?_, h1, h2⟩
    simp at e0 e1 e2
    obtain ⟨rfl, rfl⟩ := e1
    obtain ⟨rfl, rfl⟩ := e2
    rw [e0]
theorem actE_of_trod {fuel : Nat} {cs : List Value} {x : DataW H × List MemPlace} (hf : DataW.trod enc Try.prog W 0 (fun _ => true) true fuel 36 cs = some x) :
    ∃ r : ActE, cs = r.cells ∧ ActEOk W r := by
  obtain ⟨f0, f1, f2, he, ⟨o0, o1, o2⟩, ⟨c0, c1, c2⟩, k0, k1, k2, kc⟩ := actE_fields
  obtain ⟨xs, n, _, _, hl, hxl, hg⟩ := DataW.trod_struct he hf
  rw [kc] at hl
  match cs, hl with
  | [v0, v1, v2, v3, v4, v5, v6], _ =>
    have g0 := hg 0 f0 rfl
    have g1 := hg 1 f1 rfl
    have g2 := hg 2 f2 rfl
    rw [o0, c0] at g0
    rw [o1, c1] at g1
    rw [o2, c2] at g2
    simp at g0 g1 g2
    have hx3 : xs.length = 3 := hxl
    rw [List.getElem?_eq_getElem (show 0 < xs.length by omega)] at g0
    rw [List.getElem?_eq_getElem (show 1 < xs.length by omega), k1] at g1
    rw [List.getElem?_eq_getElem (show 2 < xs.length by omega)] at g2
    obtain ⟨n0, e0, _, w0⟩ := DataW.trod_int k0 g0
    obtain ⟨e, e1, h1, h2⟩ := edit_of_trod g1
    obtain ⟨b2, e2, _⟩ := DataW.trod_bool k2 g2
    refine ⟨⟨n0, e, b2⟩, ?_, bound_u8 w0, h1, h2⟩
    simp at e0 e1 e2
    obtain ⟨rfl, rfl, rfl, rfl, rfl⟩ := e1
    rw [e0, e2]
    rfl
theorem open_actEs {r : Reach} {b0 : Nat} {v : Value} {d : DataW H} {ps : List MemPlace} (hval : Value.okWide Try.prog W r b0 22 v) (h : DataW.Trod enc Try.prog W 0 (fun _ => true) true 22 v d ps) :
    ∃ (A : Option Addr) (c : Nat) (pus : List ActE), v = .slice A pus.length c ∧ pus.length ≤ maxLen ∧ (∀ a ∈ pus, ActEOk W a) ∧ Row W W.heap.size A (flatE pus) := by
  obtain ⟨a0, len0, cap0, rfl⟩ := okWide_slice Try.underlying22 hval
  obtain ⟨fuel, hf⟩ := h
  have kc : Try.prog.cellsOf 36 = 7 := by obtain ⟨_, _, _, _, _, _, _, _, _, h⟩ := actE_fields; exact h
  rcases Go.Deep.open_slice Try.underlying22 hf with ⟨h0, _⟩ | ⟨a, len, cap, m, n, D, Pl, h0, _, hl, hm, hmm, _, hx⟩
  · simp [Value.cells] at h0
    obtain ⟨rfl, rfl, rfl⟩ := h0
    exact ⟨none, 0, [], rfl, by simp, fun r hr => by simp at hr, Row.nil⟩
  · simp [Value.cells] at h0
    obtain ⟨rfl, rfl, rfl⟩ := h0
    have hm' : m = cap0 := hmm
    have key : ∀ i, i < len0 → ∃ r : ActE, (∀ j, j < 7 → W.cell? ((a.add (i * 7)).add j) = r.cells[j]?) ∧ ActEOk W r := fun i hi => by
      obtain ⟨cs', h1, h2⟩ := hx i (by omega)
      rw [kc] at h1
      obtain ⟨_, _, hcell⟩ := World.cells?_some h1
      obtain ⟨r, rfl, hr⟩ := actE_of_trod h2
      exact ⟨r, hcell, hr⟩
    obtain ⟨pus, hlen, has⟩ := list_of len0 key
    refine ⟨some a, cap0, pus, by rw [hlen], by rw [hlen]; omega, fun r hr => ?_, ?_⟩
    · obtain ⟨i, hi, rfl⟩ := List.getElem_of_mem hr
      exact (has i hi).2
    · by_cases h0 : len0 = 0
      · left
        have : pus = [] := List.eq_nil_of_length_eq_zero (by omega)
        subst this; rfl
      · right
        have hb : a.block < W.heap.size := by
          have h1 := (has 0 (by omega)).1 0 (by omega)
          have hb := Go.World.block_lt_of_cell? _ _ (h1.trans (by rfl : _ = some (Value.int .u8 (pus[0]'(by omega)).kind)))
          rw [add_block, add_block] at hb
          exact hb
        refine ⟨a, rfl, hb, fun j u hj => ?_⟩
        have hjl : j < pus.length * 7 := by
          rcases Nat.lt_or_ge j (pus.length * 7) with h1 | h1
          · exact h1
          · rw [List.getElem?_eq_none (by rw [flatE_len]; exact h1)] at hj; cases hj
        have hk : j / 7 < pus.length := by omega
        have e1 := (has (j / 7) hk).1 (j % 7) (Nat.mod_lt _ (by omega))
        rw [Go.Deep.add_add, show j / 7 * 7 + j % 7 = j by omega] at e1
        rw [e1, ← flatE_get pus (j / 7) hk (j % 7) (Nat.mod_lt _ (by omega)), show j / 7 * 7 + j % 7 = j by omega]
        exact hj
end
end Go.Proofs.Ytfeaffabminpfaa
