/-
  Arguments of layer 4: a list of texts.
-/
import Derived.Test.YtcpijnoabipefaaM04
namespace Go.Proofs.Ytcpijnoabipefaa
open Go.RowKit Go.ChangeShapes Go.WideShapes
set_option maxRecDepth 100000

/-- a text as it lies in a list: its bytes, where its runs lie, and they -/
structure TextP where
  S : List UInt8
  A : Option Addr
  c : Nat
  l : List RunP
def flatX (ts : List TextP) : List Value := ts.flatMap fun r => [.string ⟨r.S.toArray⟩, .slice r.A r.l.length r.c]
theorem flatX_len (ts : List TextP) : (flatX ts).length = ts.length * 2 := by
  induction ts with
  | nil => rfl
  | cons r l ih => simp only [flatX, List.flatMap_cons, List.length_append, List.length_cons] at *; rw [ih]; simp; omega
theorem flatX_get (ts : List TextP) (k : Nat) (hk : k < ts.length) : (flatX ts)[k * 2]? = some (.string ⟨ts[k].S.toArray⟩) ∧ (flatX ts)[k * 2 + 1]? = some (.slice ts[k].A ts[k].l.length ts[k].c) := by
  induction ts generalizing k with
  | nil => simp at hk
  | cons r l ih =>
    cases k with
    | zero => simp [flatX]
    | succ k =>
      have := ih k (by simpa using hk)
      simp only [flatX, List.flatMap_cons, List.getElem_cons_succ] at *
      rw [List.getElem?_append_right (by simp; omega), List.getElem?_append_right (by simp; omega)]
      simp only [List.length_cons, List.length_nil]
      rw [show (k + 1) * 2 - (0 + 1 + 1) = k * 2 by omega, show (k + 1) * 2 + 1 - (0 + 1 + 1) = k * 2 + 1 by omega]
      exact this
theorem text_at {w : World} {B : Nat} {A : Option Addr} {ts : List TextP} (h : Row w B A (flatX ts)) {k : Nat} (hk : k < ts.length) :
    ∃ ad, A = some ad ∧ ad.block < B ∧ w.cell? (ad.add (k * 2)) = some (.string ⟨ts[k].S.toArray⟩) ∧ w.cell? ⟨(ad.add (k * 2)).block, (ad.add (k * 2)).off + 1, none⟩ = some (.slice ts[k].A ts[k].l.length ts[k].c) := by
  rcases h with h | ⟨ad, rfl, hb, hc⟩
  · have := congrArg List.length h
    rw [flatX_len] at this
    simp at this; omega
  · have c1 := hc _ _ (flatX_get ts k hk).2
    rw [run_field _ _] at c1
    exact ⟨ad, rfl, hb, hc _ _ (flatX_get ts k hk).1, c1⟩
theorem flatX_at {ts : List TextP} {j : Nat} {u : Value} (h : (flatX ts)[j]? = some u) : ∃ k, ∃ hk : k < ts.length, (j = k * 2 ∧ u = .string ⟨ts[k].S.toArray⟩) ∨ (j = k * 2 + 1 ∧ u = .slice ts[k].A ts[k].l.length ts[k].c) := by
  have hj : j < ts.length * 2 := by
    rcases Nat.lt_or_ge j (ts.length * 2) with h1 | h1
    · exact h1
    · rw [List.getElem?_eq_none (by rw [flatX_len]; exact h1)] at h; cases h
  have hk : j / 2 < ts.length := by omega
  obtain ⟨g0, g1⟩ := flatX_get ts (j / 2) hk
  refine ⟨j / 2, hk, ?_⟩
  rcases Nat.mod_two_eq_zero_or_one j with h0 | h0
  · left
    have e : j / 2 * 2 = j := by omega
    rw [e, h] at g0
    exact ⟨e.symm, by injection g0⟩
  · right
    have e : j / 2 * 2 + 1 = j := by omega
    rw [e, h] at g1
    exact ⟨e.symm, by injection g1⟩
theorem list_of {α : Type} {P : Nat → α → Prop} : ∀ n : Nat, (∀ i, i < n → ∃ x, P i x) → ∃ l : List α, l.length = n ∧ ∀ i (h : i < l.length), P i l[i] := by
  intro n
  induction n with
  | zero => intro _; exact ⟨[], rfl, fun i h => absurd h (by simp)⟩
  | succ n ih =>
    intro h
    obtain ⟨l, hl, hp⟩ := ih (fun i hi => h i (by omega))
    obtain ⟨x, hx⟩ := h n (by omega)
    refine ⟨l ++ [x], by simp [hl], fun i hi => ?_⟩
    by_cases hin : i < l.length
    · rw [List.getElem_append_left hin]; exact hp i hin
    · have : i = n := by simp at hi; omega
      subst this
      rw [List.getElem_append_right (by omega)]
      simpa [hl] using hx

section
variable {H : Type} {enc : TypeId × Value → H} {W : World}
theorem texts_of_trod {fuel : Nat} {cs : List Value} {x : DataW H × List MemPlace} (hf : DataW.trod enc Try.prog W 0 (fun _ => true) true fuel 22 cs = some x) :
    ∃ (A : Option Addr) (c : Nat) (ts : List TextP), cs = [.slice A ts.length c] ∧ ts.length ≤ maxLen ∧ (∀ r ∈ ts, Txt W W.heap.size r.A r.S r.l) ∧ Row W W.heap.size A (flatX ts) := by
  obtain ⟨f0, f1, he, o0, o1, c0, c1, k0, k1, kc⟩ := text_fields
  rcases Go.Deep.open_slice_pairs Try.underlying22 he kc o0 o1 c0 c1 hf with ⟨rfl, _⟩ | ⟨a, len, cap, m, n, V0, V1, D0, D1, P0, P1, rfl, _, hl, hm, hmm, _, hx⟩
  · exact ⟨none, 0, [], rfl, by simp, fun r hr => by simp at hr, Row.nil⟩
  · have hm' : m = cap := hmm
    have key : ∀ i, i < len → ∃ r : TextP, V0 i = .string ⟨r.S.toArray⟩ ∧ V1 i = .slice r.A r.l.length r.c ∧ Txt W W.heap.size r.A r.S r.l := fun i hi => by
      obtain ⟨_, _, t0, t1⟩ := hx i (by omega)
      obtain ⟨S, e0, hS⟩ := string_of_trod k0 t0
      rw [k1] at t1
      obtain ⟨A, c, l, e1, h1, h2, h3⟩ := runs_of_trod t1
      exact ⟨⟨S, A, c, l⟩, by simpa using e0, by simpa using e1, hS, h2, h1, h3⟩
    obtain ⟨ts, hlen, hts⟩ := list_of len key
    refine ⟨some a, cap, ts, by rw [hlen], by rw [hlen]; omega, fun r hr => ?_, ?_⟩
    · obtain ⟨i, hi, rfl⟩ := List.getElem_of_mem hr
      exact (hts i hi).2.2
    · by_cases h0 : len = 0
      · left
        have : ts = [] := List.eq_nil_of_length_eq_zero (by omega)
        subst this; rfl
      · right
        have h1 := (hx 0 (by omega)).1
        have hb := Go.World.block_lt_of_cell? _ _ h1
        rw [add_block] at hb
        refine ⟨a, rfl, hb, fun j u hj => ?_⟩
        obtain ⟨k, hk, h2⟩ := flatX_at hj
        have hk' : k < len := by omega
        obtain ⟨g0, g1, _, _⟩ := hx k (by omega)
        have e := hts k hk
        rcases h2 with ⟨rfl, rfl⟩ | ⟨rfl, rfl⟩
        · rw [g0, e.1]
        · rw [g1, e.2.1]
theorem open_texts {r : Reach} {b0 : Nat} {v : Value} {d : DataW H} {ps : List MemPlace} (hval : Value.okWide Try.prog W r b0 22 v) (h : DataW.Trod enc Try.prog W 0 (fun _ => true) true 22 v d ps) :
    ∃ (A : Option Addr) (c : Nat) (ts : List TextP), v = .slice A ts.length c ∧ ts.length ≤ maxLen ∧ (∀ r ∈ ts, Txt W W.heap.size r.A r.S r.l) ∧ Row W W.heap.size A (flatX ts) := by
  obtain ⟨a0, len, cap, rfl⟩ := okWide_slice Try.underlying22 hval
  obtain ⟨fuel, hf⟩ := h
  obtain ⟨A, c, ts, e, h1, h2, h3⟩ := texts_of_trod hf
  simp [Value.cells] at e
  obtain ⟨rfl, rfl, rfl⟩ := e
  exact ⟨_, _, ts, rfl, h1, h2, h3⟩
end
end Go.Proofs.Ytcpijnoabipefaa
