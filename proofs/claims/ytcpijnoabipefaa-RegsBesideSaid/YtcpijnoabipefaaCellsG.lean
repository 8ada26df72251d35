/-
  Rows of elements of several cells each; a slice of structs as an argument: layers 8 and on.
-/
import Derived.Test.YtcpijnoabipefaaEdiOpen
namespace Go.Proofs.Ytcpijnoabipefaa
open Go.RowKit Go.ChangeShapes Go.WideShapes

section
variable {α : Type} (f : α → List Value) (K : Nat) (hK : ∀ x, (f x).length = K)
include hK
/-- elements of K cells each, one behind the other -/
theorem cellsG_len (l : List α) : (l.flatMap f).length = l.length * K := by
  induction l with
  | nil => simp
  | cons r l ih => rw [List.flatMap_cons, List.length_append, ih, hK, List.length_cons, Nat.add_mul, Nat.one_mul, Nat.add_comm]
theorem cellsG_get (l : List α) (k : Nat) (hk : k < l.length) (j : Nat) (hj : j < K) : (l.flatMap f)[k * K + j]? = (f l[k])[j]? := by
  induction l generalizing k with
  | nil => simp at hk
  | cons r l ih =>
    cases k with
    | zero =>
      simp only [List.flatMap_cons, Nat.zero_mul, Nat.zero_add, List.getElem_cons_zero]
      rw [List.getElem?_append_left (by rw [hK]; exact hj)]
    | succ k =>
      simp only [List.flatMap_cons, List.getElem_cons_succ]
      rw [List.getElem?_append_right (by rw [hK, Nat.add_mul]; omega), show (k + 1) * K + j - (f r).length = k * K + j by rw [hK, Nat.add_mul]; omega]
      exact ih k (by simpa using hk)
omit hK in
theorem addG (ad : Addr) (n j : Nat) (hj : 0 < j) : ad.add (n + j) = ⟨(ad.add n).block, (ad.add n).off + j, none⟩ := by
  unfold Addr.add
  by_cases hn : n = 0
  · subst hn; simp; omega
  · simp [hn]; omega
theorem cellsG_at {w : World} {B : Nat} {A : Option Addr} {l : List α} (hpos : 0 < K) (h : Row w B A (l.flatMap f)) {k : Nat} (hk : k < l.length) :
    ∃ ad, A = some ad ∧ ad.block < B ∧ (w.cell? (ad.add (k * K)) = (f l[k])[0]?) ∧ ∀ j, 0 < j → j < K → w.cell? ⟨(ad.add (k * K)).block, (ad.add (k * K)).off + j, none⟩ = (f l[k])[j]? := by
  rcases h with h | ⟨ad, rfl, hb, hc⟩
  · have := congrArg List.length h
    rw [cellsG_len f K hK] at this
    have := Nat.mul_pos (show 0 < l.length by omega) hpos
    simp at *; omega
  · have key : ∀ j, j < K → w.cell? (ad.add (k * K + j)) = (f l[k])[j]? := fun j hj => by
      have g := cellsG_get f K hK l k hk j hj
      have hjl : j < (f l[k]).length := by rw [hK]; exact hj
      rw [List.getElem?_eq_getElem hjl] at g ⊢
      exact hc _ _ g
    refine ⟨ad, rfl, hb, by have := key 0 hpos; rwa [Nat.add_zero] at this, fun j h0 hj => ?_⟩
    rw [← addG ad (k * K) j h0]
    exact key j hj
end


section
variable {H : Type} {enc : TypeId × Value → H} {W : World}
/-- a slice of structs of K cells, whatever they are -/
theorem open_sliceG {α : Type} (f : α → List Value) (K : Nat) (hK : ∀ x, (f x).length = K) (hpos : 0 < K) (Ok : α → Prop) {TS TE : TypeId} (hu : Try.prog.underlying TS = some (.slice TE)) (kc : Try.prog.cellsOf TE = K)
    (ho : ∀ {fuel : Nat} {cs : List Value} {x : DataW H × List MemPlace}, DataW.trod enc Try.prog W 0 (fun _ => true) true fuel TE cs = some x → ∃ r, cs = f r ∧ Ok r)
    {r : Reach} {b0 : Nat} {v : Value} {d : DataW H} {ps : List MemPlace} (hval : Value.okWide Try.prog W r b0 TS v) (h : DataW.Trod enc Try.prog W 0 (fun _ => true) true TS v d ps) :
    ∃ (A : Option Addr) (c : Nat) (l : List α), v = .slice A l.length c ∧ l.length ≤ maxLen ∧ (∀ a ∈ l, Ok a) ∧ Row W W.heap.size A (l.flatMap f) := by
  obtain ⟨a0, len0, cap0, rfl⟩ := okWide_slice hu hval
  obtain ⟨fuel, hf⟩ := h
  rcases Go.Deep.open_slice hu hf with ⟨h0, _⟩ | ⟨a, len, cap, m, n, D, Pl, h0, _, hl, hm, hmm, _, hx⟩
  · simp [Value.cells] at h0
    obtain ⟨rfl, rfl, rfl⟩ := h0
    exact ⟨none, 0, [], rfl, by simp, fun r hr => by simp at hr, Row.nil⟩
  · simp [Value.cells] at h0
    obtain ⟨rfl, rfl, rfl⟩ := h0
    have hm' : m = cap0 := hmm
    have key : ∀ i, i < len0 → ∃ r : α, (∀ j, j < K → W.cell? ((a.add (i * K)).add j) = (f r)[j]?) ∧ Ok r := fun i hi => by
      obtain ⟨cs', h1, h2⟩ := hx i (by omega)
      rw [kc] at h1
      obtain ⟨_, _, hcell⟩ := World.cells?_some h1
      obtain ⟨r, rfl, hr⟩ := ho h2
      exact ⟨r, hcell, hr⟩
    obtain ⟨pus, hlen, has⟩ := list_of len0 key
    refine ⟨some a, cap0, pus, by rw [hlen], by rw [hlen]; omega, fun r hr => ?_, ?_⟩
    · obtain ⟨i, hi, rfl⟩ := List.getElem_of_mem hr
      exact (has i hi).2
    · by_cases h0 : len0 = 0
      · left
        have : pus = [] := List.eq_nil_of_length_eq_zero (by omega)
        subst this; rfl
      · right
        have hb : a.block < W.heap.size := by
          have h1 := (has 0 (by omega)).1 0 hpos
          have hb := Go.World.block_lt_of_cell? _ _ (h1.trans (List.getElem?_eq_getElem (by rw [hK]; exact hpos)))
          rw [add_block, add_block] at hb
          exact hb
        refine ⟨a, rfl, hb, fun j u hj => ?_⟩
        have hjl : j < pus.length * K := by
          rcases Nat.lt_or_ge j (pus.length * K) with h1 | h1
          · exact h1
          · rw [List.getElem?_eq_none (by rw [cellsG_len f K hK]; exact h1)] at hj; cases hj
        have hk : j / K < pus.length := Nat.div_lt_of_lt_mul (by rw [Nat.mul_comm]; exact hjl)
        have e1 := (has (j / K) hk).1 (j % K) (Nat.mod_lt _ hpos)
        have e2 : j / K * K + j % K = j := by rw [Nat.mul_comm]; exact Nat.div_add_mod j K
        rw [Go.Deep.add_add, e2] at e1
        rw [e1, ← cellsG_get f K hK pus (j / K) hk (j % K) (Nat.mod_lt _ hpos), e2]
        exact hj
end
end Go.Proofs.Ytcpijnoabipefaa
