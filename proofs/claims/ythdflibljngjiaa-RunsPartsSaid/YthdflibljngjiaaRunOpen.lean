/-
  Arguments of layer 3: a list of runs, a pair of numbers.
-/
import Derived.Test.YthdflibljngjiaaRunRow
import Derived.Deep.SlicePairs
namespace Go.Proofs.Ythdflibljngjiaa
open Go.RowKit Go.ChangeShapes Go.WideShapes

theorem flatR_at {l : List RunP} {j : Nat} {u : Value} (h : (flatR l)[j]? = some u) : ∃ k, ∃ hk : k < l.length, (j = k * 2 ∧ u = .int .u64 (l[k].1 : Nat)) ∨ (j = k * 2 + 1 ∧ u = .int .i64 l[k].2) := by
  have hj : j < l.length * 2 := by
    rcases Nat.lt_or_ge j (l.length * 2) with h1 | h1
    · exact h1
    · rw [List.getElem?_eq_none (by rw [flatR_len]; exact h1)] at h; cases h
  have hk : j / 2 < l.length := by omega
  obtain ⟨g0, g1⟩ := flatR_get l (j / 2) hk
  refine ⟨j / 2, hk, ?_⟩
  rcases Nat.mod_two_eq_zero_or_one j with h0 | h0
  · left
    have e : j / 2 * 2 = j := by omega
    rw [e, h] at g0
    exact ⟨e.symm, by injection g0⟩
  · right
    have e : j / 2 * 2 + 1 = j := by omega
    rw [e, h] at g1
    exact ⟨e.symm, by injection g1⟩

theorem run_fields : ∃ f0 f1 : Field, Try.prog.underlying 51 = some (.struct #[f0, f1]) ∧ f0.offset = 0 ∧ f1.offset = 1 ∧ Try.prog.cellsOf f0.type = 1 ∧ Try.prog.cellsOf f1.type = 1 ∧ Try.prog.underlying f0.type = some (.int .u64) ∧ Try.prog.underlying f1.type = some (.int .i64) :=
  ⟨_, _, Try.underlying51, by rfl, by rfl, by kernel_rfl, by kernel_rfl, by kernel_rfl, by kernel_rfl⟩

section
variable {H : Type} {enc : TypeId × Value → H} {W : World}
theorem open_runs {r : Reach} {b0 : Nat} {v : Value} {d : DataW H} {ps : List MemPlace} (hval : Value.okWide Try.prog W r b0 22 v) (h : DataW.Trod enc Try.prog W 0 (fun _ => true) true 22 v d ps) :
    ∃ (A : Option Addr) (c : Nat) (zs : List RunP), v = .slice A zs.length c ∧ zs.length ≤ maxLen ∧ Fits zs ∧ Row W W.heap.size A (flatR zs) := by
  obtain ⟨f0, f1, he, o0, o1, c0, c1, k0, k1⟩ := run_fields
  obtain ⟨a0, len, cap, rfl⟩ := okWide_slice Try.underlying22 hval
  obtain ⟨fuel, hf⟩ := h
  rcases Go.Deep.open_slice_pairs Try.underlying22 he (by kernel_rfl) o0 o1 c0 c1 hf with ⟨hcs, _⟩ | ⟨a, len', cap', m, n, V0, V1, D0, D1, P0, P1, hcs, _, hl, hm, hmm, _, hx⟩
  · simp [Value.cells] at hcs
    obtain ⟨rfl, rfl, rfl⟩ := hcs
    exact ⟨none, 0, [], rfl, by simp, fun r hr => by simp at hr, Row.nil⟩
  · simp [Value.cells] at hcs
    obtain ⟨rfl, rfl, rfl⟩ := hcs
    have hm' : m = cap := hmm
    have key : ∀ i, i < len → ∃ x : Nat, ∃ y : Int, V0 i = .int .u64 (x : Nat) ∧ V1 i = .int .i64 y ∧ x < 18446744073709551616 ∧ -9223372036854775808 ≤ y ∧ y ≤ 9223372036854775807 := fun i hi => by
      obtain ⟨_, _, t0, t1⟩ := hx i (by omega)
      obtain ⟨x, e0, _, w0⟩ := DataW.trod_int k0 t0
      obtain ⟨y, e1, _, w1⟩ := DataW.trod_int k1 t1
      obtain ⟨x', rfl, hx'⟩ := nat_u64 w0
      have := bound_i64 w1
      exact ⟨x', y, by simpa using e0, by simpa using e1, hx', this⟩
    have hlen : ((List.range len).map fun i => ((intOf (V0 i)).toNat, intOf (V1 i))).length = len := by simp
    refine ⟨some a, cap, (List.range len).map fun i => ((intOf (V0 i)).toNat, intOf (V1 i)), by rw [hlen], by rw [hlen]; omega, fun r hr => ?_, ?_⟩
    · obtain ⟨i, hi, rfl⟩ := List.mem_map.1 hr
      obtain ⟨x, y, e0, e1, h0, h1⟩ := key i (List.mem_range.1 hi)
      rw [e0, e1]
      exact ⟨by simpa [intOf] using h0, by simpa [intOf] using h1⟩
    · by_cases h0 : len = 0
      · left; subst h0; simp [flatR]
      · right
        have h1 := (hx 0 (by omega)).1
        have hb := Go.World.block_lt_of_cell? _ _ h1
        rw [add_block] at hb
        refine ⟨a, rfl, hb, fun j u hj => ?_⟩
        obtain ⟨k, hk, h2⟩ := flatR_at hj
        have hk' : k < len := by rw [hlen] at hk; exact hk
        obtain ⟨x, y, e0, e1, _, _⟩ := key k hk'
        obtain ⟨g0, g1, _, _⟩ := hx k (by omega)
        rcases h2 with ⟨rfl, rfl⟩ | ⟨rfl, rfl⟩
        · rw [g0, e0]; simp [e0, intOf]
        · rw [g1, e1]; simp [e1, intOf]
end
end Go.Proofs.Ythdflibljngjiaa
