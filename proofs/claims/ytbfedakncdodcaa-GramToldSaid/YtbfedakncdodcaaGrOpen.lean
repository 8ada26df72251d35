/-
  A list of runes as an argument, with its room; a uint16: layer 11.
-/
import Derived.Test.YtbfedakncdodcaaWords
namespace Go.Proofs.Ytbfedakncdodcaa
open Go.RowKit
open Go.ChangeShapes Go.WideShapes
theorem bound_u16 {x : Int} (h : (Lit.int .u16 x).wf = true) : 0 ≤ x ∧ x ≤ 65535 := by
  simpa [Lit.wf, IntKind.min, IntKind.max, IntKind.signed, IntKind.bits] using h
section
variable {P : Program} {H : Type} {enc : TypeId × Value → H} {W : World}
theorem open_row_c32 {r : Reach} {b0 : Nat} {t e : TypeId} {v : Value} {d : DataW H} {ps : List MemPlace} (ht : P.underlying t = some (.slice e)) (he : P.underlying e = some (.int .i32)) (hc : P.cellsOf e = 1)
    (hval : Value.okWide P W r b0 t v) (h : DataW.Trod enc P W 0 (fun _ => true) true t v d ps) :
    ∃ (A : Option Addr) (c : Nat) (zs : List Int), v = .slice A zs.length c ∧ zs.length ≤ maxLen ∧ zs.length ≤ c ∧ (∀ z ∈ zs, -2147483648 ≤ z ∧ z ≤ 2147483647) ∧ Row W W.heap.size A (zs.map (Value.int .i32)) := by
  obtain ⟨A, c, zs, rfl, hl, hwf, hr⟩ := open_row_i32 ht he hc hval h
  refine ⟨A, c, zs, rfl, hl, ?_, hwf, hr⟩
  obtain ⟨fuel, hf⟩ := h
  rcases open_ints ht he hc hf with ⟨hcs, _⟩ | ⟨a, len', cap', ws, hcs, _, hl', hm, hz, _, hcell, hwf'⟩
  · simp [Value.cells] at hcs
    rw [hcs.2.1]
    simp
  · simp [Value.cells] at hcs
    omega
end
end Go.Proofs.Ytbfedakncdodcaa
