/-
  An argument that is a pair of numbers, [2]int.
-/
import Derived.Test.YthdflibljngjiaaWords
import Derived.Test.YthdflibljngjiaaRows
namespace Go.Proofs.Ythdflibljngjiaa
open Go.RowKit Go.ChangeShapes Go.WideShapes
section
variable {H : Type} {enc : TypeId × Value → H} {W : World}
theorem open_pair {r : Reach} {b0 : Nat} {v : Value} {d : DataW H} {ps : List MemPlace} (hval : Value.okWide Try.prog W r b0 43 v) (h : DataW.Trod enc Try.prog W 0 (fun _ => true) true 43 v d ps) :
    ∃ x y : Int, v = .agg #[.int .i64 x, .int .i64 y] ∧ (-9223372036854775808 ≤ x ∧ x ≤ 9223372036854775807) ∧ (-9223372036854775808 ≤ y ∧ y ≤ 9223372036854775807) := by
  have hu := Try.underlying43
  have hc : Try.prog.cellsOf 43 = 2 := by kernel_rfl
  have hce : Try.prog.cellsOf 3 = 1 := by kernel_rfl
  simp only [Value.okWide, hu] at hval
  obtain ⟨cs, rfl, hsz, _⟩ := hval
  obtain ⟨l⟩ := cs
  match l, hsz.trans hc with
  | [v0, v1], _ =>
    obtain ⟨fuel, hf⟩ := h
    obtain ⟨xs, m, _, _, _, hxl, hi⟩ := DataW.trod_array hu hf
    have g0 := hi 0 (by omega)
    have g1 := hi 1 (by omega)
    rw [hce] at g0 g1
    simp [Value.cells] at g0 g1
    have x0 : xs[0]? = some (xs[0]'(by omega)) := List.getElem?_eq_getElem (by omega)
    have x1 : xs[1]? = some (xs[1]'(by omega)) := List.getElem?_eq_getElem (by omega)
    rw [x0] at g0
    rw [x1] at g1
    obtain ⟨x, e0, _, w0⟩ := DataW.trod_int Try.underlying3 g0
    obtain ⟨y, e1, _, w1⟩ := DataW.trod_int Try.underlying3 g1
    refine ⟨x, y, ?_, bound_i64 w0, bound_i64 w1⟩
    injection e0 with e0
    injection e1 with e1
    rw [e0, e1]
end
end Go.Proofs.Ythdflibljngjiaa
