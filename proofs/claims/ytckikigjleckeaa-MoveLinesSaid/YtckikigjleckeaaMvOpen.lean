/-
  Arguments of layer 12: a motion, [3]uint16.
-/
import Derived.Test.YtckikigjleckeaaWords
import Derived.Test.YtckikigjleckeaaRows
namespace Go.Proofs.Ytckikigjleckeaa
open Go.RowKit Go.ChangeShapes Go.WideShapes
set_option maxRecDepth 100000

theorem motion_fields : ∃ f0 f1 f2 : Field, Try.prog.underlying 23 = some (.struct #[f0, f1, f2]) ∧ (f0.offset = 0 ∧ f1.offset = 1 ∧ f2.offset = 2) ∧
    (Try.prog.cellsOf f0.type = 1 ∧ Try.prog.cellsOf f1.type = 1 ∧ Try.prog.cellsOf f2.type = 1) ∧
    Try.prog.underlying f0.type = some (.int .i32) ∧ Try.prog.underlying f1.type = some (.int .i32) ∧ Try.prog.underlying f2.type = some (.int .i64) ∧ Try.prog.cellsOf 23 = 3 :=
  ⟨_, _, _, Try.underlying23, ⟨by rfl, by rfl, by rfl⟩, ⟨by kernel_rfl, by kernel_rfl, by kernel_rfl⟩, by kernel_rfl, by kernel_rfl, by kernel_rfl, by kernel_rfl⟩
theorem bound_u16m {x : Int} (h : (Lit.int .u16 x).wf = true) : 0 ≤ x ∧ x ≤ 65535 := by
  simpa [Lit.wf, IntKind.min, IntKind.max, IntKind.signed, IntKind.bits] using h
section
variable {H : Type} {enc : TypeId × Value → H} {W : World}
theorem open_motion {r : Reach} {b0 : Nat} {v : Value} {d : DataW H} {ps : List MemPlace} (hval : Value.okWide Try.prog W r b0 23 v) (h : DataW.Trod enc Try.prog W 0 (fun _ => true) true 23 v d ps) :
    ∃ k a c : Int, v = .agg #[.int .i32 k, .int .i32 a, .int .i64 c] ∧ (-2147483648 ≤ k ∧ k ≤ 2147483647) ∧ (-2147483648 ≤ a ∧ a ≤ 2147483647) ∧ (-9223372036854775808 ≤ c ∧ c ≤ 9223372036854775807) := by
  obtain ⟨f0, f1, f2, he, ⟨o0, o1, o2⟩, ⟨k0, k1, k2⟩, u0, u1, u2, kc⟩ := motion_fields
  obtain ⟨cs, rfl, _⟩ := okWide_struct he hval
  obtain ⟨fuel, hf⟩ := h
  obtain ⟨xs, n, _, _, hl, hxl, hg⟩ := DataW.trod_struct he hf
  rw [kc] at hl
  obtain ⟨l⟩ := cs
  match l, hl with
  | [v0, v1, v2], _ =>
    have g0 := hg 0 f0 rfl
    have g1 := hg 1 f1 rfl
    have g2 := hg 2 f2 rfl
    rw [o0, k0] at g0
    rw [o1, k1] at g1
    rw [o2, k2] at g2
    have hx2 : xs.length = 3 := hxl
    simp [Value.cells] at g0 g1 g2
    rw [List.getElem?_eq_getElem (show 0 < xs.length by omega)] at g0
    rw [List.getElem?_eq_getElem (show 1 < xs.length by omega)] at g1
    rw [List.getElem?_eq_getElem (show 2 < xs.length by omega)] at g2
    obtain ⟨k, e0, _, w0⟩ := DataW.trod_int u0 g0
    obtain ⟨a, e1, _, w1⟩ := DataW.trod_int u1 g1
    obtain ⟨c, e2, _, w2⟩ := DataW.trod_int u2 g2
    refine ⟨k, a, c, ?_, bound_i32 w0, bound_i32 w1, bound_i64 w2⟩
    injection e0 with e0
    injection e1 with e1
    injection e2 with e2
    rw [e0, e1, e2]
theorem open_u16x3 {r : Reach} {b0 : Nat} {v : Value} {d : DataW H} {ps : List MemPlace} (hval : Value.okWide Try.prog W r b0 31 v) (h : DataW.Trod enc Try.prog W 0 (fun _ => true) true 31 v d ps) :
    ∃ x y z : Int, v = .agg #[.int .u16 x, .int .u16 y, .int .u16 z] ∧ (0 ≤ x ∧ x ≤ 65535) ∧ (0 ≤ y ∧ y ≤ 65535) ∧ (0 ≤ z ∧ z ≤ 65535) := by
  have hu := Try.underlying31
  have hc : Try.prog.cellsOf 31 = 3 := by kernel_rfl
  have hce : Try.prog.cellsOf 30 = 1 := by kernel_rfl
  simp only [Value.okWide, hu] at hval
  obtain ⟨cs, rfl, hsz, _⟩ := hval
  obtain ⟨l⟩ := cs
  match l, hsz.trans hc with
  | [v0, v1, v2], _ =>
    obtain ⟨fuel, hf⟩ := h
    obtain ⟨xs, m, _, _, _, hxl, hi⟩ := DataW.trod_array hu hf
    have g0 := hi 0 (by omega)
    have g1 := hi 1 (by omega)
    have g2 := hi 2 (by omega)
    rw [hce] at g0 g1 g2
    simp [Value.cells] at g0 g1 g2
    rw [List.getElem?_eq_getElem (show 0 < xs.length by omega)] at g0
    rw [List.getElem?_eq_getElem (show 1 < xs.length by omega)] at g1
    rw [List.getElem?_eq_getElem (show 2 < xs.length by omega)] at g2
    obtain ⟨x, e0, _, w0⟩ := DataW.trod_int Try.underlying30 g0
    obtain ⟨y, e1, _, w1⟩ := DataW.trod_int Try.underlying30 g1
    obtain ⟨z, e2, _, w2⟩ := DataW.trod_int Try.underlying30 g2
    refine ⟨x, y, z, ?_, bound_u16m w0, bound_u16m w1, bound_u16m w2⟩
    injection e0 with e0
    injection e1 with e1
    injection e2 with e2
    rw [e0, e1, e2]
end
end Go.Proofs.Ytckikigjleckeaa
