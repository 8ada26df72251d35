/-
  Arguments of layer 15: a job; a job and what stands in place of hidden bytes.
-/
import Derived.Test.YtgmeamefbfgbgaaDoorM04
namespace Go.Proofs.YtgmeamefbfgbgaaDoor
open Go.RowKit Go.ChangeShapes Go.WideShapes
set_option maxRecDepth 100000

theorem jobS_fields : ∃ f0 f1 f2 f3 f4 : Field, Tryd.prog.underlying 28 = some (.struct #[f0, f1, f2, f3, f4]) ∧ (f0.offset = 0 ∧ f1.offset = 1 ∧ f2.offset = 2 ∧ f3.offset = 3 ∧ f4.offset = 4) ∧
    f0.type = 3 ∧ f1.type = 3 ∧ f2.type = 9 ∧ f3.type = 9 ∧ f4.type = 4 :=
  ⟨_, _, _, _, _, Tryd.underlying28, ⟨by rfl, by rfl, by rfl, by rfl, by rfl⟩, by rfl, by rfl, by rfl, by rfl, by rfl⟩
theorem hideS_fields : ∃ f0 f1 : Field, Tryd.prog.underlying 46 = some (.struct #[f0, f1]) ∧ (f0.offset = 0 ∧ f1.offset = 5) ∧ f0.type = 28 ∧ f1.type = 9 :=
  ⟨_, _, Tryd.underlying46, ⟨by rfl, by rfl⟩, by rfl, by rfl⟩
section
variable {H : Type} {enc : TypeId × Value → H} {W : World}
theorem jobS_of_trod {a0 a1 a2 a3 a4 : Value} {fuel : Nat} {x : DataW H × List MemPlace} (hf : DataW.trod enc Tryd.prog W 0 (fun _ => true) true fuel 28 [a0, a1, a2, a3, a4] = some x) :
    ∃ (a b : Int) (p q : List UInt8) (ev : Bool), a0 = .int .i64 a ∧ a1 = .int .i64 b ∧ a2 = .string ⟨p.toArray⟩ ∧ a3 = .string ⟨q.toArray⟩ ∧ a4 = .bool ev ∧ (-9223372036854775808 ≤ a ∧ a ≤ 9223372036854775807) ∧ (-9223372036854775808 ≤ b ∧ b ≤ 9223372036854775807) ∧ p.length ≤ maxLen ∧ q.length ≤ maxLen := by
  obtain ⟨f0, f1, f2, f3, f4, he, ⟨o0, o1, o2, o3, o4⟩, t0, t1, t2, t3, t4⟩ := jobS_fields
  have ki : Tryd.prog.cellsOf 3 = 1 := by kernel_rfl
  have ks : Tryd.prog.cellsOf 9 = 1 := by kernel_rfl
  have kb : Tryd.prog.cellsOf 4 = 1 := by kernel_rfl
  obtain ⟨xs, n, _, _, _, hxl, hg⟩ := DataW.trod_struct he hf
  have hx : xs.length = 5 := hxl
  have g0 := hg 0 f0 rfl
  have g1 := hg 1 f1 rfl
  have g2 := hg 2 f2 rfl
  have g3 := hg 3 f3 rfl
  have g4 := hg 4 f4 rfl
  rw [o0, t0, ki, List.getElem?_eq_getElem (show 0 < xs.length by omega)] at g0
  rw [o1, t1, ki, List.getElem?_eq_getElem (show 1 < xs.length by omega)] at g1
  rw [o2, t2, ks, List.getElem?_eq_getElem (show 2 < xs.length by omega)] at g2
  rw [o3, t3, ks, List.getElem?_eq_getElem (show 3 < xs.length by omega)] at g3
  rw [o4, t4, kb, List.getElem?_eq_getElem (show 4 < xs.length by omega)] at g4
  simp at g0 g1 g2 g3 g4
  obtain ⟨a, e0, _, h0⟩ := DataW.trod_int Tryd.underlying3 g0
  obtain ⟨b, e1, _, h1⟩ := DataW.trod_int Tryd.underlying3 g1
  obtain ⟨p, e2, h2⟩ := string_of_trod Tryd.underlying9 g2
  obtain ⟨q, e3, h3⟩ := string_of_trod Tryd.underlying9 g3
  obtain ⟨ev, e4, _⟩ := DataW.trod_bool Tryd.underlying4 g4
  simp at e0 e1 e2 e3 e4
  subst e0 e1 e2 e3 e4
  exact ⟨a, b, p, q, ev, rfl, rfl, rfl, rfl, rfl, bound_i64 h0, bound_i64 h1, h2, h3⟩
theorem open_jobs {r : Reach} {b0 : Nat} {v : Value} {d : DataW H} {ps : List MemPlace} (hval : Value.okWide Tryd.prog W r b0 28 v) (h : DataW.Trod enc Tryd.prog W 0 (fun _ => true) true 28 v d ps) :
    ∃ (a b : Int) (p q : List UInt8) (ev : Bool), v = .agg #[.int .i64 a, .int .i64 b, .string ⟨p.toArray⟩, .string ⟨q.toArray⟩, .bool ev] ∧ (-9223372036854775808 ≤ a ∧ a ≤ 9223372036854775807) ∧ (-9223372036854775808 ≤ b ∧ b ≤ 9223372036854775807) ∧ p.length ≤ maxLen ∧ q.length ≤ maxLen := by
  obtain ⟨f0, f1, f2, f3, f4, he, _⟩ := jobS_fields
  have kh : Tryd.prog.cellsOf 28 = 5 := by kernel_rfl
  obtain ⟨cs, rfl, hsz⟩ := okWide_struct he hval
  obtain ⟨z⟩ := cs
  match z, hsz.trans kh with
  | [a0, a1, a2, a3, a4], _ =>
    obtain ⟨fuel, hf⟩ := h
    obtain ⟨a, b, p, q, ev, rfl, rfl, rfl, rfl, rfl, hs⟩ := jobS_of_trod hf
    exact ⟨a, b, p, q, ev, rfl, hs⟩
theorem open_hides {r : Reach} {b0 : Nat} {v : Value} {d : DataW H} {ps : List MemPlace} (hval : Value.okWide Tryd.prog W r b0 46 v) (h : DataW.Trod enc Tryd.prog W 0 (fun _ => true) true 46 v d ps) :
    ∃ (a b : Int) (p q : List UInt8) (ev : Bool) (O : List UInt8), v = .agg #[.int .i64 a, .int .i64 b, .string ⟨p.toArray⟩, .string ⟨q.toArray⟩, .bool ev, .string ⟨O.toArray⟩] ∧ (-9223372036854775808 ≤ a ∧ a ≤ 9223372036854775807) ∧ (-9223372036854775808 ≤ b ∧ b ≤ 9223372036854775807) ∧ p.length ≤ maxLen ∧ q.length ≤ maxLen ∧ O.length ≤ maxLen := by
  obtain ⟨f0, f1, he, ⟨o0, o1⟩, t0, t1⟩ := hideS_fields
  have kj : Tryd.prog.cellsOf 28 = 5 := by kernel_rfl
  have ks : Tryd.prog.cellsOf 9 = 1 := by kernel_rfl
  have kh : Tryd.prog.cellsOf 46 = 6 := by kernel_rfl
  obtain ⟨cs, rfl, hsz⟩ := okWide_struct he hval
  obtain ⟨z⟩ := cs
  match z, hsz.trans kh with
  | [a0, a1, a2, a3, a4, a5], _ =>
    obtain ⟨fuel, hf⟩ := h
    obtain ⟨xs, n, _, _, _, hxl, hg⟩ := DataW.trod_struct he hf
    have hx : xs.length = 2 := hxl
    have g0 := hg 0 f0 rfl
    have g1 := hg 1 f1 rfl
    rw [o0, t0, kj, List.getElem?_eq_getElem (show 0 < xs.length by omega)] at g0
    rw [o1, t1, ks, List.getElem?_eq_getElem (show 1 < xs.length by omega)] at g1
    simp [Value.cells] at g0 g1
    obtain ⟨a, b, p, q, ev, rfl, rfl, rfl, rfl, rfl, h1, h2, h3, h4⟩ := jobS_of_trod g0
    obtain ⟨O, e1, h5⟩ := string_of_trod Tryd.underlying9 g1
    simp at e1
    subst e1
    exact ⟨a, b, p, q, ev, O, rfl, h1, h2, h3, h4, h5⟩
end
end Go.Proofs.YtgmeamefbfgbgaaDoor
