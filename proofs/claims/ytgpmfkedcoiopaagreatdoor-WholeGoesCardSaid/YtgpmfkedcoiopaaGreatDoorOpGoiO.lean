/-
  Arguments of layer 14: a way of a motion.
-/
import Derived.Test.YtgpmfkedcoiopaaGreatDoorM04
namespace Go.Proofs.YtgpmfkedcoiopaaGreatDoor
open Go.RowKit Go.ChangeShapes Go.WideShapes
set_option maxRecDepth 100000

theorem going_fields : ∃ f0 f1 f2 f3 f4 : Field, Tryz.prog.underlying 75 = some (.struct #[f0, f1, f2, f3, f4]) ∧ (f0.offset = 0 ∧ f1.offset = 2 ∧ f2.offset = 3 ∧ f3.offset = 4 ∧ f4.offset = 7) ∧
    f0.type = 32 ∧ f1.type = 34 ∧ f2.type = 3 ∧ f3.type = 73 ∧ f4.type = 21 :=
  ⟨_, _, _, _, _, Tryz.underlying75, ⟨by rfl, by rfl, by rfl, by rfl, by rfl⟩, by rfl, by rfl, by rfl, by rfl, by rfl⟩
theorem motionO_fields : ∃ f0 f1 f2 : Field, Tryz.prog.underlying 73 = some (.struct #[f0, f1, f2]) ∧ (f0.offset = 0 ∧ f1.offset = 1 ∧ f2.offset = 2) ∧ f0.type = 21 ∧ f1.type = 21 ∧ f2.type = 3 :=
  ⟨_, _, _, Tryz.underlying73, ⟨by rfl, by rfl, by rfl⟩, by rfl, by rfl, by rfl⟩
section
variable {H : Type} {enc : TypeId × Value → H} {W : World}
theorem motionO_of_trod {a0 a1 a2 : Value} {fuel : Nat} {x : DataW H × List MemPlace} (hf : DataW.trod enc Tryz.prog W 0 (fun _ => true) true fuel 73 [a0, a1, a2] = some x) :
    ∃ k a n : Int, a0 = .int .i32 k ∧ a1 = .int .i32 a ∧ a2 = .int .i64 n ∧ (-2147483648 ≤ k ∧ k ≤ 2147483647) ∧ (-2147483648 ≤ a ∧ a ≤ 2147483647) ∧ (-9223372036854775808 ≤ n ∧ n ≤ 9223372036854775807) := by
  obtain ⟨f0, f1, f2, he, ⟨o0, o1, o2⟩, t0, t1, t2⟩ := motionO_fields
  have k3 : Tryz.prog.cellsOf 21 = 1 := by kernel_rfl
  have ki : Tryz.prog.cellsOf 3 = 1 := by kernel_rfl
  obtain ⟨xs, n, _, _, _, hxl, hg⟩ := DataW.trod_struct he hf
  have hx : xs.length = 3 := hxl
  have g0 := hg 0 f0 rfl
  have g1 := hg 1 f1 rfl
  have g2 := hg 2 f2 rfl
  rw [o0, t0, k3, List.getElem?_eq_getElem (show 0 < xs.length by omega)] at g0
  rw [o1, t1, k3, List.getElem?_eq_getElem (show 1 < xs.length by omega)] at g1
  rw [o2, t2, ki, List.getElem?_eq_getElem (show 2 < xs.length by omega)] at g2
  simp at g0 g1 g2
  obtain ⟨k, e0, _, h0⟩ := DataW.trod_int Tryz.underlying21 g0
  obtain ⟨a, e1, _, h1⟩ := DataW.trod_int Tryz.underlying21 g1
  obtain ⟨m, e2, _, h2⟩ := DataW.trod_int Tryz.underlying3 g2
  simp at e0 e1 e2
  subst e0 e1 e2
  exact ⟨k, a, m, rfl, rfl, rfl, bound_i32 h0, bound_i32 h1, bound_i64 h2⟩
theorem open_going {r : Reach} {b0 : Nat} {v : Value} {d : DataW H} {ps : List MemPlace} (hval : Value.okWide Tryz.prog W r b0 75 v) (h : DataW.Trod enc Tryz.prog W 0 (fun _ => true) true 75 v d ps) :
    ∃ (A : Option Addr) (c : Nat) (S : List UInt8) (l : List RunP) (y : Nat) (p k a n op : Int),
      v = .agg #[.string ⟨S.toArray⟩, .slice A l.length c, .int .u64 (y : Nat), .int .i64 p, .int .i32 k, .int .i32 a, .int .i64 n, .int .i32 op] ∧ Txt W W.heap.size A S l ∧ y < 18446744073709551616 ∧
      (-9223372036854775808 ≤ p ∧ p ≤ 9223372036854775807) ∧ (-2147483648 ≤ k ∧ k ≤ 2147483647) ∧ (-2147483648 ≤ a ∧ a ≤ 2147483647) ∧ (-9223372036854775808 ≤ n ∧ n ≤ 9223372036854775807) := by
  obtain ⟨f0, f1, f2, f3, f4, he, ⟨o0, o1, o2, o3, o4⟩, t0, t1, t2, t3, t4⟩ := going_fields
  have kt : Tryz.prog.cellsOf 32 = 2 := by kernel_rfl
  have kl : Tryz.prog.cellsOf 34 = 1 := by kernel_rfl
  have ki : Tryz.prog.cellsOf 3 = 1 := by kernel_rfl
  have km : Tryz.prog.cellsOf 73 = 3 := by kernel_rfl
  have k3 : Tryz.prog.cellsOf 21 = 1 := by kernel_rfl
  have kh : Tryz.prog.cellsOf 75 = 8 := by kernel_rfl
  obtain ⟨cs, rfl, hsz⟩ := okWide_struct he hval
  obtain ⟨q⟩ := cs
  match q, hsz.trans kh with
  | [a0, a1, a2, a3, a4, a5, a6, a7], _ =>
    obtain ⟨fuel, hf⟩ := h
    obtain ⟨xs, n, _, _, _, hxl, hg⟩ := DataW.trod_struct he hf
    have hx : xs.length = 5 := hxl
    have g0 := hg 0 f0 rfl
    have g1 := hg 1 f1 rfl
    have g2 := hg 2 f2 rfl
    have g3 := hg 3 f3 rfl
    have g4 := hg 4 f4 rfl
    rw [o0, t0, kt, List.getElem?_eq_getElem (show 0 < xs.length by omega)] at g0
    rw [o1, t1, kl, List.getElem?_eq_getElem (show 1 < xs.length by omega)] at g1
    rw [o2, t2, ki, List.getElem?_eq_getElem (show 2 < xs.length by omega)] at g2
    rw [o3, t3, km, List.getElem?_eq_getElem (show 3 < xs.length by omega)] at g3
    rw [o4, t4, k3, List.getElem?_eq_getElem (show 4 < xs.length by omega)] at g4
    simp [Value.cells] at g0 g1 g2 g3 g4
    obtain ⟨A, c, S, l, e0, h0⟩ := text_of_trod g0
    obtain ⟨y', e1, _, h1⟩ := DataW.trod_int Tryz.underlying34 g1
    obtain ⟨y, rfl, hy⟩ := nat_u64 h1
    obtain ⟨p, e2, _, h2⟩ := DataW.trod_int Tryz.underlying3 g2
    obtain ⟨k, a, m, rfl, rfl, rfl, h3, h4, h5⟩ := motionO_of_trod g3
    obtain ⟨op, e4, _, _⟩ := DataW.trod_int Tryz.underlying21 g4
    simp at e0 e1 e2 e4
    obtain ⟨rfl, rfl⟩ := e0
    subst e1 e2 e4
    exact ⟨A, c, S, l, y, p, k, a, m, op, rfl, h0, hy, bound_i64 h2, h3, h4, h5⟩
end
end Go.Proofs.YtgpmfkedcoiopaaGreatDoor
