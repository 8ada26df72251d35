/-
  Arguments of layer 14: a job.
-/
import Derived.Test.YtgpmfkedcoiopaaGreatDoorM04
namespace Go.Proofs.YtgpmfkedcoiopaaGreatDoor
open Go.RowKit Go.ChangeShapes Go.WideShapes
set_option maxRecDepth 100000

theorem job_fields : ∃ f0 f1 f2 f3 f4 f5 f6 f7 : Field, Tryz.prog.underlying 38 = some (.struct #[f0, f1, f2, f3, f4, f5, f6, f7]) ∧ (f0.offset = 0 ∧ f1.offset = 2 ∧ f2.offset = 3 ∧ f3.offset = 4 ∧ f4.offset = 7 ∧ f5.offset = 8 ∧ f6.offset = 9 ∧ f7.offset = 12) ∧
    f0.type = 32 ∧ f1.type = 34 ∧ f2.type = 21 ∧ f3.type = 25 ∧ f4.type = 3 ∧ f5.type = 3 ∧ f6.type = 36 ∧ f7.type = 4 :=
  ⟨_, _, _, _, _, _, _, _, Tryz.underlying38, ⟨by rfl, by rfl, by rfl, by rfl, by rfl, by rfl, by rfl, by rfl⟩, by rfl, by rfl, by rfl, by rfl, by rfl, by rfl, by rfl, by rfl⟩
theorem rangeO_fields : ∃ f0 f1 f2 : Field, Tryz.prog.underlying 25 = some (.struct #[f0, f1, f2]) ∧ (f0.offset = 0 ∧ f1.offset = 1 ∧ f2.offset = 2) ∧ f0.type = 3 ∧ f1.type = 3 ∧ f2.type = 4 :=
  ⟨_, _, _, Tryz.underlying25, ⟨by rfl, by rfl, by rfl⟩, by rfl, by rfl, by rfl⟩
theorem entryO_fields : ∃ f0 f1 : Field, Tryz.prog.underlying 36 = some (.struct #[f0, f1]) ∧ (f0.offset = 0 ∧ f1.offset = 2) ∧ f0.type = 32 ∧ f1.type = 4 :=
  ⟨_, _, Tryz.underlying36, ⟨by rfl, by rfl⟩, by rfl, by rfl⟩
section
variable {H : Type} {enc : TypeId × Value → H} {W : World}
theorem rangeO_of_trod {a0 a1 a2 : Value} {fuel : Nat} {x : DataW H × List MemPlace} (hf : DataW.trod enc Tryz.prog W 0 (fun _ => true) true fuel 25 [a0, a1, a2] = some x) :
    ∃ (f t : Int) (b : Bool), a0 = .int .i64 f ∧ a1 = .int .i64 t ∧ a2 = .bool b ∧ (-9223372036854775808 ≤ f ∧ f ≤ 9223372036854775807) ∧ (-9223372036854775808 ≤ t ∧ t ≤ 9223372036854775807) := by
  obtain ⟨f0, f1, f2, he, ⟨o0, o1, o2⟩, t0, t1, t2⟩ := rangeO_fields
  have ki : Tryz.prog.cellsOf 3 = 1 := by kernel_rfl
  have kb : Tryz.prog.cellsOf 4 = 1 := by kernel_rfl
  obtain ⟨xs, n, _, _, _, hxl, hg⟩ := DataW.trod_struct he hf
  have hx : xs.length = 3 := hxl
  have g0 := hg 0 f0 rfl
  have g1 := hg 1 f1 rfl
  have g2 := hg 2 f2 rfl
  rw [o0, t0, ki, List.getElem?_eq_getElem (show 0 < xs.length by omega)] at g0
  rw [o1, t1, ki, List.getElem?_eq_getElem (show 1 < xs.length by omega)] at g1
  rw [o2, t2, kb, List.getElem?_eq_getElem (show 2 < xs.length by omega)] at g2
  simp at g0 g1 g2
  obtain ⟨f, e0, _, h0⟩ := DataW.trod_int Tryz.underlying3 g0
  obtain ⟨t, e1, _, h1⟩ := DataW.trod_int Tryz.underlying3 g1
  obtain ⟨b, e2, _⟩ := DataW.trod_bool Tryz.underlying4 g2
  simp at e0 e1 e2
  subst e0 e1 e2
  exact ⟨f, t, b, rfl, rfl, rfl, bound_i64 h0, bound_i64 h1⟩
theorem entryO_of_trod {a0 a1 a2 : Value} {fuel : Nat} {x : DataW H × List MemPlace} (hf : DataW.trod enc Tryz.prog W 0 (fun _ => true) true fuel 36 [a0, a1, a2] = some x) :
    ∃ (A : Option Addr) (c : Nat) (S : List UInt8) (l : List RunP) (b : Bool), a0 = .string ⟨S.toArray⟩ ∧ a1 = .slice A l.length c ∧ a2 = .bool b ∧ Txt W W.heap.size A S l := by
  obtain ⟨f0, f1, he, ⟨o0, o1⟩, t0, t1⟩ := entryO_fields
  have kt : Tryz.prog.cellsOf 32 = 2 := by kernel_rfl
  have kb : Tryz.prog.cellsOf 4 = 1 := by kernel_rfl
  obtain ⟨xs, n, _, _, _, hxl, hg⟩ := DataW.trod_struct he hf
  have hx : xs.length = 2 := hxl
  have g0 := hg 0 f0 rfl
  have g1 := hg 1 f1 rfl
  rw [o0, t0, kt, List.getElem?_eq_getElem (show 0 < xs.length by omega)] at g0
  rw [o1, t1, kb, List.getElem?_eq_getElem (show 1 < xs.length by omega)] at g1
  simp at g0 g1
  obtain ⟨A, c, S, l, e0, h0⟩ := text_of_trod g0
  obtain ⟨b, e1, _⟩ := DataW.trod_bool Tryz.underlying4 g1
  simp at e0 e1
  obtain ⟨rfl, rfl⟩ := e0
  subst e1
  exact ⟨A, c, S, l, b, rfl, rfl, rfl, h0⟩
theorem open_job {r : Reach} {b0 : Nat} {v : Value} {d : DataW H} {ps : List MemPlace} (hval : Value.okWide Tryz.prog W r b0 38 v) (h : DataW.Trod enc Tryz.prog W 0 (fun _ => true) true 38 v d ps) :
    ∃ (A : Option Addr) (c : Nat) (S : List UInt8) (l : List RunP) (y : Nat) (op f t : Int) (b : Bool) (p n : Int) (A2 : Option Addr) (c2 : Nat) (X : List UInt8) (m : List RunP) (xb ah : Bool),
      v = .agg #[.string ⟨S.toArray⟩, .slice A l.length c, .int .u64 (y : Nat), .int .i32 op, .int .i64 f, .int .i64 t, .bool b, .int .i64 p, .int .i64 n, .string ⟨X.toArray⟩, .slice A2 m.length c2, .bool xb, .bool ah] ∧ Txt W W.heap.size A S l ∧ Txt W W.heap.size A2 X m ∧
      y < 18446744073709551616 ∧ (-2147483648 ≤ op ∧ op ≤ 2147483647) ∧ (-9223372036854775808 ≤ f ∧ f ≤ 9223372036854775807) ∧ (-9223372036854775808 ≤ t ∧ t ≤ 9223372036854775807) ∧ (-9223372036854775808 ≤ p ∧ p ≤ 9223372036854775807) ∧ (-9223372036854775808 ≤ n ∧ n ≤ 9223372036854775807) := by
  obtain ⟨f0, f1, f2, f3, f4, f5, f6, f7, he, ⟨o0, o1, o2, o3, o4, o5, o6, o7⟩, t0, t1, t2, t3, t4, t5, t6, t7⟩ := job_fields
  have kt : Tryz.prog.cellsOf 32 = 2 := by kernel_rfl
  have kl : Tryz.prog.cellsOf 34 = 1 := by kernel_rfl
  have k32 : Tryz.prog.cellsOf 21 = 1 := by kernel_rfl
  have kr : Tryz.prog.cellsOf 25 = 3 := by kernel_rfl
  have ki : Tryz.prog.cellsOf 3 = 1 := by kernel_rfl
  have ke : Tryz.prog.cellsOf 36 = 3 := by kernel_rfl
  have kb : Tryz.prog.cellsOf 4 = 1 := by kernel_rfl
  have kh : Tryz.prog.cellsOf 38 = 13 := by kernel_rfl
  obtain ⟨cs, rfl, hsz⟩ := okWide_struct he hval
  obtain ⟨q⟩ := cs
  match q, hsz.trans kh with
  | [a0, a1, a2, a3, a4, a5, a6, a7, a8, a9, a10, a11, a12], _ =>
    obtain ⟨fuel, hf⟩ := h
    obtain ⟨xs, n, _, _, _, hxl, hg⟩ := DataW.trod_struct he hf
    have hx : xs.length = 8 := hxl
    have g0 := hg 0 f0 rfl
    have g1 := hg 1 f1 rfl
    have g2 := hg 2 f2 rfl
    have g3 := hg 3 f3 rfl
    have g4 := hg 4 f4 rfl
    have g5 := hg 5 f5 rfl
    have g6 := hg 6 f6 rfl
    have g7 := hg 7 f7 rfl
    rw [o0, t0, kt, List.getElem?_eq_getElem (show 0 < xs.length by omega)] at g0
    rw [o1, t1, kl, List.getElem?_eq_getElem (show 1 < xs.length by omega)] at g1
    rw [o2, t2, k32, List.getElem?_eq_getElem (show 2 < xs.length by omega)] at g2
    rw [o3, t3, kr, List.getElem?_eq_getElem (show 3 < xs.length by omega)] at g3
    rw [o4, t4, ki, List.getElem?_eq_getElem (show 4 < xs.length by omega)] at g4
    rw [o5, t5, ki, List.getElem?_eq_getElem (show 5 < xs.length by omega)] at g5
    rw [o6, t6, ke, List.getElem?_eq_getElem (show 6 < xs.length by omega)] at g6
    rw [o7, t7, kb, List.getElem?_eq_getElem (show 7 < xs.length by omega)] at g7
    simp [Value.cells] at g0 g1 g2 g3 g4 g5 g6 g7
    obtain ⟨A, c, S, l, e0, h0⟩ := text_of_trod g0
    obtain ⟨y', e1, _, h1⟩ := DataW.trod_int Tryz.underlying34 g1
    obtain ⟨y, rfl, hy⟩ := nat_u64 h1
    obtain ⟨op, e2, _, h2⟩ := DataW.trod_int Tryz.underlying21 g2
    obtain ⟨f, t, b, rfl, rfl, rfl, h3, h3b⟩ := rangeO_of_trod g3
    obtain ⟨p, e4, _, h4⟩ := DataW.trod_int Tryz.underlying3 g4
    obtain ⟨n, e5, _, h5⟩ := DataW.trod_int Tryz.underlying3 g5
    obtain ⟨A2, c2, X, m, xb, rfl, rfl, rfl, h6⟩ := entryO_of_trod g6
    obtain ⟨ah, e7, _⟩ := DataW.trod_bool Tryz.underlying4 g7
    simp at e0 e1 e2 e4 e5 e7
    obtain ⟨rfl, rfl⟩ := e0
    subst e1 e2 e4 e5 e7
    exact ⟨A, c, S, l, y, op, f, t, b, p, n, A2, c2, X, m, xb, ah, rfl, h0, h6, hy, bound_i32 h2, h3, h3b, bound_i64 h4, bound_i64 h5⟩
end
end Go.Proofs.YtgpmfkedcoiopaaGreatDoor
