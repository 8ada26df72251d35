/-
  Arguments of layer 9: a call, a list of calls.
-/
import Derived.Test.YtcpijnoabipefaaCellsG
namespace Go.Proofs.Ytcpijnoabipefaa
open Go.RowKit Go.ChangeShapes Go.WideShapes
set_option maxRecDepth 100000

/-- a call as it lies in a list -/
structure ActG where
  name : Int
  S : List UInt8
  A : Option Addr
  l : List RunP
  c : Nat
  lines : Bool
  cut : Bool
  wide : Bool
def ActG.cells (r : ActG) : List Value := [.int .i32 r.name, .string ⟨r.S.toArray⟩, .slice r.A r.l.length r.c, .bool r.lines, .bool r.cut, .bool r.wide]
structure ActGOk (W : World) (r : ActG) : Prop where
  hn : -2147483648 ≤ r.name ∧ r.name ≤ 2147483647
  txt : Txt W W.heap.size r.A r.S r.l
def flatA (acs : List ActG) : List Value := acs.flatMap ActG.cells
theorem actG_len (r : ActG) : r.cells.length = 6 := rfl
theorem actG_at {w : World} {B : Nat} {A : Option Addr} {acs : List ActG} (h : Row w B A (flatA acs)) {k : Nat} (hk : k < acs.length) :
    ∃ ad, A = some ad ∧ ad.block < B ∧ w.cell? (ad.add (k * 6)) = some (.int .i32 acs[k].name) ∧ w.cell? ⟨(ad.add (k * 6)).block, (ad.add (k * 6)).off + 1, none⟩ = some (.string ⟨acs[k].S.toArray⟩) ∧
      w.cell? ⟨(ad.add (k * 6)).block, (ad.add (k * 6)).off + 2, none⟩ = some (.slice acs[k].A acs[k].l.length acs[k].c) ∧ w.cell? ⟨(ad.add (k * 6)).block, (ad.add (k * 6)).off + 3, none⟩ = some (.bool acs[k].lines) ∧
      w.cell? ⟨(ad.add (k * 6)).block, (ad.add (k * 6)).off + 4, none⟩ = some (.bool acs[k].cut) ∧ w.cell? ⟨(ad.add (k * 6)).block, (ad.add (k * 6)).off + 5, none⟩ = some (.bool acs[k].wide) := by
  obtain ⟨ad, rfl, hb, h0, hj⟩ := cellsG_at ActG.cells 6 actG_len (by decide) h hk
  exact ⟨ad, rfl, hb, h0, hj 1 (by decide) (by decide), hj 2 (by decide) (by decide), hj 3 (by decide) (by decide), hj 4 (by decide) (by decide), hj 5 (by decide) (by decide)⟩
theorem entry_fields : ∃ f0 f1 : Field, Try.prog.underlying 33 = some (.struct #[f0, f1]) ∧ (f0.offset = 0 ∧ f1.offset = 2) ∧ f0.type = 29 ∧ Try.prog.underlying f1.type = some .bool ∧ Try.prog.cellsOf f1.type = 1 ∧ Try.prog.cellsOf 33 = 3 :=
  ⟨_, _, Try.underlying33, ⟨by rfl, by rfl⟩, by rfl, by kernel_rfl, by kernel_rfl, by kernel_rfl⟩
theorem actG_fields : ∃ f0 f1 f2 f3 : Field, Try.prog.underlying 40 = some (.struct #[f0, f1, f2, f3]) ∧ (f0.offset = 0 ∧ f1.offset = 1 ∧ f2.offset = 4 ∧ f3.offset = 5) ∧
    (Try.prog.cellsOf f0.type = 1 ∧ Try.prog.cellsOf f1.type = 3 ∧ Try.prog.cellsOf f2.type = 1 ∧ Try.prog.cellsOf f3.type = 1) ∧
    Try.prog.underlying f0.type = some (.int .i32) ∧ f1.type = 33 ∧ Try.prog.underlying f2.type = some .bool ∧ Try.prog.underlying f3.type = some .bool ∧ Try.prog.cellsOf 40 = 6 :=
  ⟨_, _, _, _, Try.underlying40, ⟨by rfl, by rfl, by rfl, by rfl⟩, ⟨by kernel_rfl, by kernel_rfl, by kernel_rfl, by kernel_rfl⟩, by kernel_rfl, by rfl, by kernel_rfl, by kernel_rfl, by kernel_rfl⟩

section
variable {H : Type} {enc : TypeId × Value → H} {W : World}
theorem entry_of_trod {fuel : Nat} {cs : List Value} {x : DataW H × List MemPlace} (hf : DataW.trod enc Try.prog W 0 (fun _ => true) true fuel 33 cs = some x) :
    ∃ (S : List UInt8) (A : Option Addr) (l : List RunP) (c : Nat) (b : Bool), cs = [.string ⟨S.toArray⟩, .slice A l.length c, .bool b] ∧ Txt W W.heap.size A S l := by
  obtain ⟨f0, f1, he, ⟨o0, o1⟩, k0, k1, c1, kc⟩ := entry_fields
  have kt : Try.prog.cellsOf 29 = 2 := by kernel_rfl
  obtain ⟨xs, n, _, _, hl, hxl, hg⟩ := DataW.trod_struct he hf
  rw [kc] at hl
  match cs, hl with
  | [v0, v1, v2], _ =>
    have g0 := hg 0 f0 rfl
    have g1 := hg 1 f1 rfl
    rw [o0, k0, kt] at g0
    rw [o1, c1] at g1
    simp at g0 g1
    have hx2 : xs.length = 2 := hxl
    rw [List.getElem?_eq_getElem (show 0 < xs.length by omega)] at g0
    rw [List.getElem?_eq_getElem (show 1 < xs.length by omega)] at g1
    obtain ⟨A, c, S, l, e1, h1⟩ := text_of_trod g0
    obtain ⟨b, e2, _⟩ := DataW.trod_bool k1 g1
    refine ⟨S, A, l, c, b, ?_, h1⟩
    simp at e1 e2
    obtain ⟨rfl, rfl⟩ := e1
    rw [e2]
theorem actG_of_trod {fuel : Nat} {cs : List Value} {x : DataW H × List MemPlace} (hf : DataW.trod enc Try.prog W 0 (fun _ => true) true fuel 40 cs = some x) :
    ∃ r : ActG, cs = r.cells ∧ ActGOk W r := by
  obtain ⟨f0, f1, f2, f3, he, ⟨o0, o1, o2, o3⟩, ⟨c0, c1, c2, c3⟩, k0, k1, k2, k3, kc⟩ := actG_fields
  obtain ⟨xs, n, _, _, hl, hxl, hg⟩ := DataW.trod_struct he hf
  rw [kc] at hl
  match cs, hl with
  | [v0, v1, v2, v3, v4, v5], _ =>
    have g0 := hg 0 f0 rfl
    have g1 := hg 1 f1 rfl
    have g2 := hg 2 f2 rfl
    have g3 := hg 3 f3 rfl
    rw [o0, c0] at g0
    rw [o1, c1] at g1
    rw [o2, c2] at g2
    rw [o3, c3] at g3
    simp at g0 g1 g2 g3
    have hx4 : xs.length = 4 := hxl
    rw [List.getElem?_eq_getElem (show 0 < xs.length by omega)] at g0
    rw [List.getElem?_eq_getElem (show 1 < xs.length by omega), k1] at g1
    rw [List.getElem?_eq_getElem (show 2 < xs.length by omega)] at g2
    rw [List.getElem?_eq_getElem (show 3 < xs.length by omega)] at g3
    obtain ⟨n0, e0, _, w0⟩ := DataW.trod_int k0 g0
    obtain ⟨S, A, l, c, b, e1, h1⟩ := entry_of_trod g1
    obtain ⟨b2, e2, _⟩ := DataW.trod_bool k2 g2
    obtain ⟨b3, e3, _⟩ := DataW.trod_bool k3 g3
    refine ⟨⟨n0, S, A, l, c, b, b2, b3⟩, ?_, bound_i32 w0, h1⟩
    simp at e0 e1 e2 e3
    obtain ⟨rfl, rfl, rfl⟩ := e1
    rw [e0, e2, e3]
    rfl
theorem open_actG {r : Reach} {b0 : Nat} {v : Value} {d : DataW H} {ps : List MemPlace} (hval : Value.okWide Try.prog W r b0 40 v) (h : DataW.Trod enc Try.prog W 0 (fun _ => true) true 40 v d ps) :
    ∃ a : ActG, v = .agg a.cells.toArray ∧ ActGOk W a := by
  obtain ⟨f0, f1, f2, f3, he, _⟩ := actG_fields
  obtain ⟨cs, rfl, _⟩ := okWide_struct he hval
  obtain ⟨fuel, hf⟩ := h
  obtain ⟨a, e, ha⟩ := actG_of_trod hf
  refine ⟨a, ?_, ha⟩
  have : cs.toList = a.cells := by simpa [Value.cells] using e
  rw [← this, Array.toArray_toList]
theorem open_actGs {r : Reach} {b0 : Nat} {v : Value} {d : DataW H} {ps : List MemPlace} (hval : Value.okWide Try.prog W r b0 38 v) (h : DataW.Trod enc Try.prog W 0 (fun _ => true) true 38 v d ps) :
    ∃ (A : Option Addr) (c : Nat) (acs : List ActG), v = .slice A acs.length c ∧ acs.length ≤ maxLen ∧ (∀ a ∈ acs, ActGOk W a) ∧ Row W W.heap.size A (flatA acs) := by
  obtain ⟨_, _, _, _, _, _, _, _, _, _, _, kc⟩ := actG_fields
  exact open_sliceG ActG.cells 6 actG_len (by decide) (ActGOk W) Try.underlying38 kc actG_of_trod hval h
end
end Go.Proofs.Ytcpijnoabipefaa
