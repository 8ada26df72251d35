/-
  For any keys: what is answered hangs on no key behind those that are counted.
  No condition.
-/
import Derived.Test.YtbfedakncdodcaaGrLawO
import Derived.Test.YtbfedakncdodcaaGrOpen
import Derived.Test.YtbfedakncdodcaaGrOwn
namespace Go.Proofs.Ytbfedakncdodcaa.gramOneWay
open Go.ChangeShapes Go.WideShapes Go.ChangeAt Go.RowKit

theorem walk (w : World) (A : Option Addr) (c : Nat) (zs : List Int) (hlzs : zs.length ≤ maxLen) (hzzs : ∀ z ∈ zs, -2147483648 ≤ z ∧ z ≤ 2147483647) (hcap : zs.length ≤ c) (rzs : Row w w.heap.size A (zs.map (Value.int .i32))) (A2 : Option Addr) (c2 : Nat) (ys : List Int) (hlys : ys.length ≤ maxLen) (hzys : ∀ z ∈ ys, -2147483648 ≤ z ∧ z ≤ 2147483647) (rys : Row w w.heap.size A2 (ys.map (Value.int .i32))) (v : Bool) :
    Calls Try.prog 4 #[.slice A zs.length c, .slice A2 ys.length c2, .bool v] w fun e w' => e = .returned (.bool true) ∧ Below w.heap.size w w' :=
  gramOneWay_walk gramSays w A c zs hlzs hzzs hcap rzs A2 c2 ys hlys hzys rys v


theorem own : ownKnob Try.prog.godebug = none := by kernel_rfl
theorem laidOut : laidOutB Try.prog = true := by kernel_rfl
theorem readable0 : Try.prog.readableRec 25 = true ∧ 25 < Try.prog.types.size := ⟨by kernel_rfl, of_decide_eq_true (by kernel_rfl)⟩
theorem readable1 : Try.prog.readableRec 4 = true ∧ 4 < Try.prog.types.size := ⟨by kernel_rfl, of_decide_eq_true (by kernel_rfl)⟩
theorem readable : ∀ t ∈ Try.f4.params.toList, Try.prog.readableRec t = true ∧ t < Try.prog.types.size := by
  rw [Try.params4]
  intro t ht
  have ht' : t = 25 ∨ t = 25 ∨ t = 4 := by simpa using ht
  rcases ht' with rfl | rfl | rfl
  · exact readable0
  · exact readable0
  · exact readable1
theorem cells21 : Try.prog.cellsOf 21 = 1 := by kernel_rfl

set_option maxRecDepth 100000 in
theorem contract (H : Type) (enc : TypeId × Value → H) (W : World) (base : Nat) (args : Array Value) (ds gs : List (DataW H)) (before : List MemPlace)
    (hval : ∀ (j : Nat) t v, Try.f4.params[j]? = some t → args[j]? = some v → Value.okWide Try.prog W .any base t v)
    (hW : DataW.Whole enc Try.prog Try.f4.params.toList Rows.gramOneWaySpec.vars false W args.toList ds gs before) :
    Calls Try.prog 4 args W fun e W' => ∃ v, e = .returned v ∧ Rows.gramOneWaySpec.post enc Try.prog Try.f4 false true false false W args v W' := by
  have hW' := hW
  have hlt := hW.lt
  obtain ⟨p, q, hA0, hV, rfl, hfz, hnd⟩ := hW
  have hA : DataW.TrodAll enc Try.prog W 0 (fun _ => true) true Try.f4.params.toList args.toList ds p := hA0
  rw [Try.params4] at hA hval
  obtain ⟨v0, vs0, d0, ds0, p0, q0, hargs0, rfl, rfl, h0, r0⟩ := trodAll_cons hA
  obtain ⟨v1, vs1, d1, ds1, p1, q1, hargs1, rfl, rfl, h1, r1⟩ := trodAll_cons r0
  subst hargs1
  obtain ⟨v2, vs2, d2, ds2, p2, q2, hargs2, rfl, rfl, h2, r2⟩ := trodAll_cons r1
  subst hargs2
  obtain ⟨rfl, rfl, rfl⟩ := trodAll_nil r2
  obtain rfl : args = #[v0, v1, v2] := by cases args; simp_all
  obtain ⟨rfl, rfl⟩ := trodVars_none hV
  obtain ⟨A0, c0, x0, rfl, l0, m0, b0, y0⟩ := open_row_c32 Try.underlying25 Try.underlying21 cells21 (hval 0 25 v0 rfl rfl) h0
  obtain ⟨A1, c1, x1, rfl, l1, b1, y1⟩ := open_row_i32 Try.underlying25 Try.underlying21 cells21 (hval 1 25 v1 rfl rfl) h1
  obtain ⟨x2, rfl, rfl, rfl⟩ := open_bool Try.underlying4 (hval 2 4 v2 rfl rfl) h2
  clear hA0 hA hval r0 r1 r2
  refine (walk W A0 c0 x0 l0 b0 m0 y0 A1 c1 x1 l1 b1 y1 x2).mono fun e W' ⟨he, hbl⟩ => ?_
  subst he
  exact ⟨_, rfl, law_post laidOut rfl readable (fun _ _ _ => trodAll_mk1 (shut_bool Try.underlying4 _)) rfl rfl hW' hbl⟩

set_option maxRecDepth 100000 in
theorem lifted (os : Os) (started : os.Started) (H : Type) (enc : TypeId × Value → H) :
    ReturnsInHanded {} Try.checked os 4 .any (Rows.gramOneWaySpec.pre6 enc Try.prog Try.f4 Rows.gramOneWayRow.domain false) (Rows.gramOneWaySpec.post enc Try.prog Try.f4 false true false false) := by
  refine returnsInHanded_of_change (C := Try.checked) own started (by kernel_rfl) Try.func4
    (ChangeSpec.witness6 (enc := enc) (C := Try.checked) false ⟨#[], #[.slice none 0 0, .slice none 0 0, .bool false], []⟩ 8 (by kernel_rfl) (by kernel_rfl) (by kernel_rfl) (by kernel_rfl)) ?_
  intro W base args ds gs before hval hW _ _
  exact contract H enc W base args ds gs before hval hW

theorem proved : Rows.GramOneWaySaid :=
  OpenClaim.holds_of_wide 4 Try.f4 rfl rfl rfl rfl rfl rfl rfl ⟨rfl, rfl, rfl, rfl, rfl⟩ rfl rfl rfl rfl rfl (by kernel_rfl) Try.func4 (by kernel_rfl)
    (of_decide_eq_true (by kernel_rfl)) (by unfold Func.isWrapper; first | (rw [if_pos (by decide +kernel)]; kernel_rfl) | (rw [if_neg (by decide +kernel)]; exact ⟨rfl, rfl⟩))
    (fun os started H enc _ => lifted os started H enc)
end Go.Proofs.Ytbfedakncdodcaa.gramOneWay
