/-
  For any text, level, operator and range: what the operator does is the document's, or refused.
  No condition.
-/
import Derived.Test.YtgpmfkedcoiopaaGreatDoorOpLawD
import Derived.Test.YtgpmfkedcoiopaaGreatDoorOpJobO
import Derived.Test.YtgpmfkedcoiopaaGreatDoorM03
import Derived.Test.YtgpmfkedcoiopaaGreatDoorOpOwn
import Derived.Test.YtgpmfkedcoiopaaGreatDoorCards
import Derived.Test.YtgpmfkedcoiopaaGreatDoorTie
import Derived.SevenTiedAt
import Derived.Lay
import Derived.Deep.DeepHandedRow
namespace Go.Proofs.YtgpmfkedcoiopaaGreatDoor.operDoes
open Go.ChangeShapes Go.WideShapes Go.ChangeAt Go.RowKit

theorem walk (w : World) (A : Option Addr) (c : Nat) (S : List UInt8) (l : List RunP) (y : Nat) (op f t : Int) (b : Bool) (p n : Int) (A2 : Option Addr) (c2 : Nat) (X : List UInt8) (m : List RunP) (xb ah : Bool) (h : Txu w A S l) (hX : Txu w A2 X m) (hy : y < 18446744073709551616) (hop : -2147483648 ≤ op ∧ op ≤ 2147483647) (hf : -9223372036854775808 ≤ f ∧ f ≤ 9223372036854775807) (ht : -9223372036854775808 ≤ t ∧ t ≤ 9223372036854775807) (hp : -9223372036854775808 ≤ p ∧ p ≤ 9223372036854775807) (hn : -9223372036854775808 ≤ n ∧ n ≤ 9223372036854775807) :
    Calls Tryz.prog 4 #[.agg #[.string ⟨S.toArray⟩, .slice A l.length c, .int .u64 (y : Nat), .int .i32 op, .int .i64 f, .int .i64 t, .bool b, .int .i64 p, .int .i64 n, .string ⟨X.toArray⟩, .slice A2 m.length c2, .bool xb, .bool ah]] w fun e w' => e = .returned (.bool true) ∧ Below w.heap.size w w' :=
  operDoes_walk w (operSays w) S A l c y hy op f t hop hf ht b p n hp hn X A2 m c2 xb ah h hX


theorem own : ownKnob Tryz.prog.godebug = none := by kernel_rfl
theorem laidOut : laidOutB Tryz.prog = true := by kernel_rfl
theorem readable0 : Tryz.prog.readableRec 38 = true ∧ 38 < Tryz.prog.types.size := ⟨by kernel_rfl, of_decide_eq_true (by kernel_rfl)⟩
theorem readable : ∀ t ∈ Tryz.f4.params.toList, Tryz.prog.readableRec t = true ∧ t < Tryz.prog.types.size := by
  rw [Tryz.params4]
  intro t ht
  obtain rfl : t = 38 := by simpa using ht
  exact readable0

set_option maxRecDepth 100000 in
theorem contract (H : Type) (enc : TypeId × Value → H) (W : World) (base : Nat) (args : Array Value) (ds gs : List (DataW H)) (before : List MemPlace)
    (hval : ∀ (j : Nat) t v, Tryz.f4.params[j]? = some t → args[j]? = some v → Value.okWide Tryz.prog W .any base t v)
    (hW : DataW.Whole enc Tryz.prog Tryz.f4.params.toList Rows.operDoesSpec.vars false W args.toList ds gs before) (_ : laidMetH Tryz.prog Rows.operDoesRow.laid W) :
    Calls Tryz.prog 4 args W fun e W' => ∃ v, e = .returned v ∧ Rows.operDoesSpec.post enc Tryz.prog Tryz.f4 false true false false W args v W' := by
  have hW' := hW
  have hlt := hW.lt
  obtain ⟨p, q, hA0, hV, rfl, hfz, hnd⟩ := hW
  have hA : DataW.TrodAll enc Tryz.prog W 0 (fun _ => true) true Tryz.f4.params.toList args.toList ds p := hA0
  rw [Tryz.params4] at hA hval
  obtain ⟨v0, vs0, d0, ds0, p0, q0, hargs0, rfl, rfl, h0, r0⟩ := trodAll_cons hA
  obtain ⟨rfl, rfl, rfl⟩ := trodAll_nil r0
  obtain rfl : args = #[v0] := by cases args; simp_all
  obtain ⟨rfl, rfl⟩ := trodVars_none hV
  obtain ⟨jA0, jc0, jS0, jl0, jy0, jop0, jf0, jt0, jb0, jp0, jn0, jB0, jd0, jX0, jm0, jxb0, jah0, rfl, jh0, jhX0, jhy0, jhop0, jhf0, jht0, jhp0, jhn0⟩ := open_job (hval 0 38 v0 rfl rfl) h0
  clear hA0 hA hval r0
  refine (walk W jA0 jc0 jS0 jl0 jy0 jop0 jf0 jt0 jb0 jp0 jn0 jB0 jd0 jX0 jm0 jxb0 jah0 jh0 jhX0 jhy0 jhop0 jhf0 jht0 jhp0 jhn0).mono fun e W' ⟨he, hbl⟩ => ?_
  subst he
  exact ⟨_, rfl, law_post laidOut rfl readable (fun _ _ _ => trodAll_mk1 (shut_bool Tryz.underlying4 _)) rfl rfl hW' hbl⟩

theorem met (os : Os) : laidMet Tryz.prog Rows.operDoesRow.laid ((World.laidAll Tryz.prog os Rows.operDoesRow.laid).forCall (fun _ _ => 0) ⟨#[], #[.agg #[.string .empty, .slice none 0 0, .int .u64 0, .int .i32 0, .int .i64 0, .int .i64 0, .bool false, .int .i64 0, .int .i64 0, .string .empty, .slice none 0 0, .bool false, .bool false]], []⟩).memory :=
  laidMet_laidAll _ (by kernel_rfl) (by kernel_rfl)
theorem reads (os : Os) {H : Type} (enc : TypeId × Value → H) : ∃ places, DataW.whole enc Tryz.prog ((World.laidAll Tryz.prog os Rows.operDoesRow.laid).forCall (fun _ _ => 0) ⟨#[], #[.agg #[.string .empty, .slice none 0 0, .int .u64 0, .int .i32 0, .int .i64 0, .int .i64 0, .bool false, .int .i64 0, .int .i64 0, .string .empty, .slice none 0 0, .bool false, .bool false]], []⟩).memory Tryz.f4.params.toList Rows.operDoesSpec.vars false (#[.agg #[.string .empty, .slice none 0 0, .int .u64 0, .int .i32 0, .int .i64 0, .int .i64 0, .bool false, .int .i64 0, .int .i64 0, .string .empty, .slice none 0 0, .bool false, .bool false]] : Array Value).toList 8 = some ([.agg [.agg [.lit (.string []), .nil], .lit (.int .u64 0), .lit (.int .i32 0), .agg [.lit (.int .i64 0), .lit (.int .i64 0), .lit (.bool false)], .lit (.int .i64 0), .lit (.int .i64 0), .agg [.agg [.lit (.string []), .nil], .lit (.bool false)], .lit (.bool false)]], [], places) :=
  ⟨[], by kernel_rfl⟩
set_option maxRecDepth 100000 in
theorem lifted (os : Os) (started : os.Started) (H : Type) (enc : TypeId × Value → H) (F : Stop.Interp) :
    ReturnsInHanded {} Tryz.checked os 4 .any ((OpenSpec.ofChange Rows.operDoesSpec).preRow enc Tryz.prog Tryz.f4 Rows.operDoesRow.domain false Rows.operDoesRow.laid) (((OpenSpec.ofChange Rows.operDoesSpec).at F).post enc Tryz.prog Tryz.f4 false true false false) := by
  obtain ⟨places, hx⟩ := reads os enc
  refine returnsInHanded_of_row (C := Tryz.checked) (s := OpenSpec.ofChange Rows.operDoesSpec) own started (by kernel_rfl) Tryz.func4
    (witness_row_at (enc := enc) (C := Tryz.checked) false (World.laidAll Tryz.prog os Rows.operDoesRow.laid) #[.agg #[.string .empty, .slice none 0 0, .int .u64 0, .int .i32 0, .int .i64 0, .int .i64 0, .bool false, .int .i64 0, .int .i64 0, .string .empty, .slice none 0 0, .bool false, .bool false]] (World.laidAll_os _ _ _) (by kernel_rfl) (by kernel_rfl) (by kernel_rfl)
      (OpenSpec.preRow_of_cond 8 hx (by kernel_rfl) (fun k hk => by cases hk) (by kernel_rfl) (met os))) ?_
  intro W base args ds gs before hval hW _ _ _ hL _ _
  exact contract H enc W base args ds gs before hval hW hL

theorem said : Rows.OperDoesSaid :=
  OpenClaim.holds_of_cond 4 Tryz.f4 rfl rfl rfl rfl rfl rfl rfl ⟨rfl, rfl, rfl, rfl, rfl⟩ rfl rfl rfl rfl rfl (by kernel_rfl) Tryz.func4 (by kernel_rfl)
    (of_decide_eq_true (by kernel_rfl)) (by unfold Func.isWrapper; first | (rw [if_pos (by decide +kernel)]; kernel_rfl) | (rw [if_neg (by decide +kernel)]; exact ⟨rfl, rfl⟩))
    (fun os started H enc _ F => by rw [OpenClaim.pre_eq_preRow]; exact lifted os started H enc F)
theorem plain (f : FuncId) (fn : Func) (hf : Tryz.pinned.checked.prog.funcNamed "bureau/bureaulaw14.OperDoes" = some f) (hfn : Tryz.pinned.checked.prog.funcs[f]? = some fn) :
    false = Tryz.pinned.checked.prog.looks [] ∧ ∀ (j : Nat) t, fn.params[j]? = some t → Tryz.pinned.checked.prog.wantsStandIn t = false := by
  obtain rfl : f = 4 := Option.some.inj ((show Tryz.prog.funcNamed "bureau/bureaulaw14.OperDoes" = some 4 by kernel_rfl).symm.trans hf) |>.symm
  obtain rfl : fn = Tryz.f4 := (Option.some.inj (Tryz.func4.symm.trans hfn)).symm
  refine ⟨by kernel_rfl, fun j t ht => ?_⟩
  rw [Tryz.params4] at ht
  have ht' : t = 38 := by simpa using Array.mem_of_getElem? ht
  subst ht'
  exact (show Tryz.prog.wantsStandIn 38 = false by kernel_rfl)
theorem proved : Rows.OperDoesCardSaid :=
  Claim7.holds_tied_plain_at .later [] _ _ _ _ said (fun _ h => by cases h) (by kernel_rfl) (fun _ h => by cases h) operDoes_row_tie rfl ⟨rfl, rfl⟩ (by kernel_rfl) rfl plain (by kernel_rfl)
end Go.Proofs.YtgpmfkedcoiopaaGreatDoor.operDoes
