/-
  For any text, level, place and motion over no whole lines: what d takes is what lies on the way, and is gone behind it; y takes the same, and leaves all.
  No condition.
-/
import Derived.Test.YtgpmfkedcoiopaaGreatDoorOpTop
import Derived.Test.YtgpmfkedcoiopaaGreatDoorOpGoiO
import Derived.Test.YtgpmfkedcoiopaaGreatDoorOpOwnG
import Derived.Test.YtgpmfkedcoiopaaGreatDoorMvOwn
import Derived.Test.YtgpmfkedcoiopaaGreatDoorCards
import Derived.Test.YtgpmfkedcoiopaaGreatDoorTie
import Derived.SevenTiedAt
import Derived.Lay
import Derived.Deep.DeepHandedRow
namespace Go.Proofs.YtgpmfkedcoiopaaGreatDoor.wholeGoes
open Go.ChangeShapes Go.WideShapes Go.ChangeAt Go.RowKit

theorem walk (w : World) (A : Option Addr) (c : Nat) (S : List UInt8) (l : List RunP) (y : Nat) (p k a n op : Int) (h : Txu w A S l) (hy : y < 18446744073709551616) (hp : -9223372036854775808 ≤ p ∧ p ≤ 9223372036854775807) (hk : -2147483648 ≤ k ∧ k ≤ 2147483647) (ha : -2147483648 ≤ a ∧ a ≤ 2147483647) (hn : -9223372036854775808 ≤ n ∧ n ≤ 9223372036854775807) :
    Calls Tryz.prog 11 #[.agg #[.string ⟨S.toArray⟩, .slice A l.length c, .int .u64 (y : Nat), .int .i64 p, .int .i32 k, .int .i32 a, .int .i64 n, .int .i32 op]] w fun e w' => e = .returned (.bool true) ∧ Below w.heap.size w w' :=
  wholeGoes_walk w (operDS w) (moveSays w) S A l c y hy p k a n op hp hk ha hn h


theorem own : ownKnob Tryz.prog.godebug = none := by kernel_rfl
theorem laidOut : laidOutB Tryz.prog = true := by kernel_rfl
theorem readable0 : Tryz.prog.readableRec 75 = true ∧ 75 < Tryz.prog.types.size := ⟨by kernel_rfl, of_decide_eq_true (by kernel_rfl)⟩
theorem readable : ∀ t ∈ Tryz.f11.params.toList, Tryz.prog.readableRec t = true ∧ t < Tryz.prog.types.size := by
  rw [Tryz.params11]
  intro t ht
  obtain rfl : t = 75 := by simpa using ht
  exact readable0

set_option maxRecDepth 100000 in
theorem contract (H : Type) (enc : TypeId × Value → H) (W : World) (base : Nat) (args : Array Value) (ds gs : List (DataW H)) (before : List MemPlace)
    (hval : ∀ (j : Nat) t v, Tryz.f11.params[j]? = some t → args[j]? = some v → Value.okWide Tryz.prog W .any base t v)
    (hW : DataW.Whole enc Tryz.prog Tryz.f11.params.toList Rows.wholeGoesSpec.vars false W args.toList ds gs before) (_ : laidMetH Tryz.prog Rows.wholeGoesRow.laid W) :
    Calls Tryz.prog 11 args W fun e W' => ∃ v, e = .returned v ∧ Rows.wholeGoesSpec.post enc Tryz.prog Tryz.f11 false true false false W args v W' := by
  have hW' := hW
  have hlt := hW.lt
  obtain ⟨p, q, hA0, hV, rfl, hfz, hnd⟩ := hW
  have hA : DataW.TrodAll enc Tryz.prog W 0 (fun _ => true) true Tryz.f11.params.toList args.toList ds p := hA0
  rw [Tryz.params11] at hA hval
  obtain ⟨v0, vs0, d0, ds0, p0, q0, hargs0, rfl, rfl, h0, r0⟩ := trodAll_cons hA
  obtain ⟨rfl, rfl, rfl⟩ := trodAll_nil r0
  obtain rfl : args = #[v0] := by cases args; simp_all
  obtain ⟨rfl, rfl⟩ := trodVars_none hV
  obtain ⟨jA0, jc0, jS0, jl0, jy0, jp0, jk0, ja0, jn0, jop0, rfl, jh0, jhy0, jhp0, jhk0, jha0, jhn0⟩ := open_going (hval 0 75 v0 rfl rfl) h0
  clear hA0 hA hval r0
  refine (walk W jA0 jc0 jS0 jl0 jy0 jp0 jk0 ja0 jn0 jop0 jh0 jhy0 jhp0 jhk0 jha0 jhn0).mono fun e W' ⟨he, hbl⟩ => ?_
  subst he
  exact ⟨_, rfl, law_post laidOut rfl readable (fun _ _ _ => trodAll_mk1 (shut_bool Tryz.underlying4 _)) rfl rfl hW' hbl⟩

theorem met (os : Os) : laidMet Tryz.prog Rows.wholeGoesRow.laid ((World.laidAll Tryz.prog os Rows.wholeGoesRow.laid).forCall (fun _ _ => 0) ⟨#[], #[.agg #[.string .empty, .slice none 0 0, .int .u64 0, .int .i64 0, .int .i32 0, .int .i32 0, .int .i64 0, .int .i32 0]], []⟩).memory :=
  laidMet_laidAll _ (by kernel_rfl) (by kernel_rfl)
theorem reads (os : Os) {H : Type} (enc : TypeId × Value → H) : ∃ places, DataW.whole enc Tryz.prog ((World.laidAll Tryz.prog os Rows.wholeGoesRow.laid).forCall (fun _ _ => 0) ⟨#[], #[.agg #[.string .empty, .slice none 0 0, .int .u64 0, .int .i64 0, .int .i32 0, .int .i32 0, .int .i64 0, .int .i32 0]], []⟩).memory Tryz.f11.params.toList Rows.wholeGoesSpec.vars false (#[.agg #[.string .empty, .slice none 0 0, .int .u64 0, .int .i64 0, .int .i32 0, .int .i32 0, .int .i64 0, .int .i32 0]] : Array Value).toList 8 = some ([.agg [.agg [.lit (.string []), .nil], .lit (.int .u64 0), .lit (.int .i64 0), .agg [.lit (.int .i32 0), .lit (.int .i32 0), .lit (.int .i64 0)], .lit (.int .i32 0)]], [], places) :=
  ⟨[], by kernel_rfl⟩
set_option maxRecDepth 100000 in
theorem lifted (os : Os) (started : os.Started) (H : Type) (enc : TypeId × Value → H) (F : Stop.Interp) :
    ReturnsInHanded {} Tryz.checked os 11 .any ((OpenSpec.ofChange Rows.wholeGoesSpec).preRow enc Tryz.prog Tryz.f11 Rows.wholeGoesRow.domain false Rows.wholeGoesRow.laid) (((OpenSpec.ofChange Rows.wholeGoesSpec).at F).post enc Tryz.prog Tryz.f11 false true false false) := by
  obtain ⟨places, hx⟩ := reads os enc
  refine returnsInHanded_of_row (C := Tryz.checked) (s := OpenSpec.ofChange Rows.wholeGoesSpec) own started (by kernel_rfl) Tryz.func11
    (witness_row_at (enc := enc) (C := Tryz.checked) false (World.laidAll Tryz.prog os Rows.wholeGoesRow.laid) #[.agg #[.string .empty, .slice none 0 0, .int .u64 0, .int .i64 0, .int .i32 0, .int .i32 0, .int .i64 0, .int .i32 0]] (World.laidAll_os _ _ _) (by kernel_rfl) (by kernel_rfl) (by kernel_rfl)
      (OpenSpec.preRow_of_cond 8 hx (by kernel_rfl) (fun k hk => by cases hk) (by kernel_rfl) (met os))) ?_
  intro W base args ds gs before hval hW _ _ _ hL _ _
  exact contract H enc W base args ds gs before hval hW hL

theorem said : Rows.WholeGoesSaid :=
  OpenClaim.holds_of_cond 11 Tryz.f11 rfl rfl rfl rfl rfl rfl rfl ⟨rfl, rfl, rfl, rfl, rfl⟩ rfl rfl rfl rfl rfl (by kernel_rfl) Tryz.func11 (by kernel_rfl)
    (of_decide_eq_true (by kernel_rfl)) (by unfold Func.isWrapper; first | (rw [if_pos (by decide +kernel)]; kernel_rfl) | (rw [if_neg (by decide +kernel)]; exact ⟨rfl, rfl⟩))
    (fun os started H enc _ F => by rw [OpenClaim.pre_eq_preRow]; exact lifted os started H enc F)
theorem plain (f : FuncId) (fn : Func) (hf : Tryz.pinned.checked.prog.funcNamed "bureau/bureautop.WholeGoes" = some f) (hfn : Tryz.pinned.checked.prog.funcs[f]? = some fn) :
    false = Tryz.pinned.checked.prog.looks [] ∧ ∀ (j : Nat) t, fn.params[j]? = some t → Tryz.pinned.checked.prog.wantsStandIn t = false := by
  obtain rfl : f = 11 := Option.some.inj ((show Tryz.prog.funcNamed "bureau/bureautop.WholeGoes" = some 11 by kernel_rfl).symm.trans hf) |>.symm
  obtain rfl : fn = Tryz.f11 := (Option.some.inj (Tryz.func11.symm.trans hfn)).symm
  refine ⟨by kernel_rfl, fun j t ht => ?_⟩
  rw [Tryz.params11] at ht
  have ht' : t = 75 := by simpa using Array.mem_of_getElem? ht
  subst ht'
  exact (show Tryz.prog.wantsStandIn 75 = false by kernel_rfl)
theorem proved : Rows.WholeGoesCardSaid :=
  Claim7.holds_tied_plain_at .later [] _ _ _ _ said (fun _ h => by cases h) (by kernel_rfl) (fun _ h => by cases h) wholeGoes_row_tie rfl ⟨rfl, rfl⟩ (by kernel_rfl) rfl plain (by kernel_rfl)
end Go.Proofs.YtgpmfkedcoiopaaGreatDoor.wholeGoes
