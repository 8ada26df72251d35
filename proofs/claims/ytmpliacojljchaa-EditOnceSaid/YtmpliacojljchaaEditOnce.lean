/-
  For any text and any two edits: behind both as one the text is what it is behind both.
  No condition.
-/
import Derived.Test.YtmpliacojljchaaEdiLawD
import Derived.Test.YtmpliacojljchaaEdiOpen
import Derived.Test.YtmpliacojljchaaM04
import Derived.Test.YtmpliacojljchaaM03
namespace Go.Proofs.Ytmpliacojljchaa.editOnce
open Go.ChangeShapes Go.WideShapes Go.ChangeAt Go.RowKit

theorem walk (w : World) (A : Option Addr) (c : Nat) (S : List UInt8) (l : List RunP) (h : Txt w w.heap.size A S l) (a : Int) (U : List UInt8) (A2 : Option Addr) (q : List RunP) (d : Nat) (X : List UInt8) (A3 : Option Addr) (m : List RunP) (d3 : Nat) (hU : Txt w w.heap.size A2 U q) (hX : Txt w w.heap.size A3 X m)
    (b : Int) (T : List UInt8) (A4 : Option Addr) (k : List RunP) (d4 : Nat) (Y : List UInt8) (A5 : Option Addr) (j : List RunP) (d5 : Nat) (hT : Txt w w.heap.size A4 T k) (hY : Txt w w.heap.size A5 Y j) :
    Calls Try.prog 6 #[.agg #[.string ⟨S.toArray⟩, .slice A l.length c], .agg #[.int .i64 a, .string ⟨U.toArray⟩, .slice A2 q.length d, .string ⟨X.toArray⟩, .slice A3 m.length d3], .agg #[.int .i64 b, .string ⟨T.toArray⟩, .slice A4 k.length d4, .string ⟨Y.toArray⟩, .slice A5 j.length d5]] w fun e w' => e = .returned (.bool true) ∧ Below w.heap.size w w' :=
  editOnce_walk w A c S l h a U A2 q d X A3 m d3 hU hX b T A4 k d4 Y A5 j d5 hT hY


theorem own : ownKnob Try.prog.godebug = none := by kernel_rfl
theorem laidOut : laidOutB Try.prog = true := by kernel_rfl
theorem readable0 : Try.prog.readableRec 24 = true ∧ 24 < Try.prog.types.size := ⟨by kernel_rfl, of_decide_eq_true (by kernel_rfl)⟩
theorem readable1 : Try.prog.readableRec 29 = true ∧ 29 < Try.prog.types.size := ⟨by kernel_rfl, of_decide_eq_true (by kernel_rfl)⟩
theorem readable : ∀ t ∈ Try.f6.params.toList, Try.prog.readableRec t = true ∧ t < Try.prog.types.size := by
  rw [Try.params6]
  intro t ht
  have ht' : t = 24 ∨ t = 29 ∨ t = 29 := by simpa using ht
  rcases ht' with rfl | rfl | rfl
  · exact readable0
  · exact readable1
  · exact readable1

theorem contract (H : Type) (enc : TypeId × Value → H) (W : World) (base : Nat) (args : Array Value) (ds gs : List (DataW H)) (before : List MemPlace)
    (hval : ∀ (j : Nat) t v, Try.f6.params[j]? = some t → args[j]? = some v → Value.okWide Try.prog W .any base t v)
    (hW : DataW.Whole enc Try.prog Try.f6.params.toList Rows.editOnceSpec.vars false W args.toList ds gs before) :
    Calls Try.prog 6 args W fun e W' => ∃ v, e = .returned v ∧ Rows.editOnceSpec.post enc Try.prog Try.f6 false true false false W args v W' := by
  have hW' := hW
  have hlt := hW.lt
  obtain ⟨p, q, hA0, hV, rfl, hfz, hnd⟩ := hW
  have hA : DataW.TrodAll enc Try.prog W 0 (fun _ => true) true Try.f6.params.toList args.toList ds p := hA0
  rw [Try.params6] at hA hval
  obtain ⟨v0, vs0, d0, ds0, p0, q0, hargs0, rfl, rfl, h0, r0⟩ := trodAll_cons hA
  obtain ⟨v1, vs1, d1, ds1, p1, q1, hargs1, rfl, rfl, h1, r1⟩ := trodAll_cons r0
  subst hargs1
  obtain ⟨v2, vs2, d2, ds2, p2, q2, hargs2, rfl, rfl, h2, r2⟩ := trodAll_cons r1
  subst hargs2
  obtain ⟨rfl, rfl, rfl⟩ := trodAll_nil r2
  obtain rfl : args = #[v0, v1, v2] := by cases args; simp_all
  obtain ⟨rfl, rfl⟩ := trodVars_none hV
  obtain ⟨A0, c0, x0, r0l, rfl, b0⟩ := open_textv (hval 0 24 v0 rfl rfl) h0
  obtain ⟨e1a, e1S, e1A, e1l, e1c, e1X, e1B, e1m, e1d, rfl, b1, y1⟩ := open_edit (hval 1 29 v1 rfl rfl) h1
  obtain ⟨e2a, e2S, e2A, e2l, e2c, e2X, e2B, e2m, e2d, rfl, b2, y2⟩ := open_edit (hval 2 29 v2 rfl rfl) h2
  clear hA0 hA hval r0 r1 r2
  refine (walk W A0 c0 x0 r0l b0 e1a e1S e1A e1l e1c e1X e1B e1m e1d b1 y1 e2a e2S e2A e2l e2c e2X e2B e2m e2d b2 y2).mono fun e W' ⟨he, hbl⟩ => ?_
  subst he
  exact ⟨_, rfl, law_post laidOut rfl readable (fun _ _ _ => trodAll_mk1 (shut_bool Try.underlying4 _)) rfl rfl hW' hbl⟩

set_option maxRecDepth 100000 in
theorem lifted (os : Os) (started : os.Started) (H : Type) (enc : TypeId × Value → H) :
    ReturnsInHanded {} Try.checked os 6 .any (Rows.editOnceSpec.pre6 enc Try.prog Try.f6 Rows.editOnceRow.domain false) (Rows.editOnceSpec.post enc Try.prog Try.f6 false true false false) := by
  refine returnsInHanded_of_change (C := Try.checked) own started (by kernel_rfl) Try.func6
    (ChangeSpec.witness6 (enc := enc) (C := Try.checked) false ⟨#[], #[.agg #[.string .empty, .slice none 0 0], .agg #[.int .i64 0, .string .empty, .slice none 0 0, .string .empty, .slice none 0 0], .agg #[.int .i64 0, .string .empty, .slice none 0 0, .string .empty, .slice none 0 0]], []⟩ 8 (by kernel_rfl) (by kernel_rfl) (by kernel_rfl) (by kernel_rfl)) ?_
  intro W base args ds gs before hval hW _ _
  exact contract H enc W base args ds gs before hval hW

theorem proved : Rows.EditOnceSaid :=
  OpenClaim.holds_of_wide 6 Try.f6 rfl rfl rfl rfl rfl rfl rfl ⟨rfl, rfl, rfl, rfl, rfl⟩ rfl rfl rfl rfl rfl (by kernel_rfl) Try.func6 (by kernel_rfl)
    (of_decide_eq_true (by kernel_rfl)) (by unfold Func.isWrapper; first | (rw [if_pos (by decide +kernel)]; kernel_rfl) | (rw [if_neg (by decide +kernel)]; exact ⟨rfl, rfl⟩))
    (fun os started H enc _ => lifted os started H enc)
end Go.Proofs.Ytmpliacojljchaa.editOnce
