/-
  For any list: the good list of the same labels, whether it is good, and how many bytes it has, are the document's.
  No condition.
-/
import Derived.Test.YthdflibljngjiaaRunAlive
import Derived.Test.YthdflibljngjiaaRunOpen
namespace Go.Proofs.Ythdflibljngjiaa.runsNormals
open Go.ChangeShapes Go.WideShapes Go.ChangeAt Go.RowKit

set_option maxHeartbeats 1000000 in
theorem walk (w : World) (A : Option Addr) (c : Nat) (l : List RunP) (hlen : l.length ≤ maxLen) (hf : Fits l) (h : Row w w.heap.size A (flatR l)) :
    Calls Try.prog 3 #[.slice A l.length c] w fun e w' => e = .returned (.bool true) ∧ Below w.heap.size w w' := by
  have HF := Lib.hid hf
  clear hf
  by_cases hmost : 5000 < l.length
  · go_enter Try.func3, Try.ntmps3
    go_wp2_with (go_at_call 11; refine (runsAlive_any _).mono ?_; rintro e w1 ⟨rfl, hb1⟩)
    go_ret
    exact ⟨rfl, hb1⟩
  · have HL := Lib.hid (normalOf_len l)
    go_enter Try.func3, Try.ntmps3
    go_wp2_with fail
    refine (runsAlive_any _).mono ?_
    rintro e w1 ⟨rfl, hb1⟩
    have z1 := hb1.size
    go_wp2_with fail
    refine (runNormal_any A c w.heap.size l HF.out hlen w1 z1 (h.below hb1)).mono ?_
    generalize hp : normalOf l = p at *
    have HP := Lib.hid hp
    clear hp
    rintro e w2 ⟨A2, c2, rfl, hown2, hb2⟩
    have z2 := hb2.size
    have b2 := hb1.trans (hb2.mono z1)
    have r2 := Row.of_own hown2
    go_wp2_with fail
    refine (refNormal_any A c w.heap.size l HF.out hlen w2 (by omega) (h.below b2)).mono ?_
    rw [HP.out]
    rintro e w3 ⟨A3, c3, rfl, hown3, hb3⟩
    have z3 := hb3.size
    have b3 := b2.trans (hb3.mono (by omega))
    have r3 := Row.of_own hown3
    have r23 := r2.below hb3
    clear hown2 hown3 hb1 hb2 hb3 r2
    go_wp2_with (first
      | (go_at_call 14; refine (refSame_any A2 A3 c2 c3 w2.heap.size w3.heap.size p.1 p.1 HL.out HL.out w3 z3 (Nat.le_refl _) r23 r3).mono ?_; rintro e w4 ⟨rfl, hb4⟩; rw [decide_eq_true rfl]; have z4 := hb4.size; have b4 := b3.trans (hb4.mono (by omega)); clear hb4)
      | (go_at_call 15; refine (runGood_any A c w.heap.size l HF.out hlen w4 (by omega) (h.below b4)).mono ?_; rintro e w5 ⟨rfl, hb5⟩; have z5 := hb5.size; have b5 := b4.trans (hb5.mono (by omega)); clear hb5)
      | (go_at_call 16; refine (refGood_any A c w.heap.size l HF.out hlen w5 (by omega) (h.below b5)).mono ?_; rintro e w6 ⟨rfl, hb6⟩; have z6 := hb6.size; have b6 := b5.trans (hb6.mono (by omega)); clear hb6)
      | (go_at_call 17; refine (runTotal_any A c w.heap.size l HF.out hlen w6 (by omega) (h.below b6)).mono ?_; rintro e w7 ⟨rfl, hb7⟩; have z7 := hb7.size; have b7 := b6.trans (hb7.mono (by omega)); clear hb7)
      | (go_at_call 18; refine (refTotal_any A c w.heap.size l HF.out hlen w7 (by omega) (h.below b7)).mono ?_; rintro e w8 ⟨rfl, hb8⟩; have b8 := b7.trans (hb8.mono (by omega)); clear hb8))
    go_ret
    exact ⟨rfl, b8⟩


theorem own : ownKnob Try.prog.godebug = none := by kernel_rfl
theorem laidOut : laidOutB Try.prog = true := by kernel_rfl
theorem readable0 : Try.prog.readableRec 22 = true ∧ 22 < Try.prog.types.size := ⟨by kernel_rfl, of_decide_eq_true (by kernel_rfl)⟩
theorem readable : ∀ t ∈ Try.f3.params.toList, Try.prog.readableRec t = true ∧ t < Try.prog.types.size := by
  rw [Try.params3]
  intro t ht
  obtain rfl : t = 22 := by simpa using ht
  exact readable0

theorem contract (H : Type) (enc : TypeId × Value → H) (W : World) (base : Nat) (args : Array Value) (ds gs : List (DataW H)) (before : List MemPlace)
    (hval : ∀ (j : Nat) t v, Try.f3.params[j]? = some t → args[j]? = some v → Value.okWide Try.prog W .any base t v)
    (hW : DataW.Whole enc Try.prog Try.f3.params.toList Rows.runsNormalsSpec.vars false W args.toList ds gs before) :
    Calls Try.prog 3 args W fun e W' => ∃ v, e = .returned v ∧ Rows.runsNormalsSpec.post enc Try.prog Try.f3 false true false false W args v W' := by
  have hW' := hW
  have hlt := hW.lt
  obtain ⟨p, q, hA0, hV, rfl, hfz, hnd⟩ := hW
  have hA : DataW.TrodAll enc Try.prog W 0 (fun _ => true) true Try.f3.params.toList args.toList ds p := hA0
  rw [Try.params3] at hA hval
  obtain ⟨v0, vs0, d0, ds0, p0, q0, hargs0, rfl, rfl, h0, r0⟩ := trodAll_cons hA
  obtain ⟨rfl, rfl, rfl⟩ := trodAll_nil r0
  obtain rfl : args = #[v0] := by cases args; simp_all
  obtain ⟨rfl, rfl⟩ := trodVars_none hV
  obtain ⟨A0, c0, x0, rfl, l0, b0, y0⟩ := open_runs (hval 0 22 v0 rfl rfl) h0
  clear hA0 hA hval r0
  refine (walk W A0 c0 x0 l0 b0 y0).mono fun e W' ⟨he, hbl⟩ => ?_
  subst he
  exact ⟨_, rfl, law_post laidOut rfl readable (fun _ _ _ => trodAll_mk1 (shut_bool Try.underlying4 _)) rfl rfl hW' hbl⟩

set_option maxRecDepth 100000 in
theorem lifted (os : Os) (started : os.Started) (H : Type) (enc : TypeId × Value → H) :
    ReturnsInHanded {} Try.checked os 3 .any (Rows.runsNormalsSpec.pre6 enc Try.prog Try.f3 Rows.runsNormalsRow.domain false) (Rows.runsNormalsSpec.post enc Try.prog Try.f3 false true false false) := by
  refine returnsInHanded_of_change (C := Try.checked) own started (by kernel_rfl) Try.func3
    (ChangeSpec.witness6 (enc := enc) (C := Try.checked) false ⟨#[], #[.slice none 0 0], []⟩ 8 (by kernel_rfl) (by kernel_rfl) (by kernel_rfl) (by kernel_rfl)) ?_
  intro W base args ds gs before hval hW _ _
  exact contract H enc W base args ds gs before hval hW

theorem proved : Rows.RunsNormalsSaid :=
  OpenClaim.holds_of_wide 3 Try.f3 rfl rfl rfl rfl rfl rfl rfl ⟨rfl, rfl, rfl, rfl, rfl⟩ rfl rfl rfl rfl rfl (by kernel_rfl) Try.func3 (by kernel_rfl)
    (of_decide_eq_true (by kernel_rfl)) (by unfold Func.isWrapper; first | (rw [if_pos (by decide +kernel)]; kernel_rfl) | (rw [if_neg (by decide +kernel)]; exact ⟨rfl, rfl⟩))
    (fun os started H enc _ => lifted os started H enc)
end Go.Proofs.Ythdflibljngjiaa.runsNormals
