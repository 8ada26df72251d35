/-
  For any two lists: one behind the other is the document's, or refused.
  No condition.
-/
import Derived.Test.YthdflibljngjiaaRunAlive
import Derived.Test.YthdflibljngjiaaRunOpen
namespace Go.Proofs.Ythdflibljngjiaa.runsCats
open Go.ChangeShapes Go.WideShapes Go.ChangeAt Go.RowKit

set_option maxHeartbeats 1000000 in
theorem walk (w : World) (A : Option Addr) (c : Nat) (l : List RunP) (hlen : l.length ≤ maxLen) (hf : Fits l) (h : Row w w.heap.size A (flatR l)) (A2 : Option Addr) (d : Nat) (m : List RunP) (hlen2 : m.length ≤ maxLen) (hf2 : Fits m) (hh : Row w w.heap.size A2 (flatR m)) :
    Calls Try.prog 6 #[.slice A l.length c, .slice A2 m.length d] w fun e w' => e = .returned (.bool true) ∧ Below w.heap.size w w' := by
  have HF := Lib.hid hf
  clear hf
  have HF2 := Lib.hid hf2
  clear hf2
  by_cases hmostl : 5000 < l.length
  · go_enter Try.func6, Try.ntmps6
    go_wp2_with (go_at_call 11; refine (runsAlive_any _).mono ?_; rintro e w1 ⟨rfl, hb1⟩)
    go_ret
    exact ⟨rfl, hb1⟩
  · skip
    by_cases hmostm : 5000 < m.length
    · go_enter Try.func6, Try.ntmps6
      go_wp2_with (go_at_call 11; refine (runsAlive_any _).mono ?_; rintro e w1 ⟨rfl, hb1⟩)
      go_ret
      exact ⟨rfl, hb1⟩
    · skip
      have HL := Lib.hid (catOf_len l m)
      obtain ⟨p, hp⟩ : ∃ p, catOf l m = p := ⟨_, rfl⟩
      rw [hp] at HL
      have HP := Lib.hid hp
      clear hp
      go_enter Try.func6, Try.ntmps6
      go_wp2_with fail
      refine (runsAlive_any _).mono ?_
      rintro e w1 ⟨rfl, hb1⟩
      have z1 := hb1.size
      have b1 := hb1
      clear hb1
      go_wp2_with fail
      refine (runCat_any A A2 c d w.heap.size w.heap.size l m HF.out HF2.out hlen hlen2 w1 z1 z1 (h.below b1) (hh.below b1)).mono ?_
      rw [HP.out]
      rintro e w2 ⟨A2x, c2x, rfl, hown2, hb2⟩
      have z2 := hb2.size
      have b2 := b1.trans (hb2.mono (by omega))
      have r2 := Row.of_own hown2
      clear hown2 hb2
      go_wp2_with fail
      refine (refCat_any A A2 c d w.heap.size w.heap.size l m HF.out HF2.out hlen hlen2 w2 (by omega) (by omega) (h.below b2) (hh.below b2)).mono ?_
      rw [HP.out]
      rintro e w3 ⟨A3x, c3x, rfl, hown3, hb3⟩
      have z3 := hb3.size
      have b3 := b2.trans (hb3.mono (by omega))
      have r3 := Row.of_own hown3
      have r23 := r2.below hb3
      clear hown3 hb3 r2
      go_wp2_with (go_at_call 14; refine (refSame_any A2x A3x c2x c3x w2.heap.size w3.heap.size p.1 p.1 HL.out HL.out w3 z3 (Nat.le_refl _) r23 r3).mono ?_; rintro e w4 ⟨rfl, hb4⟩; rw [decide_eq_true rfl])
      go_ret
      exact ⟨rfl, b3.trans (hb4.mono (by omega))⟩


theorem own : ownKnob Try.prog.godebug = none := by kernel_rfl
theorem laidOut : laidOutB Try.prog = true := by kernel_rfl
theorem readable0 : Try.prog.readableRec 22 = true ∧ 22 < Try.prog.types.size := ⟨by kernel_rfl, of_decide_eq_true (by kernel_rfl)⟩
theorem readable : ∀ t ∈ Try.f6.params.toList, Try.prog.readableRec t = true ∧ t < Try.prog.types.size := by
  rw [Try.params6]
  intro t ht
  obtain rfl : t = 22 := by simpa using ht
  exact readable0

theorem contract (H : Type) (enc : TypeId × Value → H) (W : World) (base : Nat) (args : Array Value) (ds gs : List (DataW H)) (before : List MemPlace)
    (hval : ∀ (j : Nat) t v, Try.f6.params[j]? = some t → args[j]? = some v → Value.okWide Try.prog W .any base t v)
    (hW : DataW.Whole enc Try.prog Try.f6.params.toList Rows.runsCatsSpec.vars false W args.toList ds gs before) :
    Calls Try.prog 6 args W fun e W' => ∃ v, e = .returned v ∧ Rows.runsCatsSpec.post enc Try.prog Try.f6 false true false false W args v W' := by
  have hW' := hW
  have hlt := hW.lt
  obtain ⟨p, q, hA0, hV, rfl, hfz, hnd⟩ := hW
  have hA : DataW.TrodAll enc Try.prog W 0 (fun _ => true) true Try.f6.params.toList args.toList ds p := hA0
  rw [Try.params6] at hA hval
  obtain ⟨v0, vs0, d0, ds0, p0, q0, hargs0, rfl, rfl, h0, r0⟩ := trodAll_cons hA
  obtain ⟨v1, vs1, d1, ds1, p1, q1, hargs1, rfl, rfl, h1, r1⟩ := trodAll_cons r0
  subst hargs1
  obtain ⟨rfl, rfl, rfl⟩ := trodAll_nil r1
  obtain rfl : args = #[v0, v1] := by cases args; simp_all
  obtain ⟨rfl, rfl⟩ := trodVars_none hV
  obtain ⟨A0, c0, x0, rfl, l0, b0, y0⟩ := open_runs (hval 0 22 v0 rfl rfl) h0
  obtain ⟨A1, c1, x1, rfl, l1, b1, y1⟩ := open_runs (hval 1 22 v1 rfl rfl) h1
  clear hA0 hA hval r0 r1
  refine (walk W A0 c0 x0 l0 b0 y0 A1 c1 x1 l1 b1 y1).mono fun e W' ⟨he, hbl⟩ => ?_
  subst he
  exact ⟨_, rfl, law_post laidOut rfl readable (fun _ _ _ => trodAll_mk1 (shut_bool Try.underlying4 _)) rfl rfl hW' hbl⟩

set_option maxRecDepth 100000 in
theorem lifted (os : Os) (started : os.Started) (H : Type) (enc : TypeId × Value → H) :
    ReturnsInHanded {} Try.checked os 6 .any (Rows.runsCatsSpec.pre6 enc Try.prog Try.f6 Rows.runsCatsRow.domain false) (Rows.runsCatsSpec.post enc Try.prog Try.f6 false true false false) := by
  refine returnsInHanded_of_change (C := Try.checked) own started (by kernel_rfl) Try.func6
    (ChangeSpec.witness6 (enc := enc) (C := Try.checked) false ⟨#[], #[.slice none 0 0, .slice none 0 0], []⟩ 8 (by kernel_rfl) (by kernel_rfl) (by kernel_rfl) (by kernel_rfl)) ?_
  intro W base args ds gs before hval hW _ _
  exact contract H enc W base args ds gs before hval hW

theorem proved : Rows.RunsCatsSaid :=
  OpenClaim.holds_of_wide 6 Try.f6 rfl rfl rfl rfl rfl rfl rfl ⟨rfl, rfl, rfl, rfl, rfl⟩ rfl rfl rfl rfl rfl (by kernel_rfl) Try.func6 (by kernel_rfl)
    (of_decide_eq_true (by kernel_rfl)) (by unfold Func.isWrapper; first | (rw [if_pos (by decide +kernel)]; kernel_rfl) | (rw [if_neg (by decide +kernel)]; exact ⟨rfl, rfl⟩))
    (fun os started H enc _ => lifted os started H enc)
end Go.Proofs.Ythdflibljngjiaa.runsCats
