/-
  For any list and any place: what is cut there and put together again is the list itself.
  No condition.
-/
import Derived.Test.YthdflibljngjiaaRunAlive
import Derived.Test.YthdflibljngjiaaRunOpen
import Derived.Test.YthdflibljngjiaaRunTwice
namespace Go.Proofs.Ythdflibljngjiaa.runsParts
open Go.ChangeShapes Go.WideShapes Go.ChangeAt Go.RowKit

set_option maxHeartbeats 1000000 in
theorem walk (w : World) (A : Option Addr) (c : Nat) (l : List RunP) (hlen : l.length ≤ maxLen) (hf : Fits l) (h : Row w w.heap.size A (flatR l)) (p : Int) (_hp : -9223372036854775808 ≤ p ∧ p ≤ 9223372036854775807) :
    Calls Try.prog 9 #[.slice A l.length c, .int .i64 p] w fun e w' => e = .returned (.bool true) ∧ Below w.heap.size w w' := by
  have HF := Lib.hid hf
  clear hf
  by_cases hmost : 5000 < l.length
  · go_enter Try.func9, Try.ntmps9
    go_wp2_with (go_at_call 11; refine (runsAlive_any _).mono ?_; rintro e w1 ⟨rfl, hb1⟩)
    go_ret
    exact ⟨rfl, hb1⟩
  · by_cases hk : goodB l = true ∧ 0 ≤ p ∧ p ≤ (totalOf l : Int)
    · obtain ⟨P, Q, e1, e2, e3, e4, fp, fq, lp, lq⟩ := parts_ok HF.out hk.1 hk.2.1 hk.2.2
      have HE := Lib.hid (And.intro e1 (And.intro e2 (And.intro e3 (And.intro fp fq))))
      have HP := Lib.hid e4
      clear e1 e2 e3 e4 fp fq hk
      go_enter Try.func9, Try.ntmps9
      go_wp2_with fail
      refine (runsAlive_any _).mono ?_
      rintro e w1 ⟨rfl, b1⟩
      have z1 := b1.size
      go_wp2_with fail
      refine (runSlice_any A c w.heap.size l 0 p HF.out hlen w1 z1 (h.below b1)).mono ?_
      rw [HE.out.1]
      rintro e w2 ⟨A2, c2, rfl, hown2, hb2⟩
      have z2 := hb2.size
      have b2 := b1.trans (hb2.mono z1)
      have r2 := Row.of_own hown2
      dsimp only at r2 ⊢
      clear hown2 hb2
      go_wp2_with fail
      refine (runTotal_any A c w.heap.size l HF.out hlen w2 (by omega) (h.below b2)).mono ?_
      rintro e w3 ⟨rfl, hb3⟩
      have z3 := hb3.size
      have b3 := b2.trans (hb3.mono (by omega))
      have r3 := r2.below hb3
      clear hb3 r2
      go_wp2_with fail
      refine (runSlice_any A c w.heap.size l p (totalOf l : Nat) HF.out hlen w3 (by omega) (h.below b3)).mono ?_
      rw [HE.out.2.1]
      rintro e w4 ⟨A4, c4, rfl, hown4, hb4⟩
      have z4 := hb4.size
      have b4 := b3.trans (hb4.mono (by omega))
      have r4 := Row.of_own hown4
      have s4 := r3.below (hb4.mono (by omega))
      dsimp only at r4 ⊢
      clear hown4 hb4 r3
      go_wp2_with fail
      refine (runCat_any A2 A4 c2 c4 w2.heap.size w4.heap.size P Q HE.out.2.2.2.1 HE.out.2.2.2.2 lp lq w4 (by omega) (Nat.le_refl _) s4 r4).mono ?_
      rw [HE.out.2.2.1]
      rintro e w5 ⟨A5, c5, rfl, hown5, hb5⟩
      have z5 := hb5.size
      have b5 := b4.trans (hb5.mono (by omega))
      have r5 := Row.of_own hown5
      have s5 := s4.below (hb5.mono (by omega))
      dsimp only at r5 ⊢
      clear hown5 hb5 s4 r4
      go_wp2_with (first
        | (go_at_call 14; refine (refSame_any A5 A c5 c w5.heap.size w.heap.size l l hlen hlen w5 (Nat.le_refl _) (by omega) r5 (h.below b5)).mono ?_; rintro e w6 ⟨rfl, hb6⟩; rw [decide_eq_true rfl]; have z6 := hb6.size; have b6 := b5.trans (hb6.mono (by omega)); have s6 := s5.below (hb6.mono (by omega)); clear hb6)
        | (go_at_call 17; refine (runTotal_any A2 c2 w2.heap.size P HE.out.2.2.2.1 lp w6 (by omega) s6).mono ?_; rintro e w7 ⟨rfl, hb7⟩; have b7 := b6.trans (hb7.mono (by omega)); rw [HP.out]; clear hb7))
      go_ret
      exact ⟨rfl, b7⟩
    · have n1 : ¬ withinB l 0 p = true := fun h => hk ⟨((within_iff _ _ _).1 h).1, ((within_iff _ _ _).1 h).2.1 |> fun _ => ((within_iff _ _ _).1 h).2.2.1, ((within_iff _ _ _).1 h).2.2.2⟩
      have HS : Hid (sliceOf l 0 p = ([], 2)) := if_neg n1
      obtain ⟨q, hq⟩ : ∃ q, sliceOf l p (totalOf l : Nat) = q := ⟨_, rfl⟩
      have HQ := Lib.hid hq
      clear hq n1
      have HK := Lib.hid hk
      clear hk
      go_enter Try.func9, Try.ntmps9
      go_wp2_with fail
      refine (runsAlive_any _).mono ?_
      rintro e w1 ⟨rfl, b1⟩
      have z1 := b1.size
      go_wp2_with fail
      refine (runSlice_any A c w.heap.size l 0 p HF.out hlen w1 z1 (h.below b1)).mono ?_
      rw [HS.out]
      rintro e w2 ⟨A2, c2, rfl, hown2, hb2⟩
      have z2 := hb2.size
      have b2 := b1.trans (hb2.mono z1)
      dsimp only
      clear hown2 hb2
      go_wp2_with fail
      refine (runTotal_any A c w.heap.size l HF.out hlen w2 (by omega) (h.below b2)).mono ?_
      rintro e w3 ⟨rfl, hb3⟩
      have z3 := hb3.size
      have b3 := b2.trans (hb3.mono (by omega))
      clear hb3
      go_wp2_with fail
      refine (runSlice_any A c w.heap.size l p (totalOf l : Nat) HF.out hlen w3 (by omega) (h.below b3)).mono ?_
      rw [HQ.out]
      rintro e w4 ⟨A4, c4, rfl, hown4, hb4⟩
      have z4 := hb4.size
      have b4 := b3.trans (hb4.mono (by omega))
      clear hown4 hb4
      by_cases hg : goodB l = true
      · by_cases h0 : p < 0
        · go_wp2_with (go_at_call 15; refine (runGood_any A c w.heap.size l HF.out hlen w4 (by omega) (h.below b4)).mono ?_; rintro e w5 ⟨rfl, hb5⟩; rw [hg])
          go_ret
          exact ⟨rfl, b4.trans (hb5.mono (by omega))⟩
        · have h1 : p > (totalOf l : Int) := by
            have := HK.out
            rw [hg] at this
            simp at this
            omega
          go_wp2_with (first
            | (go_at_call 15; refine (runGood_any A c w.heap.size l HF.out hlen w4 (by omega) (h.below b4)).mono ?_; rintro e w5 ⟨rfl, hb5⟩; rw [hg]; have z5 := hb5.size; have b5 := b4.trans (hb5.mono (by omega)); clear hb5)
            | (go_at_call 17; refine (runTotal_any A c w.heap.size l HF.out hlen w5 (by omega) (h.below b5)).mono ?_; rintro e w6 ⟨rfl, hb6⟩))
          go_ret
          exact ⟨by simp, b5.trans (hb6.mono (by omega))⟩
      · have hg' : goodB l = false := by simpa using hg
        clear hg
        go_wp2_with (go_at_call 15; refine (runGood_any A c w.heap.size l HF.out hlen w4 (by omega) (h.below b4)).mono ?_; rintro e w5 ⟨rfl, hb5⟩; rw [hg'])
        go_ret
        exact ⟨rfl, b4.trans (hb5.mono (by omega))⟩


theorem own : ownKnob Try.prog.godebug = none := by kernel_rfl
theorem laidOut : laidOutB Try.prog = true := by kernel_rfl
theorem readable0 : Try.prog.readableRec 22 = true ∧ 22 < Try.prog.types.size := ⟨by kernel_rfl, of_decide_eq_true (by kernel_rfl)⟩
theorem readable1 : Try.prog.readableRec 3 = true ∧ 3 < Try.prog.types.size := ⟨by kernel_rfl, of_decide_eq_true (by kernel_rfl)⟩
theorem readable : ∀ t ∈ Try.f9.params.toList, Try.prog.readableRec t = true ∧ t < Try.prog.types.size := by
  rw [Try.params9]
  intro t ht
  have ht' : t = 22 ∨ t = 3 := by simpa using ht
  rcases ht' with rfl | rfl
  · exact readable0
  · exact readable1

theorem contract (H : Type) (enc : TypeId × Value → H) (W : World) (base : Nat) (args : Array Value) (ds gs : List (DataW H)) (before : List MemPlace)
    (hval : ∀ (j : Nat) t v, Try.f9.params[j]? = some t → args[j]? = some v → Value.okWide Try.prog W .any base t v)
    (hW : DataW.Whole enc Try.prog Try.f9.params.toList Rows.runsPartsSpec.vars false W args.toList ds gs before) :
    Calls Try.prog 9 args W fun e W' => ∃ v, e = .returned v ∧ Rows.runsPartsSpec.post enc Try.prog Try.f9 false true false false W args v W' := by
  have hW' := hW
  have hlt := hW.lt
  obtain ⟨p, q, hA0, hV, rfl, hfz, hnd⟩ := hW
  have hA : DataW.TrodAll enc Try.prog W 0 (fun _ => true) true Try.f9.params.toList args.toList ds p := hA0
  rw [Try.params9] at hA hval
  obtain ⟨v0, vs0, d0, ds0, p0, q0, hargs0, rfl, rfl, h0, r0⟩ := trodAll_cons hA
  obtain ⟨v1, vs1, d1, ds1, p1, q1, hargs1, rfl, rfl, h1, r1⟩ := trodAll_cons r0
  subst hargs1
  obtain ⟨rfl, rfl, rfl⟩ := trodAll_nil r1
  obtain rfl : args = #[v0, v1] := by cases args; simp_all
  obtain ⟨rfl, rfl⟩ := trodVars_none hV
  obtain ⟨A0, c0, x0, rfl, l0, b0, y0⟩ := open_runs (hval 0 22 v0 rfl rfl) h0
  obtain ⟨x1, rfl, rfl, rfl, w1⟩ := open_int Try.underlying3 (hval 1 3 v1 rfl rfl) h1
  have b1 := bound_i64 w1
  clear hA0 hA hval r0 r1
  refine (walk W A0 c0 x0 l0 b0 y0 x1 b1).mono fun e W' ⟨he, hbl⟩ => ?_
  subst he
  exact ⟨_, rfl, law_post laidOut rfl readable (fun _ _ _ => trodAll_mk1 (shut_bool Try.underlying4 _)) rfl rfl hW' hbl⟩

set_option maxRecDepth 100000 in
theorem lifted (os : Os) (started : os.Started) (H : Type) (enc : TypeId × Value → H) :
    ReturnsInHanded {} Try.checked os 9 .any (Rows.runsPartsSpec.pre6 enc Try.prog Try.f9 Rows.runsPartsRow.domain false) (Rows.runsPartsSpec.post enc Try.prog Try.f9 false true false false) := by
  refine returnsInHanded_of_change (C := Try.checked) own started (by kernel_rfl) Try.func9
    (ChangeSpec.witness6 (enc := enc) (C := Try.checked) false ⟨#[], #[.slice none 0 0, .int .i64 0], []⟩ 8 (by kernel_rfl) (by kernel_rfl) (by kernel_rfl) (by kernel_rfl)) ?_
  intro W base args ds gs before hval hW _ _
  exact contract H enc W base args ds gs before hval hW

theorem proved : Rows.RunsPartsSaid :=
  OpenClaim.holds_of_wide 9 Try.f9 rfl rfl rfl rfl rfl rfl rfl ⟨rfl, rfl, rfl, rfl, rfl⟩ rfl rfl rfl rfl rfl (by kernel_rfl) Try.func9 (by kernel_rfl)
    (of_decide_eq_true (by kernel_rfl)) (by unfold Func.isWrapper; first | (rw [if_pos (by decide +kernel)]; kernel_rfl) | (rw [if_neg (by decide +kernel)]; exact ⟨rfl, rfl⟩))
    (fun os started H enc _ => lifted os started H enc)
end Go.Proofs.Ythdflibljngjiaa.runsParts
