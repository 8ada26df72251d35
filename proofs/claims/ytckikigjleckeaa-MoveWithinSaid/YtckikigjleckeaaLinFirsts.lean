/-
  Contracts of the landed package line: First; all of them, as the bundle.
-/
import Derived.Test.YtckikigjleckeaaLinCols
import Derived.Test.YtckikigjleckeaaLinWhole
import Derived.Test.YtckikigjleckeaaLinGly
namespace Go.Proofs.Ytckikigjleckeaa
open Go.RowKit

attribute [local irreducible] boundsL countL wholeL begL endL
set_option maxHeartbeats 1000000 in
theorem linFirst_any (S : List UInt8) (hs : S.length ≤ 1000000) (n : Int) (w : World) :
    Calls Try.prog 42 #[.string ⟨S.toArray⟩, .int .i64 n] w fun e w' => e = .returned (.int .i64 (firstL S n : Nat)) ∧ Below w.heap.size w w' := by
  have hb := brought_lt S n
  obtain ⟨q, hq⟩ : ∃ q, broughtL S n = q := ⟨_, rfl⟩
  have HQ := Lib.hid hq
  rw [hq] at hb
  have hcl := countL_le S
  have HB := Lib.hid hb
  have HI := Lib.hid (fun k (hk : k < (signsL S q).length) i hi => sign_of hb hk (i := i) hi)
  have HF := Lib.hid (width_fullC hb)
  have HWD : Hid (∀ x ∈ signsL S q, 1 ≤ x.2) := (chars_wide : ∀ x ∈ chars (lineL S q), 1 ≤ x.2)
  have HRU : Hid (∀ x ∈ signsL S q, x.1 ≤ 1114111) := fun x hx => (chars_bound (lineL S q) x hx).1
  have HFL : Hid (∀ j, firstJ (signsL S q) = j → firstL S n = begL S q + width ((signsL S q).take j)) := fun j hj => firstL_of hq hj
  have hel := end_le hb
  have hBl : (signsL S q).length ≤ S.length := by
    have h1 := chars_len (lineL S q)
    have h2 : (lineL S q).length ≤ S.length := by unfold lineL; rw [List.length_take, List.length_drop]; omega
    unfold signsL; omega
  clear hq hb
  generalize signsL S q = B at *
  generalize hFq : begL S q = F at *
  generalize hTq : endL S q = T at *
  have HFQ := Lib.hid hFq
  have HTQ := Lib.hid hTq
  clear hFq hTq
  go_enter Try.func42, Try.ntmps42
  go_upto_region 4 with (first
    | (go_at_call 67; refine (linClamp_any S hs n _).mono ?_; rintro e w1 ⟨rfl, b1⟩; rw [HQ.out])
    | (go_at_call 60; refine (linBegEnd_any S hs q HB.out _).mono ?_; rintro e w2 ⟨rfl, b2⟩; rw [HFQ.out, HTQ.out]))
  have B2 := Lib.hid (b1.trans (b2.mono b1.size))
  clear b1 b2
  go_wp2_with fail
  go_loopw [7, 8] (fun l v wr => ∃ k : Nat, k ≤ B.length ∧ l = .int .i64 (F + width (B.take (k - 1)) : Nat) ∧ v = .int .i64 (F + width (B.take k) : Nat) ∧ (∀ i (hi : i < B.length), i < k → classL (B[i]).1 = 0) ∧ Below w2.heap.size w2 wr) (fun _ v _ => T - (intOf v).toNat)
  case atStart => exact ⟨0, Nat.zero_le _, by rw [List.take_zero]; rfl, by rw [List.take_zero]; rfl, fun i _ h => absurd h (by omega), Below.refl _ _⟩
  case round =>
    obtain ⟨k, hkB, rfl, rfl, hcl0, hb⟩ := hrel
    have HCL := Lib.hid hcl0
    clear hcl0
    have hz := hb.size
    by_cases hB0 : k < B.length
    · have HX := Lib.hid (HI.out k hB0)
      have hr : (B[k]).1 ≤ 1114111 := HRU.out _ (List.getElem_mem hB0)
      have hlw := width_ltC HWD.out hB0
      have hff := HF.out
      have hws := width_succ B k hB0
      have hw1 := HWD.out _ (List.getElem_mem hB0)
      have hlt : ((F + width (B.take k) : Nat) : Int) < (T : Int) := by omega
      obtain ⟨x, hx⟩ : ∃ x, F + width (B.take k) = x := ⟨_, rfl⟩
      obtain ⟨y, hy⟩ : ∃ y, F + width (B.take (k + 1)) = y := ⟨_, rfl⟩
      obtain ⟨l, hl⟩ : ∃ l, F + width (B.take (k - 1)) = l := ⟨_, rfl⟩
      have hxy : x < y := by omega
      have HXX := Lib.hid hx
      have HYY := Lib.hid hy
      generalize hrr : (B[k]).1 = r at *
      have HRR := Lib.hid hrr
      have HA : Hid (∀ i, Which (chars S) (x : Int) i → ((chars S).getD i (0, 0)).1 = r) := by
        intro i hi
        have := (HX.out i (by rw [hx]; exact hi)).1
        rw [this]; exact hrr
      have HN : Hid (∀ i, Which (chars S) (x : Int) i → width ((chars S).take (i + 1)) = y) := by
        intro i hi
        have := (HX.out i (by rw [hx]; exact hi)).2.2
        rw [this]; exact hy
      rw [hx] at hlt
      rw [hx, hl]
      have hyT : y ≤ T := by have := width_le_take B (k + 1); omega
      clear hx hy hl hrr hlw hff hws hw1 HX
      by_cases hcy : classL r = 0
      · have hcy' : (((classL r : Nat) : Int) != 0) = false := by rw [hcy]; rfl
        have HCC := Lib.hid hcy
        clear hcy
        go_wp2_with (first
          | (go_at_call 35; refine (glyAt_any S (x : Int) _ hs).mono ?_; rintro e w3 ⟨i, rfl, hi, b3⟩; rw [HA.out i hi]; clear hi)
          | (go_at_call 36; refine (glyClass_any r hr _).mono ?_; rintro e w4 ⟨rfl, rfl⟩)
          | (go_at_call 68; refine (glyNext_any S (x : Int) _ hs).mono ?_; rintro e w5 ⟨i, rfl, hi, b5⟩; rw [HN.out i hi]; clear hi))
        go_roundw
        case rel => exact ⟨k + 1, hB0, by rw [Nat.add_sub_cancel, HXX.out], by rw [HYY.out], fun i hi hik => by
          rcases Nat.lt_or_ge i k with h | h
          · exact HCL.out i hi h
          · obtain rfl : i = k := by omega
            rw [HRR.out]; exact HCC.out, (hb.trans (b3.mono hz)).trans (b5.mono (by have := b3.size; omega))⟩
        case measure => simp [intOf]; omega
      · have hcy' : (((classL r : Nat) : Int) != 0) = true := by simpa using hcy
        have HR : Hid (firstL S n = x) := by
          show firstL S n = x
          rw [← HXX.out]
          exact HFL.out k (firstJ_hit hB0 (by rw [HRR.out]; exact hcy) fun i hi => HCL.out i (by omega) hi)
        clear hcy
        go_wp2_with (first
          | (go_at_call 35; refine (glyAt_any S (x : Int) _ hs).mono ?_; rintro e w3 ⟨i, rfl, hi, b3⟩; rw [HA.out i hi]; clear hi)
          | (go_at_call 36; refine (glyClass_any r hr _).mono ?_; rintro e w4 ⟨rfl, rfl⟩))
        go_ret
        exact ⟨by rw [HR.out]; rfl, B2.out.trans ((hb.trans (b3.mono hz)).mono (by have := B2.out.size; omega))⟩
    · obtain rfl : k = B.length := by omega
      have HR : Hid (firstL S n = F + width (B.take (B.length - 1))) := HFL.out _ (firstJ_none fun i hi => HCL.out i hi hi)
      have hT : F + width (B.take B.length) = T := by rw [List.take_length]; exact HF.out
      rw [hT]
      generalize F + width (B.take (B.length - 1)) = l at *
      clear hT
      go_wp2_with fail
      go_ret
      exact ⟨by rw [HR.out]; rfl, B2.out.trans (hb.mono (by have := B2.out.size; omega))⟩

end Go.Proofs.Ytckikigjleckeaa
