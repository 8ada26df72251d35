/-
  The walk of a statement of layer 6, from what package line's functions answer: LineBack.
-/
import Derived.Test.YtlipkfaofmailaaLinSays
namespace Go.Proofs.Ytlipkfaofmailaa
open Go.RowKit

attribute [local irreducible] boundsL countL wholeL ofL colAt placeL firstL

set_option maxHeartbeats 1000000 in
theorem lineBack_walk (L : LineSays) (w : World) (S : List UInt8) (p : Int) :
    Calls Try.prog 7 #[.string ⟨S.toArray⟩, .int .i64 p] w fun e w' => e = .returned (.bool true) ∧ Below w.heap.size w w' := by
  have HL := Lib.hid L
  clear L
  by_cases hmost : 2048 < S.length
  · go_enter Try.func7, Try.ntmps7
    go_wp2_with (go_at_call 9; refine (lineAlive_any HL.out _).mono ?_; rintro e w1 ⟨rfl, b1⟩)
    go_ret
    exact ⟨rfl, b1⟩
  · have hs : S.length ≤ 1000000 := by omega
    go_enter Try.func7, Try.ntmps7
    go_upto_region 6 with (first
      | (go_at_call 9; refine (lineAlive_any HL.out _).mono ?_; rintro e w1 ⟨rfl, b1⟩)
      | (go_at_call 24; refine (refAlign_any S hs p _).mono ?_; rintro e w2 ⟨i, rfl, hi, b2⟩))
    have hil := hi.le
    have hle := (read_take hil).le
    have BX := Lib.hid (b1.trans (b2.mono b1.size))
    have HBK := Lib.hid (fun h1 h2 => back_eq hil h1 h2)
    have hwi : ∀ j : Nat, Which (chars S) ((width ((chars S).take i) : Nat) : Int) j → width ((chars S).take j) = width ((chars S).take i) := by
      intro j hj
      rw [hj.unique (which_self hil)]
    have HWI := Lib.hid hwi
    clear b1 b2 hi hil hwi
    generalize width ((chars S).take i) = a at *
    by_cases hlt : a < S.length
    · have hna : ¬ a = S.length := by omega
      have hnI : ¬ (a : Int) = (S.length : Int) := by omega
      have hltI : (a : Int) < (S.length : Int) := by omega
      have hg := byte_at S a hlt
      by_cases hb10 : S[a] = 10
      · have hnl := nl_yes hb10
        clear hb10 HBK
        generalize S[a] = b at *
        go_wp2_with fail
        go_ret
        exact ⟨rfl, BX.out⟩
      · have hnl := nl_no hb10
        obtain ⟨h1, h2, h3, h4⟩ := HBK.out hlt (by rw [List.getElem?_eq_getElem hlt]; simpa using hb10)
        have ho : ofL S (a : Int) = (endsTo S a).length := by
          unfold ofL; rw [Int.toNat_natCast, Nat.min_eq_right hle]
        have HBD := Lib.hid (boundsL_nat h1)
        rw [ho] at h4
        have HO := Lib.hid ho
        have HP := Lib.hid h4
        have hI2 : (begL S (endsTo S a).length : Int) ≤ (a : Int) := by omega
        have hI3 : (a : Int) < (endL S (endsTo S a).length : Int) := by omega
        clear hb10 HBK ho h4 h1
        generalize S[a] = b at *
        generalize (endsTo S a).length = n at *
        generalize begL S n = F at *
        generalize endL S n = T at *
        go_wp2_with (first
          | (go_at_call 12; refine (HL.out.of S (a : Int) _ hs).mono ?_; rintro e w4 ⟨rfl, b4⟩; rw [HO.out]; have BX := Lib.hid (BX.out.trans (b4.mono BX.out.size)); clear b4)
          | (go_at_call 14; refine (HL.out.bounds S (n : Int) _ hs).mono ?_; rintro e w5 ⟨rfl, b5⟩; rw [HBD.out]; have BX := Lib.hid (BX.out.trans (b5.mono BX.out.size)); clear b5)
          | (go_at_call 16; refine (HL.out.col S (a : Int) _ hs).mono ?_; rintro e w6 ⟨j, rfl, hj, b6⟩; rw [HWI.out j hj]; clear hj; have BX := Lib.hid (BX.out.trans (b6.mono BX.out.size)); clear b6)
          | (go_at_call 18; refine (HL.out.place S (n : Int) _ _ hs).mono ?_; rintro e w7 ⟨rfl, b7⟩; rw [HP.out]; have BX := Lib.hid (BX.out.trans (b7.mono BX.out.size)); clear b7))
        go_ret
        exact ⟨rfl, BX.out⟩
    · obtain rfl : a = S.length := by omega
      clear HBK
      go_wp2_with fail
      go_ret
      exact ⟨rfl, BX.out⟩
end Go.Proofs.Ytlipkfaofmailaa
