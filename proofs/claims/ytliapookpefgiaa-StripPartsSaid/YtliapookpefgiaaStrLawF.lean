/-
  For any text and any place: what is cut there and put together again is the text itself (over what strip says): layer 4.
-/
import Derived.Test.YtliapookpefgiaaM04s
namespace Go.Proofs.Ytliapookpefgiaa
open Go.RowKit

set_option maxHeartbeats 2000000 in
theorem stripParts_walk (SS : StripSays) (w : World) (A : Option Addr) (c : Nat) (S : List UInt8) (l : List RunP) (h : Txt w w.heap.size A S l) (p : Int) (hp : -9223372036854775808 ≤ p ∧ p ≤ 9223372036854775807) :
    Calls Try.prog 10 #[.agg #[.string ⟨S.toArray⟩, .slice A l.length c], .int .i64 p] w fun e w' => e = .returned (.bool true) ∧ Below w.heap.size w w' := by
  have HS := Lib.hid SS
  have HH := Lib.hid h
  have hS0 := h.hS
  unfold maxLen at hS0
  clear SS h
  have Q0 := Lib.hid (new_var w (.string ⟨S.toArray⟩) (.slice A l.length c))
  have B0 : Hid (Below w.heap.size w (w.alloc (.cells #[.string ⟨S.toArray⟩, .slice A l.length c] 24))) := (Below.refl _ w).alloc (Nat.le_refl _) _
  by_cases hfit : S.length ≤ 5000 ∧ l.length ≤ 5000
  · by_cases hk : goodT S l = true ∧ 0 ≤ p ∧ p ≤ (S.length : Int)
    · obtain ⟨U, V, P, Q, e1, e2, e3, e4⟩ := partsT_ok hk.1 hk.2.1 hk.2.2
      have HK1 : Hid (OkT ((U, P), 0)) := by have := okT_cut (S := S) HH.out.hf 0 p; rw [e1] at this; exact this
      have HK2 : Hid (OkT ((V, Q), 0)) := by have := okT_cut (S := S) HH.out.hf p (S.length : Nat); rw [e2] at this; exact this
      have HE := Lib.hid (And.intro e1 (And.intro e2 e3))
      have HP := Lib.hid e4
      clear e1 e2 e3 e4 hk
      go_enter Try.func10, Try.ntmps10
      go_wp2_with (first
        | (go_at_call 12; refine (strAlive_any HS.out _).mono ?_; rintro e w1 ⟨rfl, b1⟩; have z1 : w.heap.size + 1 ≤ w1.heap.size := by {have := b1.size; rw [Q0.out.2] at this; exact this}; have B1 := B0.out.trans (b1.mono (by rw [Q0.out.2]; omega)); have X1 := Lib.hid (Q0.out.1.below b1 (by rw [Q0.out.2]; omega)); obtain ⟨y0, y1⟩ := txt_cells X1.out; clear b1)
        | (go_at_call 13; refine (lawFits_any S HH.out.hS l HH.out.hl A c w1).mono ?_; rw [decide_eq_true hfit]; rintro e w2 ⟨rfl, b2⟩; have z2 := b2.size; have B2 := B1.trans (b2.mono (by omega)); have X2 := Lib.hid (X1.out.below b2 (by omega)); clear y0 y1 b2; obtain ⟨y0, y1⟩ := txt_cells X2.out))
      refine (HS.out.cut A c w.heap.size S l 0 p w2 (by omega) (HH.out.below B2) (by omega) (by omega)).mono ?_
      rw [HE.out.1]
      rintro e w3 ⟨A3, c3, rfl, r3, b3⟩
      dsimp only at r3 ⊢
      have z3 := b3.size
      have N3 := Lib.hid (new_var w3 (.string ⟨U.toArray⟩) (.slice A3 P.length c3))
      have B3 : Hid (Below w.heap.size w (w3.alloc (.cells #[.string ⟨U.toArray⟩, .slice A3 P.length c3] 24))) := (B2.trans (b3.mono (by omega))).alloc (by omega) _
      have X3 := Lib.hid ((X2.out.below b3 (by omega)).alloc (.cells #[.string ⟨U.toArray⟩, .slice A3 P.length c3] 24))
      have T3_3 := Lib.hid ((HK1.out.txt (w := w3) (B := w3.heap.size) (A := A3) r3).below (w' := (w3.alloc (.cells #[.string ⟨U.toArray⟩, .slice A3 P.length c3] 24))) ((Below.refl _ _).alloc (Nat.le_refl _) _))
      clear y0 y1 b3 r3
      obtain ⟨y0, y1⟩ := txt_cells X3.out
      go_wp2_with fail
      refine (HS.out.cut A c w.heap.size S l p (S.length : Nat) _ (by rw [N3.out.2]; omega) (HH.out.below B3.out) (by omega) (by omega)).mono ?_
      rw [HE.out.2.1]
      rintro e w4 ⟨A4, c4, rfl, r4, b4⟩
      dsimp only at r4 ⊢
      have z4 : w3.heap.size + 1 ≤ w4.heap.size := by have := b4.size; rw [N3.out.2] at this; exact this
      have N4 := Lib.hid (new_var w4 (.string ⟨V.toArray⟩) (.slice A4 Q.length c4))
      have B4 : Hid (Below w.heap.size w (w4.alloc (.cells #[.string ⟨V.toArray⟩, .slice A4 Q.length c4] 24))) := (B3.out.trans (b4.mono (by rw [N3.out.2]; omega))).alloc (by omega) _
      have X4 := Lib.hid ((X3.out.below b4 (by rw [N3.out.2]; omega)).alloc (.cells #[.string ⟨V.toArray⟩, .slice A4 Q.length c4] 24))
      have P3_4 := Lib.hid ((N3.out.1.below b4 (by rw [N3.out.2]; omega)).alloc (.cells #[.string ⟨V.toArray⟩, .slice A4 Q.length c4] 24))
      have T3_4 := Lib.hid ((T3_3.out.below (b4.mono (by rw [N3.out.2]; omega))).below (w' := (w4.alloc (.cells #[.string ⟨V.toArray⟩, .slice A4 Q.length c4] 24))) ((Below.refl _ _).alloc (by omega) _))
      have T4_4 := Lib.hid ((HK2.out.txt (w := w4) (B := w4.heap.size) (A := A4) r4).below (w' := (w4.alloc (.cells #[.string ⟨V.toArray⟩, .slice A4 Q.length c4] 24))) ((Below.refl _ _).alloc (Nat.le_refl _) _))
      clear y0 y1 b4 r4
      obtain ⟨y0, y1⟩ := txt_cells P3_4.out
      obtain ⟨y2, y3⟩ := txt_cells N4.out.1
      go_wp2_with fail
      refine (HS.out.cat A3 A4 c3 c4 w3.heap.size w4.heap.size U V P Q _ (by rw [N4.out.2]; omega) (by rw [N4.out.2]; omega) T3_4.out T4_4.out).mono ?_
      rw [HE.out.2.2]
      rintro e w5 ⟨A5, c5, rfl, r5, b5⟩
      dsimp only at r5 ⊢
      have z5 : w4.heap.size + 1 ≤ w5.heap.size := by have := b5.size; rw [N4.out.2] at this; exact this
      have N5 := Lib.hid (new_var w5 (.string ⟨S.toArray⟩) (.slice A5 l.length c5))
      have B5 : Hid (Below w.heap.size w (w5.alloc (.cells #[.string ⟨S.toArray⟩, .slice A5 l.length c5] 24))) := (B4.out.trans (b5.mono (by rw [N4.out.2]; omega))).alloc (by omega) _
      have X5 := Lib.hid ((X4.out.below b5 (by rw [N4.out.2]; omega)).alloc (.cells #[.string ⟨S.toArray⟩, .slice A5 l.length c5] 24))
      have P3_5 := Lib.hid ((P3_4.out.below b5 (by rw [N4.out.2]; omega)).alloc (.cells #[.string ⟨S.toArray⟩, .slice A5 l.length c5] 24))
      have T5_5 := Lib.hid ((Txt.mk HH.out.hS HH.out.hf HH.out.hl r5 : Txt w5 w5.heap.size A5 S l).below (w' := (w5.alloc (.cells #[.string ⟨S.toArray⟩, .slice A5 l.length c5] 24))) ((Below.refl _ _).alloc (Nat.le_refl _) _))
      clear y0 y1 y2 y3 b5 r5
      obtain ⟨y0, y1⟩ := txt_cells X5.out
      obtain ⟨y2, y3⟩ := txt_cells P3_5.out
      obtain ⟨y4, y5⟩ := txt_cells N5.out.1
      have hup : (U.length : Int) = p := HP.out
      go_wp2_with (go_at_call 16; refine (refTSame_any A5 A c5 c w5.heap.size w.heap.size S S l l _ (by rw [N5.out.2]; omega) (by rw [N5.out.2]; omega) T5_5.out (HH.out.below B5.out)).mono ?_; rw [decide_eq_true ⟨rfl, rfl⟩]; rintro e w6 ⟨rfl, b6⟩; have X6 := P3_5.out.below b6 (by rw [N5.out.2]; omega); clear y0 y1 y2 y3 y4 y5; obtain ⟨y2, y3⟩ := txt_cells X6)
      go_ret
      exact ⟨rfl, B5.out.trans (b6.mono (by rw [N5.out.2]; omega))⟩
    · obtain ⟨V, Q, n, hq⟩ : ∃ V Q n, cutOf S l p (S.length : Nat) = ((V, Q), n) := ⟨_, _, _, rfl⟩
      have HQ := Lib.hid hq
      have HC : Hid (cutOf S l 0 p = (([], []), 2)) := Lib.hid (by
        unfold cutOf
        rw [if_neg]
        intro h
        have := (withinT_iff _ _ _ _).1 h
        exact hk ⟨this.1, this.2.2.1, this.2.2.2⟩)
      have HK := Lib.hid hk
      clear hq hk
      go_enter Try.func10, Try.ntmps10
      go_wp2_with (first
        | (go_at_call 12; refine (strAlive_any HS.out _).mono ?_; rintro e w1 ⟨rfl, b1⟩; have z1 : w.heap.size + 1 ≤ w1.heap.size := by {have := b1.size; rw [Q0.out.2] at this; exact this}; have B1 := B0.out.trans (b1.mono (by rw [Q0.out.2]; omega)); have X1 := Lib.hid (Q0.out.1.below b1 (by rw [Q0.out.2]; omega)); obtain ⟨y0, y1⟩ := txt_cells X1.out; clear b1)
        | (go_at_call 13; refine (lawFits_any S HH.out.hS l HH.out.hl A c w1).mono ?_; rw [decide_eq_true hfit]; rintro e w2 ⟨rfl, b2⟩; have z2 := b2.size; have B2 := B1.trans (b2.mono (by omega)); have X2 := Lib.hid (X1.out.below b2 (by omega)); clear y0 y1 b2; obtain ⟨y0, y1⟩ := txt_cells X2.out))
      refine (HS.out.cut A c w.heap.size S l 0 p w2 (by omega) (HH.out.below B2) (by omega) (by omega)).mono ?_
      rw [HC.out]
      rintro e w3 ⟨A3, c3, rfl, r3, b3⟩
      dsimp only at r3 ⊢
      have z3 := b3.size
      have N3 := Lib.hid (new_var w3 (.string ⟨#[]⟩) (.slice A3 0 c3))
      have B3 : Hid (Below w.heap.size w (w3.alloc (.cells #[.string ⟨#[]⟩, .slice A3 0 c3] 24))) := (B2.trans (b3.mono (by omega))).alloc (by omega) _
      have X3 := Lib.hid ((X2.out.below b3 (by omega)).alloc (.cells #[.string ⟨#[]⟩, .slice A3 0 c3] 24))
      clear y0 y1 b3 r3
      obtain ⟨y0, y1⟩ := txt_cells X3.out
      go_wp2_with fail
      refine (HS.out.cut A c w.heap.size S l p (S.length : Nat) _ (by rw [N3.out.2]; omega) (HH.out.below B3.out) (by omega) (by omega)).mono ?_
      rw [HQ.out]
      rintro e w4 ⟨A4, c4, rfl, r4, b4⟩
      dsimp only at r4 ⊢
      have z4 : w3.heap.size + 1 ≤ w4.heap.size := by have := b4.size; rw [N3.out.2] at this; exact this
      have N4 := Lib.hid (new_var w4 (.string ⟨V.toArray⟩) (.slice A4 Q.length c4))
      have B4 : Hid (Below w.heap.size w (w4.alloc (.cells #[.string ⟨V.toArray⟩, .slice A4 Q.length c4] 24))) := (B3.out.trans (b4.mono (by rw [N3.out.2]; omega))).alloc (by omega) _
      have X4 := Lib.hid ((X3.out.below b4 (by rw [N3.out.2]; omega)).alloc (.cells #[.string ⟨V.toArray⟩, .slice A4 Q.length c4] 24))
      clear y0 y1 b4 r4
      obtain ⟨y0, y1⟩ := txt_cells X4.out
      by_cases hg : goodT S l = true
      · by_cases h0 : p < 0
        · go_wp2_with (go_at_call 17; refine (HS.out.good A c w.heap.size S l _ (by rw [N4.out.2]; omega) (HH.out.below B4.out)).mono ?_; rw [hg]; rintro e w5 ⟨rfl, b5⟩; have X5 := X4.out.below b5 (by rw [N4.out.2]; omega); clear y0 y1; obtain ⟨y0, y1⟩ := txt_cells X5)
          go_ret
          exact ⟨rfl, B4.out.trans (b5.mono (by rw [N4.out.2]; omega))⟩
        · have h1 : p > (S.length : Int) := by
            rcases Int.lt_or_le (S.length : Int) p with h | h
            · exact h
            · exact absurd ⟨hg, by omega, h⟩ HK.out
          go_wp2_with (go_at_call 17; refine (HS.out.good A c w.heap.size S l _ (by rw [N4.out.2]; omega) (HH.out.below B4.out)).mono ?_; rw [hg]; rintro e w5 ⟨rfl, b5⟩; have X5 := X4.out.below b5 (by rw [N4.out.2]; omega); clear y0 y1; obtain ⟨y0, y1⟩ := txt_cells X5)
          go_ret
          exact ⟨by simp, B4.out.trans (b5.mono (by rw [N4.out.2]; omega))⟩
      · have hg' : goodT S l = false := by simpa using hg
        clear hg
        go_wp2_with (go_at_call 17; refine (HS.out.good A c w.heap.size S l _ (by rw [N4.out.2]; omega) (HH.out.below B4.out)).mono ?_; rw [hg']; rintro e w5 ⟨rfl, b5⟩; have X5 := X4.out.below b5 (by rw [N4.out.2]; omega); clear y0 y1; obtain ⟨y0, y1⟩ := txt_cells X5)
        go_ret
        exact ⟨rfl, B4.out.trans (b5.mono (by rw [N4.out.2]; omega))⟩
  · go_enter Try.func10, Try.ntmps10
    go_wp2_with (first
      | (go_at_call 12; refine (strAlive_any HS.out _).mono ?_; rintro e w1 ⟨rfl, b1⟩; have z1 : w.heap.size + 1 ≤ w1.heap.size := by {have := b1.size; rw [Q0.out.2] at this; exact this}; have B1 := B0.out.trans (b1.mono (by rw [Q0.out.2]; omega)); have X1 := Lib.hid (Q0.out.1.below b1 (by rw [Q0.out.2]; omega)); obtain ⟨y0, y1⟩ := txt_cells X1.out; clear b1)
      | (go_at_call 13; refine (lawFits_any S HH.out.hS l HH.out.hl A c w1).mono ?_; rw [decide_eq_false hfit]; rintro e w2 ⟨rfl, b2⟩; have z2 := b2.size; have B2 := B1.trans (b2.mono (by omega)); have X2 := Lib.hid (X1.out.below b2 (by omega)); clear y0 y1 b2; obtain ⟨y0, y1⟩ := txt_cells X2.out))
    go_ret
    exact ⟨rfl, B2⟩
end Go.Proofs.Ytliapookpefgiaa
