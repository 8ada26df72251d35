/-
  For any two texts and any label: one behind the other, and one with the label joined, are the document's (over what strip says): layer 4.
-/
import Derived.Test.YtliapookpefgiaaM04s
namespace Go.Proofs.Ytliapookpefgiaa
open Go.RowKit

set_option maxHeartbeats 2000000 in
theorem stripCats_walk (SS : StripSays) (w : World) (A : Option Addr) (c : Nat) (S : List UInt8) (l : List RunP) (h : Txt w w.heap.size A S l) (A2 : Option Addr) (d : Nat) (X : List UInt8) (m : List RunP) (hh : Txt w w.heap.size A2 X m) (y : Nat) (hy : y < 18446744073709551616) :
    Calls Try.prog 5 #[.agg #[.string ⟨S.toArray⟩, .slice A l.length c], .agg #[.string ⟨X.toArray⟩, .slice A2 m.length d], .int .u64 y] w fun e w' => e = .returned (.bool true) ∧ Below w.heap.size w w' := by
  have HS := Lib.hid SS
  have HH := Lib.hid h
  have HH2 := Lib.hid hh
  clear SS h hh
  have Q := Lib.hid (two_boxes w 24 24 (.string ⟨S.toArray⟩) (.slice A l.length c) (.string ⟨X.toArray⟩) (.slice A2 m.length d))
  by_cases hfit : S.length ≤ 5000 ∧ l.length ≤ 5000
  · by_cases hfit2 : X.length ≤ 5000 ∧ m.length ≤ 5000
    · obtain ⟨p1, hp1⟩ : ∃ p, catT S l X m = p := ⟨_, rfl⟩
      obtain ⟨p2, hp2⟩ : ∃ p, raiseT S l y = p := ⟨_, rfl⟩
      have HK1 : Hid (OkT p1) := by have := okT_cat (S := S) (X := X) HH.out.hf HH2.out.hf; rw [hp1] at this; exact this
      have HK2 : Hid (OkT p2) := by have := okT_raise (S := S) HH.out.hf hy; rw [hp2] at this; exact this
      have HP1 := Lib.hid hp1
      have HP2 := Lib.hid hp2
      clear hp1 hp2
      obtain ⟨⟨U1, q1⟩, n1⟩ := p1
      obtain ⟨⟨U2, q2⟩, n2⟩ := p2
      go_enter Try.func5, Try.ntmps5
      go_wp2_with (first
        | (go_at_call 12; refine (strAlive_any HS.out _).mono ?_; rintro e w1 ⟨rfl, b1⟩; have z1 : w.heap.size + 2 ≤ w1.heap.size := by {have := b1.size; rw [Q.out.2.1] at this; exact this}; have B1 := Q.out.1.trans (b1.mono (by rw [Q.out.2.1]; omega)); have X1 := Lib.hid (Q.out.2.2.1.below b1 (by rw [Q.out.2.1]; omega)); have Y1 := Lib.hid (Q.out.2.2.2.below b1 (by rw [Q.out.2.1]; omega)); obtain ⟨y0, y1⟩ := txt_cells X1.out; clear b1)
        | (go_at_call_of 13 l; refine (lawFits_any S HH.out.hS l HH.out.hl A c w1).mono ?_; rw [decide_eq_true hfit]; rintro e w2 ⟨rfl, b2⟩; have z2 := b2.size; have B2 := B1.trans (b2.mono (by omega)); have X2 := Lib.hid (X1.out.below b2 (by omega)); have Y2 := Lib.hid (Y1.out.below b2 (by omega)); clear y0 y1 b2; obtain ⟨y4, y5⟩ := txt_cells Y2.out)
        | (go_at_call_of 13 m; refine (lawFits_any X HH2.out.hS m HH2.out.hl A2 d w2).mono ?_; rw [decide_eq_true hfit2]; rintro e w3 ⟨rfl, b3⟩; have z3 := b3.size; have B3' := B2.trans (b3.mono (by omega)); have X3 := Lib.hid (X2.out.below b3 (by omega)); have Y3 := Lib.hid (Y2.out.below b3 (by omega)); clear y4 y5 b3; obtain ⟨y0, y1⟩ := txt_cells X3.out; obtain ⟨y4, y5⟩ := txt_cells Y3.out))
      refine (HS.out.cat A A2 c d w.heap.size w.heap.size S X l m w3 (by omega) (by omega) (HH.out.below B3') (HH2.out.below B3')).mono ?_
      rw [HP1.out]
      rintro e w4 ⟨A4, c4, rfl, r4, b4⟩
      dsimp only at r4 ⊢
      have z4 := b4.size
      have N4 := Lib.hid (new_var w4 (.string ⟨U1.toArray⟩) (.slice A4 q1.length c4))
      have B4 : Hid (Below w.heap.size w (w4.alloc (.cells #[.string ⟨U1.toArray⟩, .slice A4 q1.length c4] 24))) := (B3'.trans (b4.mono (by omega))).alloc (by omega) _
      have X4 := Lib.hid ((X3.out.below b4 (by omega)).alloc (.cells #[.string ⟨U1.toArray⟩, .slice A4 q1.length c4] 24))
      have Y4 := Lib.hid ((Y3.out.below b4 (by omega)).alloc (.cells #[.string ⟨U1.toArray⟩, .slice A4 q1.length c4] 24))
      have T4_4 := Lib.hid ((HK1.out.txt (w := w4) (B := w4.heap.size) (A := A4) r4).below (w' := (w4.alloc (.cells #[.string ⟨U1.toArray⟩, .slice A4 q1.length c4] 24))) ((Below.refl _ _).alloc (Nat.le_refl _) _))
      clear y0 y1 y4 y5 b4 r4
      obtain ⟨y0, y1⟩ := txt_cells X4.out
      obtain ⟨y4, y5⟩ := txt_cells Y4.out
      go_wp2_with fail
      refine (refTCat_any A A2 c d w.heap.size w.heap.size S X l m _ (by rw [N4.out.2]; omega) (by rw [N4.out.2]; omega) (HH.out.below B4.out) (HH2.out.below B4.out)).mono ?_
      rw [HP1.out]
      rintro e w5 ⟨A5, c5, rfl, hown5, b5⟩
      have r5 := Row.of_own hown5
      clear hown5
      dsimp only at r5 ⊢
      have z5 : w4.heap.size + 1 ≤ w5.heap.size := by have := b5.size; rw [N4.out.2] at this; exact this
      have N5 := Lib.hid (new_var w5 (.string ⟨U1.toArray⟩) (.slice A5 q1.length c5))
      have B5 : Hid (Below w.heap.size w (w5.alloc (.cells #[.string ⟨U1.toArray⟩, .slice A5 q1.length c5] 24))) := (B4.out.trans (b5.mono (by rw [N4.out.2]; omega))).alloc (by omega) _
      have X5 := Lib.hid ((X4.out.below b5 (by rw [N4.out.2]; omega)).alloc (.cells #[.string ⟨U1.toArray⟩, .slice A5 q1.length c5] 24))
      have Y5 := Lib.hid ((Y4.out.below b5 (by rw [N4.out.2]; omega)).alloc (.cells #[.string ⟨U1.toArray⟩, .slice A5 q1.length c5] 24))
      have P4_5 := Lib.hid ((N4.out.1.below b5 (by rw [N4.out.2]; omega)).alloc (.cells #[.string ⟨U1.toArray⟩, .slice A5 q1.length c5] 24))
      have T4_5 := Lib.hid ((T4_4.out.below (b5.mono (by rw [N4.out.2]; omega))).below (w' := (w5.alloc (.cells #[.string ⟨U1.toArray⟩, .slice A5 q1.length c5] 24))) ((Below.refl _ _).alloc (by omega) _))
      have T5_5 := Lib.hid ((HK1.out.txt (w := w5) (B := w5.heap.size) (A := A5) r5).below (w' := (w5.alloc (.cells #[.string ⟨U1.toArray⟩, .slice A5 q1.length c5] 24))) ((Below.refl _ _).alloc (Nat.le_refl _) _))
      clear y0 y1 y4 y5 b5 r5
      obtain ⟨y0, y1⟩ := txt_cells X5.out
      obtain ⟨y4, y5⟩ := txt_cells Y5.out
      go_wp2_with fail
      refine (HS.out.raise A c w.heap.size S l y _ (by rw [N5.out.2]; omega) (HH.out.below B5.out) hy).mono ?_
      rw [HP2.out]
      rintro e w6 ⟨A6, c6, rfl, r6, b6⟩
      dsimp only at r6 ⊢
      have z6 : w5.heap.size + 1 ≤ w6.heap.size := by have := b6.size; rw [N5.out.2] at this; exact this
      have N6 := Lib.hid (new_var w6 (.string ⟨U2.toArray⟩) (.slice A6 q2.length c6))
      have B6 : Hid (Below w.heap.size w (w6.alloc (.cells #[.string ⟨U2.toArray⟩, .slice A6 q2.length c6] 24))) := (B5.out.trans (b6.mono (by rw [N5.out.2]; omega))).alloc (by omega) _
      have X6 := Lib.hid ((X5.out.below b6 (by rw [N5.out.2]; omega)).alloc (.cells #[.string ⟨U2.toArray⟩, .slice A6 q2.length c6] 24))
      have Y6 := Lib.hid ((Y5.out.below b6 (by rw [N5.out.2]; omega)).alloc (.cells #[.string ⟨U2.toArray⟩, .slice A6 q2.length c6] 24))
      have P4_6 := Lib.hid ((P4_5.out.below b6 (by rw [N5.out.2]; omega)).alloc (.cells #[.string ⟨U2.toArray⟩, .slice A6 q2.length c6] 24))
      have P5_6 := Lib.hid ((N5.out.1.below b6 (by rw [N5.out.2]; omega)).alloc (.cells #[.string ⟨U2.toArray⟩, .slice A6 q2.length c6] 24))
      have T4_6 := Lib.hid ((T4_5.out.below (b6.mono (by rw [N5.out.2]; omega))).below (w' := (w6.alloc (.cells #[.string ⟨U2.toArray⟩, .slice A6 q2.length c6] 24))) ((Below.refl _ _).alloc (by omega) _))
      have T5_6 := Lib.hid ((T5_5.out.below (b6.mono (by rw [N5.out.2]; omega))).below (w' := (w6.alloc (.cells #[.string ⟨U2.toArray⟩, .slice A6 q2.length c6] 24))) ((Below.refl _ _).alloc (by omega) _))
      have T6_6 := Lib.hid ((HK2.out.txt (w := w6) (B := w6.heap.size) (A := A6) r6).below (w' := (w6.alloc (.cells #[.string ⟨U2.toArray⟩, .slice A6 q2.length c6] 24))) ((Below.refl _ _).alloc (Nat.le_refl _) _))
      clear y0 y1 y4 y5 b6 r6
      obtain ⟨y0, y1⟩ := txt_cells X6.out
      obtain ⟨y4, y5⟩ := txt_cells Y6.out
      go_wp2_with fail
      refine (refTRaise_any A c w.heap.size S l y hy _ (by rw [N6.out.2]; omega) (HH.out.below B6.out)).mono ?_
      rw [HP2.out]
      rintro e w7 ⟨A7, c7, rfl, hown7, b7⟩
      have r7 := Row.of_own hown7
      clear hown7
      dsimp only at r7 ⊢
      have z7 : w6.heap.size + 1 ≤ w7.heap.size := by have := b7.size; rw [N6.out.2] at this; exact this
      have N7 := Lib.hid (new_var w7 (.string ⟨U2.toArray⟩) (.slice A7 q2.length c7))
      have B7 : Hid (Below w.heap.size w (w7.alloc (.cells #[.string ⟨U2.toArray⟩, .slice A7 q2.length c7] 24))) := (B6.out.trans (b7.mono (by rw [N6.out.2]; omega))).alloc (by omega) _
      have X7 := Lib.hid ((X6.out.below b7 (by rw [N6.out.2]; omega)).alloc (.cells #[.string ⟨U2.toArray⟩, .slice A7 q2.length c7] 24))
      have Y7 := Lib.hid ((Y6.out.below b7 (by rw [N6.out.2]; omega)).alloc (.cells #[.string ⟨U2.toArray⟩, .slice A7 q2.length c7] 24))
      have P4_7 := Lib.hid ((P4_6.out.below b7 (by rw [N6.out.2]; omega)).alloc (.cells #[.string ⟨U2.toArray⟩, .slice A7 q2.length c7] 24))
      have P5_7 := Lib.hid ((P5_6.out.below b7 (by rw [N6.out.2]; omega)).alloc (.cells #[.string ⟨U2.toArray⟩, .slice A7 q2.length c7] 24))
      have P6_7 := Lib.hid ((N6.out.1.below b7 (by rw [N6.out.2]; omega)).alloc (.cells #[.string ⟨U2.toArray⟩, .slice A7 q2.length c7] 24))
      have T4_7 := Lib.hid ((T4_6.out.below (b7.mono (by rw [N6.out.2]; omega))).below (w' := (w7.alloc (.cells #[.string ⟨U2.toArray⟩, .slice A7 q2.length c7] 24))) ((Below.refl _ _).alloc (by omega) _))
      have T5_7 := Lib.hid ((T5_6.out.below (b7.mono (by rw [N6.out.2]; omega))).below (w' := (w7.alloc (.cells #[.string ⟨U2.toArray⟩, .slice A7 q2.length c7] 24))) ((Below.refl _ _).alloc (by omega) _))
      have T6_7 := Lib.hid ((T6_6.out.below (b7.mono (by rw [N6.out.2]; omega))).below (w' := (w7.alloc (.cells #[.string ⟨U2.toArray⟩, .slice A7 q2.length c7] 24))) ((Below.refl _ _).alloc (by omega) _))
      have T7_7 := Lib.hid ((HK2.out.txt (w := w7) (B := w7.heap.size) (A := A7) r7).below (w' := (w7.alloc (.cells #[.string ⟨U2.toArray⟩, .slice A7 q2.length c7] 24))) ((Below.refl _ _).alloc (Nat.le_refl _) _))
      clear y0 y1 y4 y5 b7 r7
      obtain ⟨y0, y1⟩ := txt_cells P4_7.out
      obtain ⟨y4, y5⟩ := txt_cells P5_7.out
      go_wp2_with (first
        | (go_at_call_of 16 A4; refine (refTSame_any A4 A5 c4 c5 w4.heap.size w5.heap.size U1 U1 q1 q1 _ (by rw [N7.out.2]; omega) (by rw [N7.out.2]; omega) T4_7.out T5_7.out).mono ?_; rw [decide_eq_true ⟨rfl, rfl⟩]; rintro e w8 ⟨rfl, b8⟩; have z8 : w7.heap.size + 1 ≤ w8.heap.size := by {have := b8.size; rw [N7.out.2] at this; exact this}; have B8 := B7.out.trans (b8.mono (by rw [N7.out.2]; omega)); have T6_8 := Lib.hid (T6_7.out.below (b8.mono (by rw [N7.out.2]; omega))); have T7_8 := Lib.hid (T7_7.out.below (b8.mono (by rw [N7.out.2]; omega))); have P6_8 := Lib.hid (P6_7.out.below b8 (by rw [N7.out.2]; omega)); have P7_8 := Lib.hid (N7.out.1.below b8 (by rw [N7.out.2]; omega)); clear y0 y1 y4 y5 b8; obtain ⟨y0, y1⟩ := txt_cells P6_8.out; obtain ⟨y4, y5⟩ := txt_cells P7_8.out)
        | (go_at_call_of 16 A6; refine (refTSame_any A6 A7 c6 c7 w6.heap.size w7.heap.size U2 U2 q2 q2 w8 (by omega) (by omega) T6_8.out T7_8.out).mono ?_; rw [decide_eq_true ⟨rfl, rfl⟩]; rintro e w9 ⟨rfl, b9⟩))
      go_ret
      exact ⟨rfl, B8.trans (b9.mono (by omega))⟩
    · go_enter Try.func5, Try.ntmps5
      go_wp2_with (first
        | (go_at_call 12; refine (strAlive_any HS.out _).mono ?_; rintro e w1 ⟨rfl, b1⟩; have z1 : w.heap.size + 2 ≤ w1.heap.size := by {have := b1.size; rw [Q.out.2.1] at this; exact this}; have B1 := Q.out.1.trans (b1.mono (by rw [Q.out.2.1]; omega)); have X1 := Lib.hid (Q.out.2.2.1.below b1 (by rw [Q.out.2.1]; omega)); have Y1 := Lib.hid (Q.out.2.2.2.below b1 (by rw [Q.out.2.1]; omega)); obtain ⟨y0, y1⟩ := txt_cells X1.out; clear b1)
        | (go_at_call_of 13 l; refine (lawFits_any S HH.out.hS l HH.out.hl A c w1).mono ?_; rw [decide_eq_true hfit]; rintro e w2 ⟨rfl, b2⟩; have z2 := b2.size; have B2 := B1.trans (b2.mono (by omega)); have X2 := Lib.hid (X1.out.below b2 (by omega)); have Y2 := Lib.hid (Y1.out.below b2 (by omega)); clear y0 y1 b2; obtain ⟨y4, y5⟩ := txt_cells Y2.out)
        | (go_at_call_of 13 m; refine (lawFits_any X HH2.out.hS m HH2.out.hl A2 d w2).mono ?_; rw [decide_eq_false hfit2]; rintro e w3 ⟨rfl, b3⟩; have z3 := b3.size; have B3' := B2.trans (b3.mono (by omega)); have X3 := Lib.hid (X2.out.below b3 (by omega)); have Y3 := Lib.hid (Y2.out.below b3 (by omega)); clear y4 y5 b3; obtain ⟨y0, y1⟩ := txt_cells X3.out; obtain ⟨y4, y5⟩ := txt_cells Y3.out))
      go_ret
      exact ⟨rfl, B3'⟩
  · go_enter Try.func5, Try.ntmps5
    go_wp2_with (first
      | (go_at_call 12; refine (strAlive_any HS.out _).mono ?_; rintro e w1 ⟨rfl, b1⟩; have z1 : w.heap.size + 2 ≤ w1.heap.size := by {have := b1.size; rw [Q.out.2.1] at this; exact this}; have B1 := Q.out.1.trans (b1.mono (by rw [Q.out.2.1]; omega)); have X1 := Lib.hid (Q.out.2.2.1.below b1 (by rw [Q.out.2.1]; omega)); have Y1 := Lib.hid (Q.out.2.2.2.below b1 (by rw [Q.out.2.1]; omega)); obtain ⟨y0, y1⟩ := txt_cells X1.out; clear b1)
      | (go_at_call_of 13 l; refine (lawFits_any S HH.out.hS l HH.out.hl A c w1).mono ?_; rw [decide_eq_false hfit]; rintro e w2 ⟨rfl, b2⟩; have z2 := b2.size; have B2 := B1.trans (b2.mono (by omega)); have X2 := Lib.hid (X1.out.below b2 (by omega)); have Y2 := Lib.hid (Y1.out.below b2 (by omega)); clear y0 y1 b2; obtain ⟨y4, y5⟩ := txt_cells Y2.out))
    go_ret
    exact ⟨rfl, B2⟩
end Go.Proofs.Ytliapookpefgiaa
