/-
  For any two texts and any two places: one in place of some bytes of the other is the document's (over what strip says): layer 4.
-/
import Derived.Test.YtliapookpefgiaaM04s
namespace Go.Proofs.Ytliapookpefgiaa
open Go.RowKit

theorem boxes3 (w : World) (T0 T1 T2 : TypeId) (a b c d e f : Value) :
    Below w.heap.size w (((w.alloc (.cells #[a, b] T0)).alloc (.cells #[c, d] T1)).alloc (.cells #[e, f] T2)) ∧ (((w.alloc (.cells #[a, b] T0)).alloc (.cells #[c, d] T1)).alloc (.cells #[e, f] T2)).heap.size = w.heap.size + 3 ∧
    Blk (((w.alloc (.cells #[a, b] T0)).alloc (.cells #[c, d] T1)).alloc (.cells #[e, f] T2)) w.heap.size T0 #[a, b] ∧ Blk (((w.alloc (.cells #[a, b] T0)).alloc (.cells #[c, d] T1)).alloc (.cells #[e, f] T2)) (w.heap.size + 1) T1 #[c, d] ∧
    Blk (((w.alloc (.cells #[a, b] T0)).alloc (.cells #[c, d] T1)).alloc (.cells #[e, f] T2)) (w.heap.size + 1 + 1) T2 #[e, f] := by
  obtain ⟨h1, h2, h3, h4⟩ := two_boxes w T0 T1 a b c d
  have e : ((w.alloc (.cells #[a, b] T0)).alloc (.cells #[c, d] T1)).heap.size = w.heap.size + 1 + 1 := by rw [h2]
  refine ⟨h1.alloc (by omega) _, by simp, h3.alloc _, h4.alloc _, ?_⟩
  rw [← e]; exact Blk.new _ _ _

set_option maxHeartbeats 1600000 in
theorem stripSplices_walk (SS : StripSays) (w : World) (A : Option Addr) (c : Nat) (S : List UInt8) (l : List RunP) (h : Txt w w.heap.size A S l) (f t : Int) (hf : -9223372036854775808 ≤ f ∧ f ≤ 9223372036854775807) (ht : -9223372036854775808 ≤ t ∧ t ≤ 9223372036854775807)
    (A2 : Option Addr) (d : Nat) (X : List UInt8) (m : List RunP) (hh : Txt w w.heap.size A2 X m) :
    Calls Try.prog 6 #[.agg #[.string ⟨S.toArray⟩, .slice A l.length c], .agg #[.int .i64 f, .int .i64 t], .agg #[.string ⟨X.toArray⟩, .slice A2 m.length d]] w fun e w' => e = .returned (.bool true) ∧ Below w.heap.size w w' := by
  have HS := Lib.hid SS
  have HH := Lib.hid h
  have HH2 := Lib.hid hh
  clear SS h hh
  have Q := Lib.hid (boxes3 w 24 45 24 (.string ⟨S.toArray⟩) (.slice A l.length c) (.int .i64 f) (.int .i64 t) (.string ⟨X.toArray⟩) (.slice A2 m.length d))
  by_cases hfit : S.length ≤ 5000 ∧ l.length ≤ 5000
  · by_cases hfit2 : X.length ≤ 5000 ∧ m.length ≤ 5000
    · obtain ⟨p, hp⟩ : ∃ p, spliceT S l f t X m = p := ⟨_, rfl⟩
      have HK : Hid (OkT p) := by have := okT_splice (S := S) (X := X) HH.out.hf HH2.out.hf f t; rw [hp] at this; exact this
      have HP := Lib.hid hp
      clear hp
      go_enter Try.func6, Try.ntmps6
      go_wp2_with (first
        | (go_at_call 12; refine (strAlive_any HS.out _).mono ?_; rintro e w1 ⟨rfl, b1⟩; have z1 : w.heap.size + 3 ≤ w1.heap.size := by {have := b1.size; rw [Q.out.2.1] at this; exact this}; have B1 := Q.out.1.trans (b1.mono (by rw [Q.out.2.1]; omega)); have X1 := Lib.hid (Q.out.2.2.1.below b1 (by rw [Q.out.2.1]; omega)); have Y1 := Lib.hid (Q.out.2.2.2.1.below b1 (by rw [Q.out.2.1]; omega)); have Z1 := Lib.hid (Q.out.2.2.2.2.below b1 (by rw [Q.out.2.1]; omega)); obtain ⟨y0, y1⟩ := txt_cells X1.out; clear b1)
        | (go_at_call_of 13 l; refine (lawFits_any S HH.out.hS l HH.out.hl A c w1).mono ?_; rw [decide_eq_true hfit]; rintro e w2 ⟨rfl, b2⟩; have z2 := b2.size; have B2 := B1.trans (b2.mono (by omega)); have X2 := Lib.hid (X1.out.below b2 (by omega)); have Y2 := Lib.hid (Y1.out.below b2 (by omega)); have Z2 := Lib.hid (Z1.out.below b2 (by omega)); clear y0 y1 b2; obtain ⟨y4, y5⟩ := txt_cells Z2.out)
        | (go_at_call_of 13 m; refine (lawFits_any X HH2.out.hS m HH2.out.hl A2 d w2).mono ?_; rw [decide_eq_true hfit2]; rintro e w3 ⟨rfl, b3⟩; have z3 := b3.size; have B3 := B2.trans (b3.mono (by omega)); have X3 := Lib.hid (X2.out.below b3 (by omega)); have Y3 := Lib.hid (Y2.out.below b3 (by omega)); have Z3 := Lib.hid (Z2.out.below b3 (by omega)); clear y4 y5 b3; obtain ⟨y0, y1⟩ := txt_cells X3.out; obtain ⟨y2, y3⟩ := txt_cells Y3.out; obtain ⟨y4, y5⟩ := txt_cells Z3.out))
      refine (HS.out.splice A A2 c d w.heap.size w.heap.size S X l m f t w3 (by omega) (by omega) (HH.out.below B3) (HH2.out.below B3) hf ht).mono ?_
      rw [HP.out]
      obtain ⟨⟨U, q⟩, n⟩ := p
      rintro e w4 ⟨A4, c4, rfl, r4, b4⟩
      dsimp only at r4 ⊢
      have z4 := b4.size
      have N4 := Lib.hid (new_var w4 (.string ⟨U.toArray⟩) (.slice A4 q.length c4))
      have B4 : Hid (Below w.heap.size w (w4.alloc (.cells #[.string ⟨U.toArray⟩, .slice A4 q.length c4] 24))) := (B3.trans (b4.mono (by omega))).alloc (by omega) _
      have X4 := (X3.out.below b4 (by omega)).alloc (.cells #[.string ⟨U.toArray⟩, .slice A4 q.length c4] 24)
      have Y4 := (Y3.out.below b4 (by omega)).alloc (.cells #[.string ⟨U.toArray⟩, .slice A4 q.length c4] 24)
      have Z4 := (Z3.out.below b4 (by omega)).alloc (.cells #[.string ⟨U.toArray⟩, .slice A4 q.length c4] 24)
      have T4 := Lib.hid ((HK.out.txt (w := w4) (B := w4.heap.size) (A := A4) r4).below (w' := w4.alloc (.cells #[.string ⟨U.toArray⟩, .slice A4 q.length c4] 24)) ((Below.refl _ _).alloc (Nat.le_refl _) _))
      clear y0 y1 y2 y3 y4 y5 b4 r4
      obtain ⟨y0, y1⟩ := txt_cells X4
      obtain ⟨y2, y3⟩ := txt_cells Y4
      obtain ⟨y4, y5⟩ := txt_cells Z4
      clear X4 Y4 Z4
      go_wp2_with fail
      refine (refTSplice_any A A2 c d w.heap.size w.heap.size S X l m f t _ (by rw [N4.out.2]; omega) (by rw [N4.out.2]; omega) (HH.out.below B4.out) (HH2.out.below B4.out)).mono ?_
      rw [HP.out]
      rintro e w5 ⟨A5, c5, rfl, hown5, b5⟩
      dsimp only at hown5 ⊢
      have z5 : w4.heap.size + 1 ≤ w5.heap.size := by have := b5.size; rw [N4.out.2] at this; exact this
      have N5 := Lib.hid (new_var w5 (.string ⟨U.toArray⟩) (.slice A5 q.length c5))
      have B5 : Hid (Below w.heap.size w (w5.alloc (.cells #[.string ⟨U.toArray⟩, .slice A5 q.length c5] 24))) := (B4.out.trans (b5.mono (by rw [N4.out.2]; omega))).alloc (by omega) _
      have Y5 := (N4.out.1.below b5 (by rw [N4.out.2]; omega)).alloc (.cells #[.string ⟨U.toArray⟩, .slice A5 q.length c5] 24)
      have T5 := Lib.hid ((T4.out.below (b5.mono (by rw [N4.out.2]; omega))).below (w' := w5.alloc (.cells #[.string ⟨U.toArray⟩, .slice A5 q.length c5] 24)) ((Below.refl _ _).alloc (by omega) _))
      have U5 := Lib.hid ((HK.out.txt (w := w5) (B := w5.heap.size) (A := A5) (Row.of_own hown5)).below (w' := w5.alloc (.cells #[.string ⟨U.toArray⟩, .slice A5 q.length c5] 24)) ((Below.refl _ _).alloc (Nat.le_refl _) _))
      clear y0 y1 y2 y3 y4 y5 b5 hown5
      obtain ⟨y0, y1⟩ := txt_cells Y5
      obtain ⟨y2, y3⟩ := txt_cells N5.out.1
      clear Y5
      go_wp2_with (go_at_call 16; refine (refTSame_any A4 A5 c4 c5 w4.heap.size w5.heap.size U U q q _ (by rw [N5.out.2]; omega) (by rw [N5.out.2]; omega) T5.out U5.out).mono ?_; rw [decide_eq_true ⟨rfl, rfl⟩]; rintro e w6 ⟨rfl, b6⟩)
      go_ret
      exact ⟨rfl, B5.out.trans (b6.mono (by rw [N5.out.2]; omega))⟩
    · go_enter Try.func6, Try.ntmps6
      go_wp2_with (first
        | (go_at_call 12; refine (strAlive_any HS.out _).mono ?_; rintro e w1 ⟨rfl, b1⟩; have z1 : w.heap.size + 3 ≤ w1.heap.size := by {have := b1.size; rw [Q.out.2.1] at this; exact this}; have B1 := Q.out.1.trans (b1.mono (by rw [Q.out.2.1]; omega)); have X1 := Lib.hid (Q.out.2.2.1.below b1 (by rw [Q.out.2.1]; omega)); have Z1 := Lib.hid (Q.out.2.2.2.2.below b1 (by rw [Q.out.2.1]; omega)); obtain ⟨y0, y1⟩ := txt_cells X1.out; clear b1)
        | (go_at_call_of 13 l; refine (lawFits_any S HH.out.hS l HH.out.hl A c w1).mono ?_; rw [decide_eq_true hfit]; rintro e w2 ⟨rfl, b2⟩; have z2 := b2.size; have B2 := B1.trans (b2.mono (by omega)); have Z2 := Lib.hid (Z1.out.below b2 (by omega)); clear y0 y1 b2; obtain ⟨y4, y5⟩ := txt_cells Z2.out)
        | (go_at_call_of 13 m; refine (lawFits_any X HH2.out.hS m HH2.out.hl A2 d w2).mono ?_; rw [decide_eq_false hfit2]; rintro e w3 ⟨rfl, b3⟩))
      go_ret
      exact ⟨rfl, B2.trans (b3.mono (by omega))⟩
  · go_enter Try.func6, Try.ntmps6
    go_wp2_with (first
      | (go_at_call 12; refine (strAlive_any HS.out _).mono ?_; rintro e w1 ⟨rfl, b1⟩; have z1 : w.heap.size + 3 ≤ w1.heap.size := by {have := b1.size; rw [Q.out.2.1] at this; exact this}; have B1 := Q.out.1.trans (b1.mono (by rw [Q.out.2.1]; omega)); have X1 := Lib.hid (Q.out.2.2.1.below b1 (by rw [Q.out.2.1]; omega)); obtain ⟨y0, y1⟩ := txt_cells X1.out; clear b1)
      | (go_at_call_of 13 l; refine (lawFits_any S HH.out.hS l HH.out.hl A c w1).mono ?_; rw [decide_eq_false hfit]; rintro e w2 ⟨rfl, b2⟩))
    go_ret
    exact ⟨rfl, B1.trans (b2.mono (by omega))⟩
end Go.Proofs.Ytliapookpefgiaa
