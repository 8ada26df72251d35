/-
  For any text: what is cut out of it is the document's (over what strip says): layer 4.
-/
import Derived.Test.YtliapookpefgiaaM04s
namespace Go.Proofs.Ytliapookpefgiaa
open Go.RowKit

set_option maxHeartbeats 1000000 in
theorem stripCuts_walk (SS : StripSays) (w : World) (A : Option Addr) (c : Nat) (S : List UInt8) (l : List RunP) (h : Txt w w.heap.size A S l) (f : Int) (hf : -9223372036854775808 ≤ f ∧ f ≤ 9223372036854775807) (t : Int) (ht : -9223372036854775808 ≤ t ∧ t ≤ 9223372036854775807) :
    Calls Try.prog 4 #[.agg #[.string ⟨S.toArray⟩, .slice A l.length c], .int .i64 f, .int .i64 t] w fun e w' => e = .returned (.bool true) ∧ Below w.heap.size w w' := by
  have HS := Lib.hid SS
  have HH := Lib.hid h
  clear SS h
  have Q := Lib.hid (new_var w (.string ⟨S.toArray⟩) (.slice A l.length c))
  have B0 : Hid (Below w.heap.size w (w.alloc (.cells #[.string ⟨S.toArray⟩, .slice A l.length c] 24))) := (Below.refl _ w).alloc (Nat.le_refl _) _
  by_cases hfit : S.length ≤ 5000 ∧ l.length ≤ 5000
  · obtain ⟨p, hp⟩ : ∃ p, cutOf S l f t = p := ⟨_, rfl⟩
    have HK : Hid (OkT p) := by have := okT_cut (S := S) HH.out.hf f t; rw [hp] at this; exact this
    have HP := Lib.hid hp
    clear hp
    go_enter Try.func4, Try.ntmps4
    go_wp2_with fail
    refine (strAlive_any HS.out _).mono ?_
    rintro e w1 ⟨rfl, b1⟩
    have z1 : w.heap.size + 1 ≤ w1.heap.size := by have := b1.size; rw [Q.out.2] at this; exact this
    have B1 := B0.out.trans (b1.mono (by rw [Q.out.2]; omega))
    have X1 := Lib.hid (Q.out.1.below b1 (by rw [Q.out.2]; omega))
    obtain ⟨y0, y1⟩ := txt_cells X1.out
    clear b1
    go_wp2_with fail
    refine (lawFits_any S HH.out.hS l HH.out.hl A c w1).mono ?_
    rw [decide_eq_true hfit]
    rintro e w2 ⟨rfl, b2⟩
    have z2 := b2.size
    have B2 := B1.trans (b2.mono (by omega))
    have X2 := Lib.hid (X1.out.below b2 (by omega))
    clear y0 y1 b2
    obtain ⟨y0, y1⟩ := txt_cells X2.out
    go_wp2_with fail
    refine (HS.out.cut A c w.heap.size S l f t w2 (by omega) (HH.out.below B2) hf ht).mono ?_
    rw [HP.out]
    obtain ⟨⟨U, q⟩, n⟩ := p
    rintro e w3 ⟨A3, c3, rfl, r3, b3⟩
    dsimp only at r3 ⊢
    have z3 := b3.size
    have N3 := Lib.hid (new_var w3 (.string ⟨U.toArray⟩) (.slice A3 q.length c3))
    have B3 : Hid (Below w.heap.size w (w3.alloc (.cells #[.string ⟨U.toArray⟩, .slice A3 q.length c3] 24))) := (B2.trans (b3.mono (by omega))).alloc (by omega) _
    have X3 := Lib.hid ((X2.out.below b3 (by omega)).alloc (.cells #[.string ⟨U.toArray⟩, .slice A3 q.length c3] 24))
    have T3 := Lib.hid ((HK.out.txt (w := w3) (B := w3.heap.size) (A := A3) r3).below (w' := w3.alloc (.cells #[.string ⟨U.toArray⟩, .slice A3 q.length c3] 24)) ((Below.refl _ _).alloc (Nat.le_refl _) _))
    clear y0 y1 b3 r3
    obtain ⟨y0, y1⟩ := txt_cells X3.out
    go_wp2_with fail
    refine (refTCut_any A c w.heap.size S l f t _ (by rw [N3.out.2]; omega) (HH.out.below B3.out)).mono ?_
    rw [HP.out]
    rintro e w4 ⟨A4, c4, rfl, hown4, b4⟩
    dsimp only at hown4 ⊢
    have z4 : w3.heap.size + 1 ≤ w4.heap.size := by have := b4.size; rw [N3.out.2] at this; exact this
    have N4 := Lib.hid (new_var w4 (.string ⟨U.toArray⟩) (.slice A4 q.length c4))
    have B4 : Hid (Below w.heap.size w (w4.alloc (.cells #[.string ⟨U.toArray⟩, .slice A4 q.length c4] 24))) := (B3.out.trans (b4.mono (by rw [N3.out.2]; omega))).alloc (by omega) _
    have Y4 := (N3.out.1.below b4 (by rw [N3.out.2]; omega)).alloc (.cells #[.string ⟨U.toArray⟩, .slice A4 q.length c4] 24)
    have T4 := Lib.hid ((T3.out.below (b4.mono (by rw [N3.out.2]; omega))).below (w' := w4.alloc (.cells #[.string ⟨U.toArray⟩, .slice A4 q.length c4] 24)) ((Below.refl _ _).alloc (by omega) _))
    have U4 := Lib.hid ((HK.out.txt (w := w4) (B := w4.heap.size) (A := A4) (Row.of_own hown4)).below (w' := w4.alloc (.cells #[.string ⟨U.toArray⟩, .slice A4 q.length c4] 24)) ((Below.refl _ _).alloc (Nat.le_refl _) _))
    clear y0 y1 b4 hown4
    obtain ⟨y0, y1⟩ := txt_cells Y4
    obtain ⟨y2, y3⟩ := txt_cells N4.out.1
    clear Y4
    go_wp2_with (go_at_call 16; refine (refTSame_any A3 A4 c3 c4 w3.heap.size w4.heap.size U U q q _ (by rw [N4.out.2]; omega) (by rw [N4.out.2]; omega) T4.out U4.out).mono ?_; rw [decide_eq_true ⟨rfl, rfl⟩]; rintro e w5 ⟨rfl, b5⟩)
    go_ret
    exact ⟨rfl, B4.out.trans (b5.mono (by rw [N4.out.2]; omega))⟩
  · go_enter Try.func4, Try.ntmps4
    go_wp2_with (first
      | (go_at_call 12; refine (strAlive_any HS.out _).mono ?_; rintro e w1 ⟨rfl, b1⟩; have z1 : w.heap.size + 1 ≤ w1.heap.size := by {have := b1.size; rw [Q.out.2] at this; exact this}; have B1 := B0.out.trans (b1.mono (by rw [Q.out.2]; omega)); obtain ⟨y0, y1⟩ := txt_cells (Q.out.1.below b1 (by rw [Q.out.2]; omega)); clear b1)
      | (go_at_call 13; refine (lawFits_any S HH.out.hS l HH.out.hl A c w1).mono ?_; rw [decide_eq_false hfit]; rintro e w2 ⟨rfl, b2⟩))
    go_ret
    exact ⟨rfl, B1.trans (b2.mono (by omega))⟩
end Go.Proofs.Ytliapookpefgiaa
