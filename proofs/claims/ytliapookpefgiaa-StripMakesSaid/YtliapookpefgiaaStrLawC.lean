/-
  For any text, any bytes and any label: whether the text is good, its label, and the bytes under one label, are the document's (over what strip says): layer 4.
-/
import Derived.Test.YtliapookpefgiaaM04s
namespace Go.Proofs.Ytliapookpefgiaa
open Go.RowKit

set_option maxHeartbeats 2000000 in
theorem stripMakes_walk (SS : StripSays) (w : World) (A : Option Addr) (c : Nat) (S : List UInt8) (l : List RunP) (h : Txt w w.heap.size A S l) (X : List UInt8) (hX : X.length ≤ maxLen) (x : Nat) (hx : x < 18446744073709551616) :
    Calls Try.prog 3 #[.agg #[.string ⟨S.toArray⟩, .slice A l.length c], .string ⟨X.toArray⟩, .int .u64 x] w fun e w' => e = .returned (.bool true) ∧ Below w.heap.size w w' := by
  have HS := Lib.hid SS
  have HH := Lib.hid h
  have HX := Lib.hid hX
  unfold maxLen at hX
  clear SS h
  obtain ⟨lb, hlb⟩ : ∃ lb : Nat, (if goodT S l = true then joinAllN (bytesOf l) else 0) = lb := ⟨_, rfl⟩
  have HLB := Lib.hid hlb
  clear hlb
  have Q := Lib.hid (new_var w (.string ⟨S.toArray⟩) (.slice A l.length c))
  have B0 : Hid (Below w.heap.size w (w.alloc (.cells #[.string ⟨S.toArray⟩, .slice A l.length c] 24))) := (Below.refl _ w).alloc (Nat.le_refl _) _
  by_cases hfit : S.length ≤ 5000 ∧ l.length ≤ 5000
  · by_cases hfit2 : 5000 < X.length
    · go_enter Try.func3, Try.ntmps3
      go_wp2_with (first
        | (go_at_call 12; refine (strAlive_any HS.out _).mono ?_; rintro e w1 ⟨rfl, b1⟩; have z1 : w.heap.size + 1 ≤ w1.heap.size := by {have := b1.size; rw [Q.out.2] at this; exact this}; have B1 := B0.out.trans (b1.mono (by rw [Q.out.2]; omega)); obtain ⟨y0, y1⟩ := txt_cells (Q.out.1.below b1 (by rw [Q.out.2]; omega)); clear b1)
        | (go_at_call 13; refine (lawFits_any S HH.out.hS l HH.out.hl A c w1).mono ?_; rw [decide_eq_true hfit]; rintro e w2 ⟨rfl, b2⟩))
      go_ret
      exact ⟨rfl, B1.trans (b2.mono (by omega))⟩
    · obtain ⟨p, hp⟩ : ∃ p, makeOf X x = p := ⟨_, rfl⟩
      have HK : Hid (OkT p) := by have := okT_make X x hx; rw [hp] at this; exact this
      have HP := Lib.hid hp
      clear hp
      go_enter Try.func3, Try.ntmps3
      go_wp2_with (first
        | (go_at_call 12; refine (strAlive_any HS.out _).mono ?_; rintro e w1 ⟨rfl, b1⟩; have z1 : w.heap.size + 1 ≤ w1.heap.size := by {have := b1.size; rw [Q.out.2] at this; exact this}; have B1 := B0.out.trans (b1.mono (by rw [Q.out.2]; omega)); have X1 := Lib.hid (Q.out.1.below b1 (by rw [Q.out.2]; omega)); obtain ⟨y0, y1⟩ := txt_cells X1.out; clear b1)
        | (go_at_call 13; refine (lawFits_any S HH.out.hS l HH.out.hl A c w1).mono ?_; rw [decide_eq_true hfit]; rintro e w2 ⟨rfl, b2⟩; have z2 := b2.size; have B2 := B1.trans (b2.mono (by omega)); have X2 := Lib.hid (X1.out.below b2 (by omega)); clear y0 y1 b2))
      refine (HS.out.make X x w2 HX.out hx).mono ?_
      rw [HP.out]
      obtain ⟨⟨U, q⟩, n⟩ := p
      rintro e w4 ⟨A4, c4, rfl, r4, b4⟩
      dsimp only at r4 ⊢
      have z4 := b4.size
      have N4 := Lib.hid (new_var w4 (.string ⟨U.toArray⟩) (.slice A4 q.length c4))
      have B4 : Hid (Below w.heap.size w (w4.alloc (.cells #[.string ⟨U.toArray⟩, .slice A4 q.length c4] 24))) := (B2.trans (b4.mono (by omega))).alloc (by omega) _
      have X4 := Lib.hid ((X2.out.below b4 (by omega)).alloc (.cells #[.string ⟨U.toArray⟩, .slice A4 q.length c4] 24))
      have T4 := Lib.hid ((HK.out.txt (w := w4) (B := w4.heap.size) (A := A4) r4).below (w' := w4.alloc (.cells #[.string ⟨U.toArray⟩, .slice A4 q.length c4] 24)) ((Below.refl _ _).alloc (Nat.le_refl _) _))
      clear b4 r4
      go_wp2_with fail
      refine (refTMake_any X HX.out x hx _).mono ?_
      rw [HP.out]
      rintro e w5 ⟨A5, c5, rfl, hown5, b5⟩
      dsimp only at hown5 ⊢
      have z5 : w4.heap.size + 1 ≤ w5.heap.size := by have := b5.size; rw [N4.out.2] at this; exact this
      have N5 := Lib.hid (new_var w5 (.string ⟨U.toArray⟩) (.slice A5 q.length c5))
      have B5 : Hid (Below w.heap.size w (w5.alloc (.cells #[.string ⟨U.toArray⟩, .slice A5 q.length c5] 24))) := (B4.out.trans (b5.mono (by rw [N4.out.2]; omega))).alloc (by omega) _
      have X5 := Lib.hid ((X4.out.below b5 (by rw [N4.out.2]; omega)).alloc (.cells #[.string ⟨U.toArray⟩, .slice A5 q.length c5] 24))
      have Y5 := Lib.hid ((N4.out.1.below b5 (by rw [N4.out.2]; omega)).alloc (.cells #[.string ⟨U.toArray⟩, .slice A5 q.length c5] 24))
      have T5 := Lib.hid (((T4.out.below (b5.mono (by rw [N4.out.2]; omega))).below (w' := w5.alloc (.cells #[.string ⟨U.toArray⟩, .slice A5 q.length c5] 24)) ((Below.refl _ _).alloc (by omega) _)).drewN 1)
      have U5 := Lib.hid (((HK.out.txt (w := w5) (B := w5.heap.size) (A := A5) (Row.of_own hown5)).below (w' := w5.alloc (.cells #[.string ⟨U.toArray⟩, .slice A5 q.length c5] 24)) ((Below.refl _ _).alloc (Nat.le_refl _) _)).drewN 1)
      clear b5 hown5
      obtain ⟨W, hW⟩ : ∃ W, w5.alloc (.cells #[.string ⟨U.toArray⟩, .slice A5 q.length c5] 24) = W := ⟨_, rfl⟩
      have KS : Hid (∀ w', Below W.heap.size W w' → (w'.cell? ⟨w.heap.size, 0, none⟩ = some (.string ⟨S.toArray⟩) ∧ w'.cell? ⟨w.heap.size, 1, none⟩ = some (.slice A l.length c)) ∧ (w'.cell? ⟨w4.heap.size, 0, none⟩ = some (.string ⟨U.toArray⟩) ∧ w'.cell? ⟨w4.heap.size, 1, none⟩ = some (.slice A4 q.length c4)) ∧
          (w'.cell? ⟨w5.heap.size, 0, none⟩ = some (.string ⟨U.toArray⟩) ∧ w'.cell? ⟨w5.heap.size, 1, none⟩ = some (.slice A5 q.length c5))) := by
        intro w' hb
        subst hW
        exact ⟨txt_cells (X5.out.below hb (by rw [N5.out.2]; omega)), txt_cells (Y5.out.below hb (by rw [N5.out.2]; omega)), txt_cells (N5.out.1.below hb (by rw [N5.out.2]; omega))⟩
      have ZW : Hid (W.heap.size = w5.heap.size + 1) := by subst hW; exact N5.out.2
      rw [hW] at B5 T5 U5
      have zW : w5.heap.size + 1 ≤ W.heap.size := by rw [ZW.out]; omega
      have D0 : Hid (Below W.heap.size W W.drew) := (Below.refl _ _).drew
      clear X5 Y5 N5 N4 X4 T4 B4
      have HWe := Lib.hid hW
      clear hW
      go_wp2_with fail
      rw [HWe.out]
      clear HWe
      go_region_held3 (fun w' => (w'.cell? ⟨w.heap.size, 0, none⟩ = some (.string ⟨S.toArray⟩) ∧ w'.cell? ⟨w.heap.size, 1, none⟩ = some (.slice A l.length c)) ∧ (w'.cell? ⟨w4.heap.size, 0, none⟩ = some (.string ⟨U.toArray⟩) ∧ w'.cell? ⟨w4.heap.size, 1, none⟩ = some (.slice A4 q.length c4)) ∧ (w'.cell? ⟨w5.heap.size, 0, none⟩ = some (.string ⟨U.toArray⟩) ∧ w'.cell? ⟨w5.heap.size, 1, none⟩ = some (.slice A5 q.length c5)))
        (first
          | exact KS.out _ D0.out
          | exact KS.out _ E6.out
          | exact KS.out _ E7.out
          | exact KS.out _ E8.out
          | exact KS.out _ E9.out
          | exact KS.out _ E10.out)
        (first
          | (go_at_call 16; refine (refTSame_any A4 A5 c4 c5 w4.heap.size w5.heap.size U U q q W.drew (by show _ ≤ W.heap.size; omega) (by show _ ≤ W.heap.size; omega) T5.out U5.out).mono ?_; rw [decide_eq_true ⟨rfl, rfl⟩]; rintro e w6 ⟨rfl, b6⟩; have s6 := D0.out.size; have E6 := Lib.hid (D0.out.trans (b6.mono s6)); clear s6 b6)
          | (go_at_call 17; refine (HS.out.good A c w.heap.size S l w6 (by have := E6.out.size; omega) (HH.out.below (B5.out.trans (E6.out.mono (by omega))))).mono ?_; rintro e w7 ⟨rfl, b7⟩; have s7 := E6.out.size; have E7 := Lib.hid (E6.out.trans (b7.mono s7)); clear s7 b7)
          | (go_at_call 18; refine (refTGood_any A c w.heap.size S l w7 (by have := E7.out.size; omega) (HH.out.below (B5.out.trans (E7.out.mono (by omega))))).mono ?_; rintro e w8 ⟨rfl, b8⟩; have s8 := E7.out.size; have E8 := Lib.hid (E7.out.trans (b8.mono s8)); clear s8 b8)
          | (go_at_call 19; refine (HS.out.label A c w.heap.size S l w8 (by have := E8.out.size; omega) (HH.out.below (B5.out.trans (E8.out.mono (by omega))))).mono ?_; rw [HLB.out]; rintro e w9 ⟨rfl, b9⟩; have s9 := E8.out.size; have E9 := Lib.hid (E8.out.trans (b9.mono s9)); clear s9 b9)
          | (go_at_call 20; refine (refTLabel_any A c w.heap.size S l w9 (by have := E9.out.size; omega) (HH.out.below (B5.out.trans (E9.out.mono (by omega))))).mono ?_; rw [HLB.out]; rintro e w10 ⟨rfl, b10⟩; have s10 := E9.out.size; have E10 := Lib.hid (E9.out.trans (b10.mono s10)); clear s10 b10))
      go_wp2
      go_ret
      exact ⟨rfl, B5.out.trans (E10.out.mono (by omega))⟩
  · go_enter Try.func3, Try.ntmps3
    go_wp2_with (first
      | (go_at_call 12; refine (strAlive_any HS.out _).mono ?_; rintro e w1 ⟨rfl, b1⟩; have z1 : w.heap.size + 1 ≤ w1.heap.size := by {have := b1.size; rw [Q.out.2] at this; exact this}; have B1 := B0.out.trans (b1.mono (by rw [Q.out.2]; omega)); obtain ⟨y0, y1⟩ := txt_cells (Q.out.1.below b1 (by rw [Q.out.2]; omega)); clear b1)
      | (go_at_call 13; refine (lawFits_any S HH.out.hS l HH.out.hl A c w1).mono ?_; rw [decide_eq_false hfit]; rintro e w2 ⟨rfl, b2⟩))
    go_ret
    exact ⟨rfl, B1.trans (b2.mono (by omega))⟩
end Go.Proofs.Ytliapookpefgiaa
