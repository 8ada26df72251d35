/-
  For any two texts and any label: the view, and whether they are alike, are the document's (over what strip says): layer 4.
-/
import Derived.Test.YtliapookpefgiaaM04s
namespace Go.Proofs.Ytliapookpefgiaa
open Go.RowKit

set_option maxHeartbeats 2000000 in
theorem stripViews_walk (SS : StripSays) (w : World) (A : Option Addr) (c : Nat) (S : List UInt8) (l : List RunP) (h : Txt w w.heap.size A S l) (A2 : Option Addr) (d : Nat) (X : List UInt8) (m : List RunP) (hh : Txt w w.heap.size A2 X m) (y : Nat) (hy : y < 18446744073709551616) :
    Calls Try.prog 7 #[.agg #[.string ⟨S.toArray⟩, .slice A l.length c], .agg #[.string ⟨X.toArray⟩, .slice A2 m.length d], .int .u64 y] w fun e w' => e = .returned (.bool true) ∧ Below w.heap.size w w' := by
  have HS := Lib.hid SS
  have HH := Lib.hid h
  have HH2 := Lib.hid hh
  clear SS h hh
  have Q := Lib.hid (two_boxes w 24 24 (.string ⟨S.toArray⟩) (.slice A l.length c) (.string ⟨X.toArray⟩) (.slice A2 m.length d))
  by_cases hfit : S.length ≤ 5000 ∧ l.length ≤ 5000
  · by_cases hfit2 : X.length ≤ 5000 ∧ m.length ≤ 5000
    · obtain ⟨p, hp⟩ : ∃ p, viewOf S l y = p := ⟨_, rfl⟩
      obtain ⟨lo, hlo⟩ : ∃ lo, lowT S X l m y = lo := ⟨_, rfl⟩
      obtain ⟨sm, hsm⟩ : ∃ sm, decide (S = X ∧ l = m) = sm := ⟨_, rfl⟩
      have HP := Lib.hid hp
      have HLO := Lib.hid hlo
      have HSM := Lib.hid hsm
      clear hp hlo hsm
      obtain ⟨V, n⟩ := p
      go_enter Try.func7, Try.ntmps7
      go_wp2_with (first
        | (go_at_call 12; refine (strAlive_any HS.out _).mono ?_; rintro e w1 ⟨rfl, b1⟩; have z1 : w.heap.size + 2 ≤ w1.heap.size := by {have := b1.size; rw [Q.out.2.1] at this; exact this}; have B1 := Q.out.1.trans (b1.mono (by rw [Q.out.2.1]; omega)); have X1 := Lib.hid (Q.out.2.2.1.below b1 (by rw [Q.out.2.1]; omega)); have Y1 := Lib.hid (Q.out.2.2.2.below b1 (by rw [Q.out.2.1]; omega)); obtain ⟨y0, y1⟩ := txt_cells X1.out; clear b1)
        | (go_at_call_of 13 l; refine (lawFits_any S HH.out.hS l HH.out.hl A c w1).mono ?_; rw [decide_eq_true hfit]; rintro e w2 ⟨rfl, b2⟩; have z2 := b2.size; have B2 := B1.trans (b2.mono (by omega)); have X2 := Lib.hid (X1.out.below b2 (by omega)); have Y2 := Lib.hid (Y1.out.below b2 (by omega)); clear y0 y1 b2; obtain ⟨y4, y5⟩ := txt_cells Y2.out)
        | (go_at_call_of 13 m; refine (lawFits_any X HH2.out.hS m HH2.out.hl A2 d w2).mono ?_; rw [decide_eq_true hfit2]; rintro e w3 ⟨rfl, b3⟩; have z3 := b3.size; have B3' := B2.trans (b3.mono (by omega)); have X3 := Lib.hid (X2.out.below b3 (by omega)); have Y3 := Lib.hid (Y2.out.below b3 (by omega)); clear y4 y5 b3; obtain ⟨y0, y1⟩ := txt_cells X3.out; obtain ⟨y4, y5⟩ := txt_cells Y3.out))
      refine (HS.out.view A c w.heap.size S l y w3 (by omega) (HH.out.below B3') hy).mono ?_
      rw [HP.out]
      rintro e w4 ⟨rfl, b4⟩
      dsimp only
      have z4 := b4.size
      have B4 := B3'.trans (b4.mono (by omega))
      have X4 := Lib.hid (X3.out.below b4 (by omega))
      have Y4 := Lib.hid (Y3.out.below b4 (by omega))
      clear y0 y1 y4 y5 b4
      obtain ⟨y0, y1⟩ := txt_cells X4.out
      go_wp2_with fail
      refine (refTView_any A c w.heap.size S l y hy w4 (by omega) (HH.out.below B4)).mono ?_
      rw [HP.out]
      rintro e W ⟨rfl, b5⟩
      dsimp only
      have zW : w.heap.size + 2 ≤ W.heap.size := by have := b5.size; omega
      have B3 := Lib.hid (B4.trans (b5.mono (by omega)))
      have X5 := Lib.hid (X4.out.below b5 (by omega))
      have Y5 := Lib.hid (Y4.out.below b5 (by omega))
      clear y0 y1 b5
      have KS : Hid (∀ w', Below W.heap.size W w' → (w'.cell? ⟨w.heap.size, 0, none⟩ = some (.string ⟨S.toArray⟩) ∧ w'.cell? ⟨w.heap.size, 1, none⟩ = some (.slice A l.length c)) ∧ (w'.cell? ⟨w.heap.size + 1, 0, none⟩ = some (.string ⟨X.toArray⟩) ∧ w'.cell? ⟨w.heap.size + 1, 1, none⟩ = some (.slice A2 m.length d))) := fun w' hb => ⟨txt_cells (X5.out.below hb (by omega)), txt_cells (Y5.out.below hb (by omega))⟩
      have D0 : Hid (Below W.heap.size W W.drew) := (Below.refl _ _).drew
      go_wp2_with fail
      go_region_held3 (fun w' => (w'.cell? ⟨w.heap.size, 0, none⟩ = some (.string ⟨S.toArray⟩) ∧ w'.cell? ⟨w.heap.size, 1, none⟩ = some (.slice A l.length c)) ∧ (w'.cell? ⟨w.heap.size + 1, 0, none⟩ = some (.string ⟨X.toArray⟩) ∧ w'.cell? ⟨w.heap.size + 1, 1, none⟩ = some (.slice A2 m.length d)))
        (first
          | exact KS.out _ D0.out
          | exact KS.out _ E6.out
          | exact KS.out _ E7.out
          | exact KS.out _ E8.out
          | exact KS.out _ E9.out)
        (first
          | (go_at_call 31; refine (HS.out.low A A2 c d w.heap.size w.heap.size S X l m y W.drew (by have := D0.out.size; omega) (by have := D0.out.size; omega) (HH.out.below (B3.out.trans (D0.out.mono (by omega)))) (HH2.out.below (B3.out.trans (D0.out.mono (by omega)))) hy).mono ?_; rw [HLO.out]; rintro e w6 ⟨rfl, b6⟩; have s6 := D0.out.size; have E6 := Lib.hid (D0.out.trans (b6.mono s6)); clear s6 b6)
          | (go_at_call 32; refine (refTLow_any A A2 c d w.heap.size w.heap.size S X l m y hy w6 (by have := E6.out.size; omega) (by have := E6.out.size; omega) (HH.out.below (B3.out.trans (E6.out.mono (by omega)))) (HH2.out.below (B3.out.trans (E6.out.mono (by omega))))).mono ?_; rw [HLO.out]; rintro e w7 ⟨rfl, b7⟩; have s7 := E6.out.size; have E7 := Lib.hid (E6.out.trans (b7.mono s7)); clear s7 b7)
          | (go_at_call 33; refine (HS.out.same A A2 c d w.heap.size w.heap.size S X l m w7 (by have := E7.out.size; omega) (by have := E7.out.size; omega) (HH.out.below (B3.out.trans (E7.out.mono (by omega)))) (HH2.out.below (B3.out.trans (E7.out.mono (by omega))))).mono ?_; rw [HSM.out]; rintro e w8 ⟨rfl, b8⟩; have s8 := E7.out.size; have E8 := Lib.hid (E7.out.trans (b8.mono s8)); clear s8 b8)
          | (go_at_call 16; refine (refTSame_any A A2 c d w.heap.size w.heap.size S X l m w8 (by have := E8.out.size; omega) (by have := E8.out.size; omega) (HH.out.below (B3.out.trans (E8.out.mono (by omega)))) (HH2.out.below (B3.out.trans (E8.out.mono (by omega))))).mono ?_; rw [HSM.out]; rintro e w9 ⟨rfl, b9⟩; have s9 := E8.out.size; have E9 := Lib.hid (E8.out.trans (b9.mono s9)); clear s9 b9))
      go_wp2
      go_ret
      exact ⟨rfl, B3.out.trans (E9.out.mono (by omega))⟩
    · go_enter Try.func7, Try.ntmps7
      go_wp2_with (first
        | (go_at_call 12; refine (strAlive_any HS.out _).mono ?_; rintro e w1 ⟨rfl, b1⟩; have z1 : w.heap.size + 2 ≤ w1.heap.size := by {have := b1.size; rw [Q.out.2.1] at this; exact this}; have B1 := Q.out.1.trans (b1.mono (by rw [Q.out.2.1]; omega)); have X1 := Lib.hid (Q.out.2.2.1.below b1 (by rw [Q.out.2.1]; omega)); have Y1 := Lib.hid (Q.out.2.2.2.below b1 (by rw [Q.out.2.1]; omega)); obtain ⟨y0, y1⟩ := txt_cells X1.out; clear b1)
        | (go_at_call_of 13 l; refine (lawFits_any S HH.out.hS l HH.out.hl A c w1).mono ?_; rw [decide_eq_true hfit]; rintro e w2 ⟨rfl, b2⟩; have z2 := b2.size; have B2 := B1.trans (b2.mono (by omega)); have X2 := Lib.hid (X1.out.below b2 (by omega)); have Y2 := Lib.hid (Y1.out.below b2 (by omega)); clear y0 y1 b2; obtain ⟨y4, y5⟩ := txt_cells Y2.out)
        | (go_at_call_of 13 m; refine (lawFits_any X HH2.out.hS m HH2.out.hl A2 d w2).mono ?_; rw [decide_eq_false hfit2]; rintro e w3 ⟨rfl, b3⟩; have z3 := b3.size; have B3' := B2.trans (b3.mono (by omega)); have X3 := Lib.hid (X2.out.below b3 (by omega)); have Y3 := Lib.hid (Y2.out.below b3 (by omega)); clear y4 y5 b3; obtain ⟨y0, y1⟩ := txt_cells X3.out; obtain ⟨y4, y5⟩ := txt_cells Y3.out))
      go_ret
      exact ⟨rfl, B3'⟩
  · go_enter Try.func7, Try.ntmps7
    go_wp2_with (first
      | (go_at_call 12; refine (strAlive_any HS.out _).mono ?_; rintro e w1 ⟨rfl, b1⟩; have z1 : w.heap.size + 2 ≤ w1.heap.size := by {have := b1.size; rw [Q.out.2.1] at this; exact this}; have B1 := Q.out.1.trans (b1.mono (by rw [Q.out.2.1]; omega)); have X1 := Lib.hid (Q.out.2.2.1.below b1 (by rw [Q.out.2.1]; omega)); have Y1 := Lib.hid (Q.out.2.2.2.below b1 (by rw [Q.out.2.1]; omega)); obtain ⟨y0, y1⟩ := txt_cells X1.out; clear b1)
      | (go_at_call_of 13 l; refine (lawFits_any S HH.out.hS l HH.out.hl A c w1).mono ?_; rw [decide_eq_false hfit]; rintro e w2 ⟨rfl, b2⟩; have z2 := b2.size; have B2 := B1.trans (b2.mono (by omega)); have X2 := Lib.hid (X1.out.below b2 (by omega)); have Y2 := Lib.hid (Y1.out.below b2 (by omega)); clear y0 y1 b2; obtain ⟨y4, y5⟩ := txt_cells Y2.out))
    go_ret
    exact ⟨rfl, B2⟩
end Go.Proofs.Ytliapookpefgiaa
