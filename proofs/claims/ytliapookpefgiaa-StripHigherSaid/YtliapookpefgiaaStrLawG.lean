/-
  For any two texts and any two labels: what the lower one sees the higher one sees (over what strip says): layer 4.
-/
import Derived.Test.YtliapookpefgiaaM04s
import Derived.Test.YtliapookpefgiaaStrLawB
namespace Go.Proofs.Ytliapookpefgiaa
open Go.RowKit

theorem byte_is {a : UInt8} (h : a = 35) : ((a.toNat : Int) != 35) = false := by subst h; rfl
theorem byte_not {a : UInt8} (h : a ≠ 35) : ((a.toNat : Int) != 35) = true := by
  rw [bne_iff_ne]
  intro e
  exact h (UInt8.toNat_inj.1 (by have : a.toNat = 35 := by omega
                                 rw [this]; rfl))
theorem byte_same {a b : UInt8} (h : a = b) : ((a.toNat : Int) != (b.toNat : Int)) = false := by subst h; simp

set_option maxHeartbeats 2000000 in
theorem stripHigher_walk (SS : StripSays) (w : World) (A : Option Addr) (c : Nat) (S : List UInt8) (l : List RunP) (h : Txt w w.heap.size A S l) (A2 : Option Addr) (d : Nat) (X : List UInt8) (m : List RunP) (hh : Txt w w.heap.size A2 X m) (x y : Nat) (hx : x < 18446744073709551616) (hy : y < 18446744073709551616) :
    Calls Try.prog 9 #[.agg #[.string ⟨S.toArray⟩, .slice A l.length c], .agg #[.string ⟨X.toArray⟩, .slice A2 m.length d], .agg #[.int .u64 x, .int .u64 y]] w fun e w' => e = .returned (.bool true) ∧ Below w.heap.size w w' := by
  have HS := Lib.hid SS
  have HH := Lib.hid h
  have HH2 := Lib.hid hh
  clear SS h hh
  have Q := Lib.hid (boxes3 w 24 24 58 (.string ⟨S.toArray⟩) (.slice A l.length c) (.string ⟨X.toArray⟩) (.slice A2 m.length d) (.int .u64 x) (.int .u64 y))
  by_cases hfit : S.length ≤ 5000 ∧ l.length ≤ 5000
  · by_cases hfit2 : X.length ≤ 5000 ∧ m.length ≤ 5000
    · have hz : x &&& y < 18446744073709551616 := Nat.lt_of_le_of_lt Nat.and_le_left hx
      by_cases hg : goodT S l = true
      · obtain ⟨V, hV⟩ : ∃ V, viewTo S (bytesOf l) (x &&& y) = V := ⟨_, rfl⟩
        obtain ⟨U, hU⟩ : ∃ U, viewTo S (bytesOf l) y = U := ⟨_, rfl⟩
        have HV : Hid (viewOf S l (x &&& y) = (V, 0)) := Lib.hid (by unfold viewOf; rw [if_pos hg, hV])
        have HU : Hid (viewOf S l y = (U, 0)) := Lib.hid (by unfold viewOf; rw [if_pos hg, hU])
        have e3 := (goodT_size hg).2.2
        have lV : Hid (V.length = S.length) := Lib.hid (by rw [← hV]; exact viewTo_len e3)
        have lU : Hid (U.length = S.length) := Lib.hid (by rw [← hU]; exact viewTo_len e3)
        have HVU : Hid (∀ k (h1 : k < S.length) (h2 : k < V.length) (h3 : k < U.length), (V[k] = 35 ∨ V[k] = U[k]) ∧ (U[k] = 35 ∨ U[k] = S[k])) := Lib.hid (by subst hV hU; exact fun k h1 _ _ => views_ok e3 h1)
        clear hV hU e3 hg
        go_enter Try.func9, Try.ntmps9
        go_wp2_with (first
          | (go_at_call 12; refine (strAlive_any HS.out _).mono ?_; rintro e w1 ⟨rfl, b1⟩; have z1 : w.heap.size + 3 ≤ w1.heap.size := by {have := b1.size; rw [Q.out.2.1] at this; exact this}; have B1 := Q.out.1.trans (b1.mono (by rw [Q.out.2.1]; omega)); have X1 := Lib.hid (Q.out.2.2.1.below b1 (by rw [Q.out.2.1]; omega)); have Y1 := Lib.hid (Q.out.2.2.2.1.below b1 (by rw [Q.out.2.1]; omega)); have Z1 := Lib.hid (Q.out.2.2.2.2.below b1 (by rw [Q.out.2.1]; omega)); obtain ⟨y0, y1⟩ := txt_cells X1.out; clear b1)
          | (go_at_call_of 13 l; refine (lawFits_any S HH.out.hS l HH.out.hl A c w1).mono ?_; rw [decide_eq_true hfit]; rintro e w2 ⟨rfl, b2⟩; have z2 := b2.size; have B2 := B1.trans (b2.mono (by omega)); have X2 := Lib.hid (X1.out.below b2 (by omega)); have Y2 := Lib.hid (Y1.out.below b2 (by omega)); have Z2 := Lib.hid (Z1.out.below b2 (by omega)); clear y0 y1 b2; obtain ⟨y2, y3⟩ := txt_cells Y2.out)
          | (go_at_call_of 13 m; refine (lawFits_any X HH2.out.hS m HH2.out.hl A2 d w2).mono ?_; rw [decide_eq_true hfit2]; rintro e w3 ⟨rfl, b3⟩; have z3 := b3.size; have B3 := B2.trans (b3.mono (by omega)); have X3 := Lib.hid (X2.out.below b3 (by omega)); have Y3 := Lib.hid (Y2.out.below b3 (by omega)); have Z3 := Lib.hid (Z2.out.below b3 (by omega)); clear y2 y3 b3; obtain ⟨y4, y5⟩ := txt_cells Z3.out))
        go_quiet (fail)
        have DB : Below w3.heap.size w3 (w3.drewN nq) := below_drewN (Below.refl _ _) _
        generalize w3.drewN nq = w4 at *
        have z4 := DB.size
        have B4 := B3.trans (DB.mono (by omega))
        have X4 := Lib.hid (X3.out.below DB (by omega))
        have Y4 := Lib.hid (Y3.out.below DB (by omega))
        clear y4 y5 DB
        obtain ⟨y0, y1⟩ := txt_cells X4.out
        go_wp2_with fail
        rw [u64_and_nat x y hx hy]
        refine (HS.out.view A c w.heap.size S l (x &&& y) w4 (by omega) (HH.out.below B4) hz).mono ?_
        rw [HV.out]
        rintro e w5 ⟨rfl, b5⟩
        dsimp only
        have z5 := b5.size
        have B5 := B4.trans (b5.mono (by omega))
        have X5 := Lib.hid (X4.out.below b5 (by omega))
        have Y5 := Lib.hid (Y4.out.below b5 (by omega))
        clear y0 y1 b5
        obtain ⟨y0, y1⟩ := txt_cells X5.out
        go_wp2_with fail
        refine (HS.out.view A c w.heap.size S l y w5 (by omega) (HH.out.below B5) hy).mono ?_
        rw [HU.out]
        rintro e W ⟨rfl, b6⟩
        dsimp only
        have zW := b6.size
        have BW := B5.trans (b6.mono (by omega))
        have XW := Lib.hid (X5.out.below b6 (by omega))
        have YW := Lib.hid (Y5.out.below b6 (by omega))
        clear y0 y1 b6
        obtain ⟨y0, y1⟩ := txt_cells XW.out
        have q1 : (V.length : Int) = (S.length : Int) := by rw [lV.out]
        have q2 : (U.length : Int) = (S.length : Int) := by rw [lU.out]
        go_wp2_with fail
        go_loopw [13] (fun i wr => ∃ k : Nat, k ≤ S.length ∧ i = .int .i64 k ∧ Below W.heap.size W wr) (fun i _ => S.length - (intOf i).toNat)
        case atStart => exact ⟨0, Nat.zero_le _, rfl, Below.refl _ _⟩
        case round =>
          obtain ⟨k, hk, rfl, hb⟩ := hrel
          have zr := hb.size
          obtain ⟨y0, y1⟩ := txt_cells (XW.out.below hb (by omega))
          by_cases hlt : k < S.length
          · have hltV : k < V.length := by rw [lV.out]; exact hlt
            have hltU : k < U.length := by rw [lU.out]; exact hlt
            obtain ⟨hs1, hs2⟩ := HVU.out k hlt hltV hltU
            have dV : k < (⟨V.toArray⟩ : ByteArray).size := by show k < V.toArray.size; rw [List.size_toArray]; exact hltV
            have dU : k < (⟨U.toArray⟩ : ByteArray).size := by show k < U.toArray.size; rw [List.size_toArray]; exact hltU
            have dS : k < (⟨S.toArray⟩ : ByteArray).size := by show k < S.toArray.size; rw [List.size_toArray]; exact hlt
            by_cases a1 : V[k] = 35
            · by_cases a2 : U[k] = 35
              · have c1 : (((((⟨V.toArray⟩ : ByteArray)[k]'dV).toNat : Int)) != 35) = false := byte_is a1
                have c3 : (((((⟨U.toArray⟩ : ByteArray)[k]'dU).toNat : Int)) != 35) = false := byte_is a2
                go_wp2
                go_quiet (fail)
                go_wp2
                go_roundw
                case rel => exact ⟨k + 1, by omega, by go_num, below_drewN hb _⟩
                case measure => simp [intOf]; omega
              · have c1 : (((((⟨V.toArray⟩ : ByteArray)[k]'dV).toNat : Int)) != 35) = false := byte_is a1
                have c3 : (((((⟨U.toArray⟩ : ByteArray)[k]'dU).toNat : Int)) != 35) = true := byte_not a2
                have c4 : (((((⟨U.toArray⟩ : ByteArray)[k]'dU).toNat : Int)) != ((((⟨S.toArray⟩ : ByteArray)[k]'dS).toNat : Int))) = false := byte_same (hs2.resolve_left a2)
                go_wp2
                go_quiet (fail)
                go_wp2
                go_roundw
                case rel => exact ⟨k + 1, by omega, by go_num, below_drewN hb _⟩
                case measure => simp [intOf]; omega
            · by_cases a2 : U[k] = 35
              · have c1 : (((((⟨V.toArray⟩ : ByteArray)[k]'dV).toNat : Int)) != 35) = true := byte_not a1
                have c2 : (((((⟨V.toArray⟩ : ByteArray)[k]'dV).toNat : Int)) != ((((⟨U.toArray⟩ : ByteArray)[k]'dU).toNat : Int))) = false := byte_same (hs1.resolve_left a1)
                have c3 : (((((⟨U.toArray⟩ : ByteArray)[k]'dU).toNat : Int)) != 35) = false := byte_is a2
                go_wp2
                go_quiet (fail)
                go_wp2
                go_roundw
                case rel => exact ⟨k + 1, by omega, by go_num, below_drewN hb _⟩
                case measure => simp [intOf]; omega
              · have c1 : (((((⟨V.toArray⟩ : ByteArray)[k]'dV).toNat : Int)) != 35) = true := byte_not a1
                have c2 : (((((⟨V.toArray⟩ : ByteArray)[k]'dV).toNat : Int)) != ((((⟨U.toArray⟩ : ByteArray)[k]'dU).toNat : Int))) = false := byte_same (hs1.resolve_left a1)
                have c3 : (((((⟨U.toArray⟩ : ByteArray)[k]'dU).toNat : Int)) != 35) = true := byte_not a2
                have c4 : (((((⟨U.toArray⟩ : ByteArray)[k]'dU).toNat : Int)) != ((((⟨S.toArray⟩ : ByteArray)[k]'dS).toNat : Int))) = false := byte_same (hs2.resolve_left a2)
                go_wp2
                go_quiet (fail)
                go_wp2
                go_roundw
                case rel => exact ⟨k + 1, by omega, by go_num, below_drewN hb _⟩
                case measure => simp [intOf]; omega
          · obtain rfl : k = S.length := by omega
            have BR := BW.trans (hb.mono (by omega))
            have XR := XW.out.below hb (by omega)
            have YR := YW.out.below hb (by omega)
            obtain ⟨y2, y3⟩ := txt_cells YR
            by_cases hlo : lowT S X l m y = true
            · have L1 := Lib.hid hlo
              have L2 := Lib.hid (lowT_down (x := x) hlo)
              clear hlo
              go_wp2_with (first
                | (go_at_call 31; refine (HS.out.low A A2 c d w.heap.size w.heap.size S X l m (x &&& y) w7 (by omega) (by omega) (HH.out.below B7) (HH2.out.below B7) hz).mono ?_; rw [L2.out]; rintro e w8 ⟨rfl, b8⟩; have z8 := b8.size; have B8 := B7.trans (b8.mono (by omega)); have X8 := X7.below b8 (by omega); have Y8 := Y7.below b8 (by omega))
                | (go_at_call 31; refine (HS.out.low A A2 c d w.heap.size w.heap.size S X l m y wr (by omega) (by omega) (HH.out.below BR) (HH2.out.below BR) hy).mono ?_; rw [L1.out]; rintro e w7 ⟨rfl, b7⟩; have z7 := b7.size; have B7 := BR.trans (b7.mono (by omega)); have X7 := XR.below b7 (by omega); have Y7 := YR.below b7 (by omega); clear y0 y1 y2 y3; obtain ⟨y0, y1⟩ := txt_cells X7; obtain ⟨y2, y3⟩ := txt_cells Y7))
              go_ret
              exact ⟨rfl, B8⟩
            · have L1 : Hid (lowT S X l m y = false) := Lib.hid (by simpa using hlo)
              clear hlo
              go_wp2_with (go_at_call 31; refine (HS.out.low A A2 c d w.heap.size w.heap.size S X l m y wr (by omega) (by omega) (HH.out.below BR) (HH2.out.below BR) hy).mono ?_; rw [L1.out]; rintro e w7 ⟨rfl, b7⟩; have z7 := b7.size; have B7 := BR.trans (b7.mono (by omega)); have X7 := XR.below b7 (by omega); have Y7 := YR.below b7 (by omega))
              go_ret
              exact ⟨rfl, B7⟩
      · have HV : Hid (viewOf S l (x &&& y) = ([], 2)) := Lib.hid (by unfold viewOf; rw [if_neg hg])
        have HU : Hid (viewOf S l y = ([], 2)) := Lib.hid (by unfold viewOf; rw [if_neg hg])
        have L1 : Hid (lowT S X l m y = false) := Lib.hid (decide_eq_false (fun h => hg h.1))
        clear hg
        go_enter Try.func9, Try.ntmps9
        go_wp2_with (first
          | (go_at_call 12; refine (strAlive_any HS.out _).mono ?_; rintro e w1 ⟨rfl, b1⟩; have z1 : w.heap.size + 3 ≤ w1.heap.size := by {have := b1.size; rw [Q.out.2.1] at this; exact this}; have B1 := Q.out.1.trans (b1.mono (by rw [Q.out.2.1]; omega)); have X1 := Lib.hid (Q.out.2.2.1.below b1 (by rw [Q.out.2.1]; omega)); have Y1 := Lib.hid (Q.out.2.2.2.1.below b1 (by rw [Q.out.2.1]; omega)); have Z1 := Lib.hid (Q.out.2.2.2.2.below b1 (by rw [Q.out.2.1]; omega)); obtain ⟨y0, y1⟩ := txt_cells X1.out; clear b1)
          | (go_at_call_of 13 l; refine (lawFits_any S HH.out.hS l HH.out.hl A c w1).mono ?_; rw [decide_eq_true hfit]; rintro e w2 ⟨rfl, b2⟩; have z2 := b2.size; have B2 := B1.trans (b2.mono (by omega)); have X2 := Lib.hid (X1.out.below b2 (by omega)); have Y2 := Lib.hid (Y1.out.below b2 (by omega)); have Z2 := Lib.hid (Z1.out.below b2 (by omega)); clear y0 y1 b2; obtain ⟨y2, y3⟩ := txt_cells Y2.out)
          | (go_at_call_of 13 m; refine (lawFits_any X HH2.out.hS m HH2.out.hl A2 d w2).mono ?_; rw [decide_eq_true hfit2]; rintro e w3 ⟨rfl, b3⟩; have z3 := b3.size; have B3 := B2.trans (b3.mono (by omega)); have X3 := Lib.hid (X2.out.below b3 (by omega)); have Y3 := Lib.hid (Y2.out.below b3 (by omega)); have Z3 := Lib.hid (Z2.out.below b3 (by omega)); clear y2 y3 b3; obtain ⟨y4, y5⟩ := txt_cells Z3.out))
        go_quiet (fail)
        have DB : Below w3.heap.size w3 (w3.drewN nq) := below_drewN (Below.refl _ _) _
        generalize w3.drewN nq = w4 at *
        have z4 := DB.size
        have B4 := B3.trans (DB.mono (by omega))
        have X4 := Lib.hid (X3.out.below DB (by omega))
        have Y4 := Lib.hid (Y3.out.below DB (by omega))
        clear y4 y5 DB
        obtain ⟨y0, y1⟩ := txt_cells X4.out
        go_wp2_with fail
        rw [u64_and_nat x y hx hy]
        refine (HS.out.view A c w.heap.size S l (x &&& y) w4 (by omega) (HH.out.below B4) hz).mono ?_
        rw [HV.out]
        rintro e w5 ⟨rfl, b5⟩
        dsimp only
        have z5 := b5.size
        have B5 := B4.trans (b5.mono (by omega))
        have X5 := Lib.hid (X4.out.below b5 (by omega))
        have Y5 := Lib.hid (Y4.out.below b5 (by omega))
        clear y0 y1 b5
        obtain ⟨y0, y1⟩ := txt_cells X5.out
        go_wp2_with fail
        refine (HS.out.view A c w.heap.size S l y w5 (by omega) (HH.out.below B5) hy).mono ?_
        rw [HU.out]
        rintro e W ⟨rfl, b6⟩
        dsimp only
        have zW := b6.size
        have BW := B5.trans (b6.mono (by omega))
        have XW := Lib.hid (X5.out.below b6 (by omega))
        have YW := Lib.hid (Y5.out.below b6 (by omega))
        clear y0 y1 b6
        obtain ⟨y0, y1⟩ := txt_cells XW.out
        go_wp2_with fail
        go_loopw [13] (fun i wr => i = .int .i64 0 ∧ Below W.heap.size W wr) (fun _ _ => 0)
        case atStart => exact ⟨rfl, Below.refl _ _⟩
        case round =>
          obtain ⟨rfl, hb⟩ := hrel
          have zr := hb.size
          obtain ⟨y0, y1⟩ := txt_cells (XW.out.below hb (by omega))
          have BR := BW.trans (hb.mono (by omega))
          have XR := XW.out.below hb (by omega)
          have YR := YW.out.below hb (by omega)
          obtain ⟨y2, y3⟩ := txt_cells YR
          go_wp2_with (go_at_call 31; refine (HS.out.low A A2 c d w.heap.size w.heap.size S X l m y wr (by omega) (by omega) (HH.out.below BR) (HH2.out.below BR) hy).mono ?_; rw [L1.out]; rintro e w7 ⟨rfl, b7⟩; have z7 := b7.size; have B7 := BR.trans (b7.mono (by omega)); have X7 := XR.below b7 (by omega); have Y7 := YR.below b7 (by omega))
          go_ret
          exact ⟨rfl, B7⟩
    · go_enter Try.func9, Try.ntmps9
      go_wp2_with (first
        | (go_at_call 12; refine (strAlive_any HS.out _).mono ?_; rintro e w1 ⟨rfl, b1⟩; have z1 : w.heap.size + 3 ≤ w1.heap.size := by {have := b1.size; rw [Q.out.2.1] at this; exact this}; have B1 := Q.out.1.trans (b1.mono (by rw [Q.out.2.1]; omega)); have X1 := Lib.hid (Q.out.2.2.1.below b1 (by rw [Q.out.2.1]; omega)); have Y1 := Lib.hid (Q.out.2.2.2.1.below b1 (by rw [Q.out.2.1]; omega)); have Z1 := Lib.hid (Q.out.2.2.2.2.below b1 (by rw [Q.out.2.1]; omega)); obtain ⟨y0, y1⟩ := txt_cells X1.out; clear b1)
        | (go_at_call_of 13 l; refine (lawFits_any S HH.out.hS l HH.out.hl A c w1).mono ?_; rw [decide_eq_true hfit]; rintro e w2 ⟨rfl, b2⟩; have z2 := b2.size; have B2 := B1.trans (b2.mono (by omega)); have X2 := Lib.hid (X1.out.below b2 (by omega)); have Y2 := Lib.hid (Y1.out.below b2 (by omega)); have Z2 := Lib.hid (Z1.out.below b2 (by omega)); clear y0 y1 b2; obtain ⟨y2, y3⟩ := txt_cells Y2.out)
        | (go_at_call_of 13 m; refine (lawFits_any X HH2.out.hS m HH2.out.hl A2 d w2).mono ?_; rw [decide_eq_false hfit2]; rintro e w3 ⟨rfl, b3⟩; have z3 := b3.size; have B3 := B2.trans (b3.mono (by omega)); have X3 := Lib.hid (X2.out.below b3 (by omega)); have Y3 := Lib.hid (Y2.out.below b3 (by omega)); have Z3 := Lib.hid (Z2.out.below b3 (by omega)); clear y2 y3 b3; obtain ⟨y4, y5⟩ := txt_cells Z3.out))
      go_ret
      exact ⟨rfl, B3⟩
  · go_enter Try.func9, Try.ntmps9
    go_wp2_with (first
      | (go_at_call 12; refine (strAlive_any HS.out _).mono ?_; rintro e w1 ⟨rfl, b1⟩; have z1 : w.heap.size + 3 ≤ w1.heap.size := by {have := b1.size; rw [Q.out.2.1] at this; exact this}; have B1 := Q.out.1.trans (b1.mono (by rw [Q.out.2.1]; omega)); have X1 := Lib.hid (Q.out.2.2.1.below b1 (by rw [Q.out.2.1]; omega)); have Y1 := Lib.hid (Q.out.2.2.2.1.below b1 (by rw [Q.out.2.1]; omega)); have Z1 := Lib.hid (Q.out.2.2.2.2.below b1 (by rw [Q.out.2.1]; omega)); obtain ⟨y0, y1⟩ := txt_cells X1.out; clear b1)
      | (go_at_call_of 13 l; refine (lawFits_any S HH.out.hS l HH.out.hl A c w1).mono ?_; rw [decide_eq_false hfit]; rintro e w2 ⟨rfl, b2⟩; have z2 := b2.size; have B2 := B1.trans (b2.mono (by omega)); have X2 := Lib.hid (X1.out.below b2 (by omega)); have Y2 := Lib.hid (Y1.out.below b2 (by omega)); have Z2 := Lib.hid (Z1.out.below b2 (by omega)); clear y0 y1 b2; obtain ⟨y2, y3⟩ := txt_cells Y2.out))
    go_ret
    exact ⟨rfl, B2⟩
end Go.Proofs.Ytliapookpefgiaa
