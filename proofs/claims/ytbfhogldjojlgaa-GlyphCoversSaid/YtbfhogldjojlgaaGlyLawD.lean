/-
  The walk of a statement of layer 2, from what package glyph's functions answer: GlyphCovers.
-/
import Derived.Test.YtbfhogldjojlgaaGlyMath
namespace Go.Proofs.Ytbfhogldjojlgaa
open Go.RowKit

set_option maxRecDepth 100000 in
set_option maxHeartbeats 4000000 in
theorem glyphCovers_walk (G : GlySays) (w : World) (S : List UInt8) (hS : S.length ≤ maxLen) :
    Calls Try.prog 6 #[.string ⟨S.toArray⟩] w fun e w' => e = .returned (.bool true) ∧ Below w.heap.size w w' := by
  have HG := Lib.hid G
  clear G
  by_cases hmost : 4096 < S.length
  · go_enter Try.func6, Try.ntmps6
    go_wp2_with (go_at_call 9; refine (glyAlive_any HG.out _).mono ?_; rintro e w1 ⟨rfl, hb1⟩)
    go_ret
    exact ⟨rfl, hb1⟩
  · have hs : S.length ≤ 1000000 := by omega
    have hcl := chars_len S
    have HL : Hid ((startsAt 0 (chars S)).length = (chars S).length) := startsAt_len _ _
    have HW := Lib.hid (width_chars S)
    go_enter Try.func6, Try.ntmps6
    go_wp2_with fail
    refine (glyAlive_any HG.out _).mono ?_
    rintro e w1 ⟨rfl, hb1⟩
    have z1 := hb1.size
    go_wp2_with fail
    refine (HG.out.starts S _ hs).mono ?_
    rintro e w2 ⟨A, c, rfl, hown, hb2⟩
    have hrow := Row.of_own hown
    clear hown
    rw [HL.out]
    have hB2 := hb1.trans (hb2.mono z1)
    go_wp2_with fail
    go_loopw [3, 17] (fun a i wr => ∃ k : Nat, k ≤ (chars S).length ∧ i = .int .i64 k ∧ a = .int .i64 (width ((chars S).take k) : Nat) ∧ Below w2.heap.size w2 wr) (fun _ i _ => (chars S).length - (intOf i).toNat)
    case atStart => exact ⟨0, Nat.zero_le _, rfl, rfl, Below.refl _ _⟩
    case round =>
      obtain ⟨k, hk, rfl, rfl, hb⟩ := hrel
      have z := hb.size
      have hwb := width_le_take (chars S) k
      rw [HW.out] at hwb
      by_cases hlt : k < (chars S).length
      · obtain ⟨ad, rfl, hbl, hcell⟩ := (hrow.below hb).map_at (k := k) (by rw [HL.out]; exact hlt)
        rw [startsAt_get _ k hlt] at hcell
        unfold intn at hcell
        have HGD : Hid ((chars S).getD k (0, 0) = (chars S)[k]) := by show List.getD _ _ _ = _; simp [List.getD, hlt]
        have hbd := chars_bound S _ (List.getElem_mem hlt)
        obtain ⟨hx1, hx2, hx3⟩ := hbd
        have hws := width_succ (chars S) k hlt
        have hwb1 := width_le_take (chars S) (k + 1)
        rw [HW.out] at hwb1
        have hbr : (chars S)[k].1 = 0xFFFD → (chars S)[k].2 = 1 ∨ (chars S)[k].2 = 3 := fun h => by
          obtain ⟨u, hu, e⟩ := chars_dec S _ (List.getElem_mem hlt)
          rw [e] at h ⊢
          exact broken_rune u hu h
        have HIN : Hid (∀ p : Int, ((width ((chars S).take k) : Nat) : Int) ≤ p → p < ((width ((chars S).take k) : Nat) : Int) + ((chars S)[k].2 : Int) → Which (chars S) p k) :=
          fun p h1 h2 => which_in hlt h1 (by rw [hws]; omega)
        have HWS := Lib.hid hws
        have hpr : 0 < k → ((width ((chars S).take (k - 1)) : Nat) : Int) < ((width ((chars S).take k) : Nat) : Int) := fun h => by
          have h1 := width_succ (chars S) (k - 1) (by omega)
          rw [show k - 1 + 1 = k by omega] at h1
          have h2 := (chars_bound S _ (List.getElem_mem (show k - 1 < (chars S).length by omega))).2.1
          omega
        have HPR := Lib.hid hpr
        have HBR := Lib.hid hbr
        rw [hws] at hwb1
        clear hws hpr hbr
        generalize (chars S)[k] = x at *
        obtain ⟨r, n⟩ := x
        have HGD2 : Hid ((chars S).getD k (0, 0) = (r, n)) := HGD
        have HIN2 : Hid (∀ p : Int, ((width ((chars S).take k) : Nat) : Int) ≤ p → p < ((width ((chars S).take k) : Nat) : Int) + (n : Int) → Which (chars S) p k) := HIN
        have HWS2 : Hid (width ((chars S).take (k + 1)) = width ((chars S).take k) + n) := HWS
        have HN13 : Hid (r = 65533 → n = 1 ∨ n = 3) := HBR
        have hy1 : r ≤ 1114111 := hx1
        have hy2 : 1 ≤ n := hx2
        have hy3 : n ≤ 4 := hx3
        have hy4 : width ((chars S).take k) + n ≤ S.length := hwb1
        clear HGD HIN HWS HBR hx1 hx2 hx3 hwb1
        go_wp2_with fail
        refine (HG.out.at_ S _ _ hs).mono ?_
        rintro e w3 ⟨j, rfl, hj, hb3⟩
        obtain rfl := hj.unique (HIN2.out _ (Int.le_refl _) (by omega))
        clear hj
        rw [HGD2.out]
        have z3 := hb3.size
        go_wp2_with fail
        refine (HG.out.next S _ _ hs).mono ?_
        rintro e w4 ⟨j', rfl, hj, hb4⟩
        obtain rfl := hj.unique (HIN2.out _ (Int.le_refl _) (by omega))
        clear hj
        rw [HWS2.out]
        have z4 := hb4.size
        have hB4 := (hb.trans (hb3.mono z)).trans (hb4.mono (by omega))
        clear hb hb3 hb4
        generalize hWk : width ((chars S).take j') = W at *
        have HWk := Lib.hid hWk
        clear hWk
        have hcase : ((r : Int) == 65533) = false ∨ (r = 65533 ∧ n = 1) ∨ (r = 65533 ∧ n = 3) := by
          by_cases h1 : r = 65533
          · rcases HN13.out h1 with h2 | h2
            · exact .inr (.inl ⟨h1, h2⟩)
            · exact .inr (.inr ⟨h1, h2⟩)
          · left; simp; omega
        clear HN13
        by_cases hk0 : 0 < j'
        · rcases hcase with h1 | ⟨rfl, rfl⟩ | ⟨rfl, rfl⟩
          · go_wp2_with fail
            refine (HG.out.prev S _ _ hs).mono ?_
            rintro e w5 ⟨j2, rfl, hj, hb5⟩
            obtain rfl : j2 = j' := hj.unique (HIN2.out _ (Int.le_refl _) (by omega))
            clear hj
            have hpv := HPR.out hk0
            have z5 := hb5.size
            have hB5 := hB4.trans (hb5.mono (by have := hB4.size; omega))
            generalize width ((chars S).take (j2 - 1)) = V at *
            have hpv2 : ¬ W ≤ V := by omega
            have hpv3 : decide (W ≤ V) = false := by simp; omega
            have hpv4 : decide ((W : Int) ≤ (V : Int)) = false := by simp; omega
            clear hpv
            go_wp2_with fail
            go_loopw [8] (fun q wr => ∃ m : Nat, W ≤ m ∧ m ≤ W + n ∧ q = .int .i64 m ∧ Below w2.heap.size w2 wr) (fun q _ => W + n - (intOf q).toNat)
            case atStart => exact ⟨W, Nat.le_refl _, by omega, rfl, hB5⟩
            case round =>
              obtain ⟨m, hm1, hm2, rfl, hb⟩ := hrel
              by_cases hmlt : m < W + n
              · go_wp2_with fail
                refine (HG.out.align S _ _ hs).mono ?_
                rintro e w6 ⟨i6, rfl, hj, hb6⟩
                obtain rfl : i6 = j2 := hj.unique (HIN2.out _ (by omega) (by omega))
                clear hj
                rw [HWk.out]
                go_wp2_with fail
                go_roundw
                case rel => exact ⟨m + 1, by omega, by omega, by go_num, hb.trans (hb6.mono hb.size)⟩
                case measure => simp [intOf]; omega
              · go_wp2_with fail
                go_roundw
                case rel => exact ⟨j2 + 1, by omega, by go_num, by rw [HWS2.out]; go_num, hb⟩
                case measure => simp [intOf]; omega
          · go_wp2_with fail
            refine (HG.out.prev S _ _ hs).mono ?_
            rintro e w5 ⟨j2, rfl, hj, hb5⟩
            obtain rfl : j2 = j' := hj.unique (HIN2.out _ (Int.le_refl _) (by omega))
            clear hj
            have hpv := HPR.out hk0
            have z5 := hb5.size
            have hB5 := hB4.trans (hb5.mono (by have := hB4.size; omega))
            generalize width ((chars S).take (j2 - 1)) = V at *
            have hpv2 : ¬ W ≤ V := by omega
            have hpv3 : decide (W ≤ V) = false := by simp; omega
            have hpv4 : decide ((W : Int) ≤ (V : Int)) = false := by simp; omega
            clear hpv
            go_wp2_with fail
            go_loopw [8] (fun q wr => ∃ m : Nat, W ≤ m ∧ m ≤ W + 1 ∧ q = .int .i64 m ∧ Below w2.heap.size w2 wr) (fun q _ => W + 1 - (intOf q).toNat)
            case atStart => exact ⟨W, Nat.le_refl _, by omega, rfl, hB5⟩
            case round =>
              obtain ⟨m, hm1, hm2, rfl, hb⟩ := hrel
              by_cases hmlt : m < W + 1
              · go_wp2_with fail
                refine (HG.out.align S _ _ hs).mono ?_
                rintro e w6 ⟨i6, rfl, hj, hb6⟩
                obtain rfl : i6 = j2 := hj.unique (HIN2.out _ (by omega) (by omega))
                clear hj
                rw [HWk.out]
                go_wp2_with fail
                go_roundw
                case rel => exact ⟨m + 1, by omega, by omega, by go_num, hb.trans (hb6.mono hb.size)⟩
                case measure => simp [intOf]; omega
              · go_wp2_with fail
                go_roundw
                case rel => exact ⟨j2 + 1, by omega, by go_num, by rw [HWS2.out]; go_num, hb⟩
                case measure => simp [intOf]; omega
          · go_wp2_with fail
            refine (HG.out.prev S _ _ hs).mono ?_
            rintro e w5 ⟨j2, rfl, hj, hb5⟩
            obtain rfl : j2 = j' := hj.unique (HIN2.out _ (Int.le_refl _) (by omega))
            clear hj
            have hpv := HPR.out hk0
            have z5 := hb5.size
            have hB5 := hB4.trans (hb5.mono (by have := hB4.size; omega))
            generalize width ((chars S).take (j2 - 1)) = V at *
            have hpv2 : ¬ W ≤ V := by omega
            have hpv3 : decide (W ≤ V) = false := by simp; omega
            have hpv4 : decide ((W : Int) ≤ (V : Int)) = false := by simp; omega
            clear hpv
            go_wp2_with fail
            go_loopw [8] (fun q wr => ∃ m : Nat, W ≤ m ∧ m ≤ W + 3 ∧ q = .int .i64 m ∧ Below w2.heap.size w2 wr) (fun q _ => W + 3 - (intOf q).toNat)
            case atStart => exact ⟨W, Nat.le_refl _, by omega, rfl, hB5⟩
            case round =>
              obtain ⟨m, hm1, hm2, rfl, hb⟩ := hrel
              by_cases hmlt : m < W + 3
              · go_wp2_with fail
                refine (HG.out.align S _ _ hs).mono ?_
                rintro e w6 ⟨i6, rfl, hj, hb6⟩
                obtain rfl : i6 = j2 := hj.unique (HIN2.out _ (by omega) (by omega))
                clear hj
                rw [HWk.out]
                go_wp2_with fail
                go_roundw
                case rel => exact ⟨m + 1, by omega, by omega, by go_num, hb.trans (hb6.mono hb.size)⟩
                case measure => simp [intOf]; omega
              · go_wp2_with fail
                go_roundw
                case rel => exact ⟨j2 + 1, by omega, by go_num, by rw [HWS2.out]; go_num, hb⟩
                case measure => simp [intOf]; omega
        · obtain rfl : j' = 0 := by omega
          clear hk0
          rcases hcase with h1 | ⟨rfl, rfl⟩ | ⟨rfl, rfl⟩
          · go_wp2_with fail
            go_loopw [8] (fun q wr => ∃ m : Nat, W ≤ m ∧ m ≤ W + n ∧ q = .int .i64 m ∧ Below w2.heap.size w2 wr) (fun q _ => W + n - (intOf q).toNat)
            case atStart => exact ⟨W, Nat.le_refl _, by omega, rfl, hB4⟩
            case round =>
              obtain ⟨m, hm1, hm2, rfl, hb⟩ := hrel
              by_cases hmlt : m < W + n
              · go_wp2_with fail
                refine (HG.out.align S _ _ hs).mono ?_
                rintro e w6 ⟨i6, rfl, hj, hb6⟩
                obtain rfl : i6 = 0 := hj.unique (HIN2.out _ (by omega) (by omega))
                clear hj
                rw [HWk.out]
                go_wp2_with fail
                go_roundw
                case rel => exact ⟨m + 1, by omega, by omega, by go_num, hb.trans (hb6.mono hb.size)⟩
                case measure => simp [intOf]; omega
              · go_wp2_with fail
                go_roundw
                case rel => exact ⟨0 + 1, by omega, by go_num, by rw [HWS2.out]; go_num, hb⟩
                case measure => simp [intOf]; omega
          · go_wp2_with fail
            go_loopw [8] (fun q wr => ∃ m : Nat, W ≤ m ∧ m ≤ W + 1 ∧ q = .int .i64 m ∧ Below w2.heap.size w2 wr) (fun q _ => W + 1 - (intOf q).toNat)
            case atStart => exact ⟨W, Nat.le_refl _, by omega, rfl, hB4⟩
            case round =>
              obtain ⟨m, hm1, hm2, rfl, hb⟩ := hrel
              by_cases hmlt : m < W + 1
              · go_wp2_with fail
                refine (HG.out.align S _ _ hs).mono ?_
                rintro e w6 ⟨i6, rfl, hj, hb6⟩
                obtain rfl : i6 = 0 := hj.unique (HIN2.out _ (by omega) (by omega))
                clear hj
                rw [HWk.out]
                go_wp2_with fail
                go_roundw
                case rel => exact ⟨m + 1, by omega, by omega, by go_num, hb.trans (hb6.mono hb.size)⟩
                case measure => simp [intOf]; omega
              · go_wp2_with fail
                go_roundw
                case rel => exact ⟨0 + 1, by omega, by go_num, by rw [HWS2.out]; go_num, hb⟩
                case measure => simp [intOf]; omega
          · go_wp2_with fail
            go_loopw [8] (fun q wr => ∃ m : Nat, W ≤ m ∧ m ≤ W + 3 ∧ q = .int .i64 m ∧ Below w2.heap.size w2 wr) (fun q _ => W + 3 - (intOf q).toNat)
            case atStart => exact ⟨W, Nat.le_refl _, by omega, rfl, hB4⟩
            case round =>
              obtain ⟨m, hm1, hm2, rfl, hb⟩ := hrel
              by_cases hmlt : m < W + 3
              · go_wp2_with fail
                refine (HG.out.align S _ _ hs).mono ?_
                rintro e w6 ⟨i6, rfl, hj, hb6⟩
                obtain rfl : i6 = 0 := hj.unique (HIN2.out _ (by omega) (by omega))
                clear hj
                rw [HWk.out]
                go_wp2_with fail
                go_roundw
                case rel => exact ⟨m + 1, by omega, by omega, by go_num, hb.trans (hb6.mono hb.size)⟩
                case measure => simp [intOf]; omega
              · go_wp2_with fail
                go_roundw
                case rel => exact ⟨0 + 1, by omega, by go_num, by rw [HWS2.out]; go_num, hb⟩
                case measure => simp [intOf]; omega
      · obtain rfl : k = (chars S).length := by omega
        rw [List.take_length, HW.out]
        go_wp2_with fail
        go_ret
        exact ⟨rfl, hB2.trans (hb.mono hB2.size)⟩
end Go.Proofs.Ytbfhogldjojlgaa
