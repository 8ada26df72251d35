/-
  f and F lead to a sign that was looked for: layer 12.
-/
import Derived.Test.YtckikigjleckeaaMvLawA
import Derived.Test.YtckikigjleckeaaM12p
namespace Go.Proofs.Ytckikigjleckeaa
open Go.RowKit

theorem refMAt (S : List UInt8) (hs : S.length ≤ 1000000) (j : Nat) (hj : j ≤ (chars S).length) (w : World) : Calls Try.prog 13 #[.string ⟨S.toArray⟩, .int .i64 (atM S j : Nat)] w fun e w' => e = .returned (.tuple #[.int .i64 (((chars S).getD j (0, 0)).1 : Nat), .int .i64 (((chars S).getD j (0, 0)).2 : Nat)]) ∧ Below w.heap.size w w' :=
  (refAt_any S hs (atM S j : Nat) w).mono fun e w' ⟨i, he, hi, hb⟩ => ⟨by rw [he, hi.unique (which_self hj)], hb⟩
theorem atM_zero (S : List UInt8) : atM S 0 = 0 := by simp [atM, width]
theorem atM_step {S : List UInt8} {j : Nat} (h : j < (chars S).length) : atM S j < atM S (j + 1) := (atM_lt (by omega) (by omega)).2 (by omega)
theorem sign_wide {S : List UInt8} {i : Nat} (h : i < (chars S).length) : 1 ≤ ((chars S).getD i (0, 0)).2 := by
  rw [List.getD_eq_getElem?_getD, List.getElem?_eq_getElem h]
  exact chars_wide (S := S) _ (List.getElem_mem h)
set_option maxHeartbeats 8000000 in
theorem moveFinds_walk (w : World) (KS : MoveSays w) (S : List UInt8) (hS : S.length ≤ maxLen) (p : Int) (hp : -9223372036854775808 ≤ p ∧ p ≤ 9223372036854775807) (k g c : Int) (hk : -2147483648 ≤ k ∧ k ≤ 2147483647) (hg : -2147483648 ≤ g ∧ g ≤ 2147483647) (hc : -9223372036854775808 ≤ c ∧ c ≤ 9223372036854775807) :
    Calls Try.prog 6 #[.string ⟨S.toArray⟩, .int .i64 p, .agg #[.int .i32 k, .int .i32 g, .int .i64 c]] w fun e w' => e = .returned (.bool true) ∧ Below w.heap.size w w' := by
  have HK := Lib.hid KS
  have hS' := hS
  unfold maxLen at hS'
  clear KS
  obtain ⟨w0, g0, e0, eg, k0, b0, hl0⟩ := boxed w 23 #[.int .i32 k, .int .i32 g, .int .i64 c]
  have hg0 : w.heap.size ≤ g0 := Nat.le_of_eq eg.symm
  go_enter Try.func6, Try.ntmps6
  go_upto_region 1 with fail
  rw [← e0, ← eg]
  clear e0 eg
  go_upto_region 3 with (go_at_call 9; refine (aliveM_any _ (HK.out.at b0)).mono ?_; rintro e w1 ⟨rfl, b1⟩)
  have k1 := k0.below b1 hl0
  have hl1 := Nat.lt_of_lt_of_le hl0 b1.size
  have b1' := b0.trans (b1.mono b0.size)
  clear b1 k0 hl0 b0
  by_cases hl : (1024 : Int) < (S.length : Int)
  · go_wp2_with fail
    go_ret
    exact ⟨rfl, b1'⟩
  have hale := alignM_le S p
  have hnb := many_pos c
  have HN := Lib.hid (manyM_if c)
  obtain ⟨q0, q1, q2⟩ := cells3 k1
  have fz := k1.frozen 0
  by_cases h70 : k = 70
  · subst h70
    have k2 := k1
    have b2 := b1'
    have hl2 := hl1
    go_upto_region 7 with fail
    clear q0 q1 q2 fz k1 b1' hl1
    have HT : Hid (∀ wz, Below w.heap.size w wz → Calls Try.prog 10 #[.string ⟨S.toArray⟩, .int .i64 p, .agg #[.int .i32 70, .int .i32 g, .int .i64 c]] wz (GivesIIB wz (toM S p 70 g c))) := fun wz hb => HK.out.to_ S p 70 g c wz hb (by omega) hp (by decide) hg hc
    have HF := Lib.hid (fun x kd h => found_F (S := S) (p := p) (r := g) (c := c) (x := x) (k := kd) h)
    generalize manyM c = n at *
    generalize hal : alignM S p = a at *
    have HAL := Lib.hid hal
    clear hal
    generalize hr : toM S p 70 g c = r at *
    clear hr
    go_upto_region 9 with (first
      | (go_at_call 12; refine (refMAlign S (by omega) p _).mono ?_; rw [HAL.out]; rintro e w3 ⟨rfl, b3⟩; have k3 := k2.below b3 hl2; have hl3 := Nat.lt_of_lt_of_le hl2 b3.size; replace b3 := b2.trans (b3.mono b2.size))
      | ((with_reducible refine at_load 23 _ ?_); refine wpList_load_row rfl 23 _ rfl g0 rfl _ #[.int .i32 70, .int .i32 g, .int .i64 c] (0, 0) _ k3 Try.underlying23 rfl motion_size ?_)
      | (go_at_call 10; refine (HT.out _ b3).mono ?_; rintro e w4 ⟨rfl, b4⟩; have k4 := k3.below b4 hl3; have hl4 := Nat.lt_of_lt_of_le hl3 b4.size; replace b4 := b3.trans (b4.mono b3.size)))
    clear k3 hl3 b3 k2 hl2 b2 HT
    rcases r with _ | ⟨x, kd⟩
    · have z0 := atM_zero S
      have HA0 : Hid (∀ wz, Calls Try.prog 13 #[.string ⟨S.toArray⟩, .int .i64 0] wz fun e w' => e = .returned (.tuple #[.int .i64 (((chars S).getD 0 (0, 0)).1 : Nat), .int .i64 (((chars S).getD 0 (0, 0)).2 : Nat)]) ∧ Below wz.heap.size wz w') := fun wz => by
        have := refMAt S (by omega) 0 (Nat.zero_le _) wz
        rwa [z0] at this
      go_wp2_with (go_at_call 13; refine (HA0.out _).mono ?_; rintro e w5 ⟨rfl, b5⟩)
      go_ret
      exact ⟨rfl, b4.trans (b5.mono b4.size)⟩
    · obtain ⟨⟨lo, hi, hlh, hhi, hbt, hpl, ⟨i, hi1, hi2, hi3⟩, hof⟩, _, hax⟩ := HF.out x kd rfl
      rw [if_neg (by decide), HAL.out] at hpl
      rw [HAL.out] at hof
      have hw1 := sign_wide hi1
      have HQ := Lib.hid hof
      have HBT := Lib.hid hbt
      have HI2 := Lib.hid hi2
      have HI3 := Lib.hid hi3
      have hax' : (x : Int) < (a : Int) := by omega
      have hax2 : ¬ ((a : Int) < (x : Int)) := by omega
      have hxle : x ≤ S.length := by
        have := width_le_take (chars S) i
        rw [width_chars] at this
        have : atM S i = x := hi2
        unfold atM at this
        omega
      have HP := Lib.hid hpl
      obtain ⟨ri, hri⟩ : ∃ y, (chars S).getD i (0, 0) = y := ⟨_, rfl⟩
      have HRI := Lib.hid hri
      rw [hri] at hw1 HI3
      have ew0 : ((ri.2 : Int) == 0) = false := by rw [beq_eq_false_iff_ne]; omega
      have er : ((ri.1 : Int) != g) = false := by have := HI3.out; simp [this]
      have eg : (ri.1 : Int) = g := HI3.out
      obtain ⟨q, hq⟩ : ∃ q, ofL S (a : Nat) = q := ⟨_, rfl⟩
      rw [hq] at HQ
      have HQA := Lib.hid hq
      have eq2 : ((q : Int) != (q : Int)) = false := by simp
      clear HF HAL hof hbt hi2 hi3 hpl hri hq eg
      have HAT : Hid (∀ wz, Calls Try.prog 13 #[.string ⟨S.toArray⟩, .int .i64 (x : Nat)] wz fun e w' => e = .returned (.tuple #[.int .i64 (ri.1 : Nat), .int .i64 (ri.2 : Nat)]) ∧ Below wz.heap.size wz w') := fun wz => by
        have := refMAt S (by omega) i (by omega) wz
        rwa [HI2.out, HRI.out] at this
      go_upto_region 12 with (go_at_call 13; refine (HAT.out _).mono ?_; rintro e w5 ⟨rfl, b5⟩)
      have k5 := k4.below b5 hl4
      have hl5 := Nat.lt_of_lt_of_le hl4 b5.size
      have b5' := b4.trans (b5.mono b4.size)
      obtain ⟨v0, v1, v2⟩ := cells3 k5
      have KC : Hid (∀ wx, Below w5.heap.size w5 wx → wx.cell? ⟨g0, 0, none⟩ = some (.int .i32 70) ∧ wx.cell? ⟨g0, 1, none⟩ = some (.int .i32 g) ∧ Blk wx g0 23 #[.int .i32 70, .int .i32 g, .int .i64 c]) := fun wx hb => ⟨(cells3 (k5.below hb hl5)).1, (cells3 (k5.below hb hl5)).2.1, k5.below hb hl5⟩
      clear b5 k4 hl4 b4
      go_upto_region 14 with (first
        | (go_at_call 14; refine use_factM b6 ?_; intro _; refine (refOf_any S (by omega) (a : Nat) _).mono ?_; rw [HQA.out]; rintro e w7 ⟨rfl, b7⟩; replace b7 := b6.trans (b7.mono b6.size); have v0' := (KC.out _ b7).1)
        | (go_at_call 14; refine (refOf_any S (by omega) (x : Nat) _).mono ?_; rw [HQ.out]; rintro e w6 ⟨rfl, b6⟩))
      have b7' : Below w5.heap.size w5 w7 := b7
      clear b6 v0' v0 v1 v2
      have hlol : lo ≤ (chars S).length := by omega
      have HNX : Hid (nextM S (x : Nat) = atM S (lo + 1)) := by
        show _ = _
        have := HP.out.1
        rw [← this]
        exact nextM_atM hlol
      have hmx : atM S hi = a := HP.out.2
      have hbl : ∀ j, betw S g lo j ≤ j := fun j => by
        unfold betw
        have := List.length_filter_le (runeQ S g lo) (List.range j)
        rwa [List.length_range] at this
      have hcl := chars_len S
      go_wp2_with (go_at_call 15; refine (refMNext S (by omega) (x : Nat) _).mono ?_; rw [HNX.out]; rintro e w8 ⟨rfl, b8⟩)
      have b8' := b7'.trans (b8.mono b7'.size)
      clear b8 b7 b7'
      go_loopw [13, 14] (fun bt y wr => ∃ j : Nat, lo < j ∧ j ≤ hi ∧ bt = .int .i64 ((betw S g lo j + 1 : Nat) : Int) ∧ y = .int .i64 (atM S j : Nat) ∧ Below w5.heap.size w5 wr) (fun _ y _ => atM S hi - (intOf y).toNat)
      case atStart => exact ⟨lo + 1, by omega, by omega, by rw [betw_start]; rfl, rfl, b8'⟩
      case round =>
        clear b8'
        obtain ⟨j, hj1, hj2, rfl, rfl, hb⟩ := hrel
        have hbj := hbl j
        obtain ⟨u0, u1, ub⟩ := KC.out _ hb
        by_cases hjh : j < hi
        · have hlj : atM S j < a := by rw [← hmx]; exact (atM_lt (by omega) hhi).2 hjh
          have hlj' : (atM S j : Int) < (a : Int) := by omega
          have hst := atM_step (S := S) (j := j) (by omega)
          have hle2 : atM S (j + 1) ≤ atM S hi := by
            rcases Nat.lt_or_ge (j + 1) hi with h' | h'
            · exact Nat.le_of_lt ((atM_lt (by omega) hhi).2 h')
            · obtain rfl : j + 1 = hi := by omega
              exact Nat.le_refl _
          obtain ⟨rj, hrj⟩ : ∃ y, (chars S).getD j (0, 0) = y := ⟨_, rfl⟩
          have HAJ : Hid (∀ wz, Calls Try.prog 13 #[.string ⟨S.toArray⟩, .int .i64 (atM S j : Nat)] wz fun e w' => e = .returned (.tuple #[.int .i64 (rj.1 : Nat), .int .i64 (rj.2 : Nat)]) ∧ Below wz.heap.size wz w') := fun wz => by
            have := refMAt S (by omega) j (by omega) wz
            rwa [hrj] at this
          have HNJ : Hid (∀ wz, Calls Try.prog 15 #[.string ⟨S.toArray⟩, .int .i64 (atM S j : Nat)] wz fun e w' => e = .returned (.int .i64 (atM S (j + 1) : Nat)) ∧ Below wz.heap.size wz w') := fun wz => by
            have := refMNext S (by omega) (atM S j : Nat) wz
            rwa [nextM_atM (by omega)] at this
          have HRJ := Lib.hid hrj
          have HBY := Lib.hid (fun h => betw_yes (S := S) (r := g) (lo := lo) (i := j) hj1 h)
          have HBN := Lib.hid (fun h => betw_no (S := S) (r := g) (lo := lo) (i := j) h)
          clear hrj
          generalize hj9 : atM S (j + 1) = aj1 at *
          have HJ1 := Lib.hid hj9
          clear hj9
          generalize atM S j = aj at *
          generalize betw S g lo j = bj at *
          by_cases hrg : (rj.1 : Int) = g
          · have e1 : ((rj.1 : Int) == g) = true := by rw [beq_iff_eq]; exact hrg
            have HB := Lib.hid (HBY.out (by rw [HRJ.out]; exact hrg))
            clear hrg HBY HBN
            go_wp2_with (first
              | (go_at_call 13; refine (HAJ.out _).mono ?_; rintro e w9 ⟨rfl, b9⟩; replace b9 := hb.trans (b9.mono hb.size); have u1' := (KC.out _ b9).2.1)
              | (go_at_call 15; refine (HNJ.out _).mono ?_; rintro e w10 ⟨rfl, b10⟩; replace b10 := b9.trans (b10.mono b9.size)))
            go_roundw
            case rel => exact ⟨j + 1, by omega, by omega, by rw [HB.out]; go_num, by rw [HJ1.out], b10⟩
            case measure => simp [intOf]; omega
          · have e1 : ((rj.1 : Int) == g) = false := by rw [beq_eq_false_iff_ne]; exact hrg
            have HB := Lib.hid (HBN.out (by rw [HRJ.out]; exact hrg))
            clear hrg HBY HBN
            go_wp2_with (first
              | (go_at_call 13; refine (HAJ.out _).mono ?_; rintro e w9 ⟨rfl, b9⟩; replace b9 := hb.trans (b9.mono hb.size); have u1' := (KC.out _ b9).2.1)
              | (go_at_call 15; refine (HNJ.out _).mono ?_; rintro e w10 ⟨rfl, b10⟩; replace b10 := b9.trans (b10.mono b9.size)))
            go_roundw
            case rel => exact ⟨j + 1, by omega, by omega, by rw [HB.out]; go_num, by rw [HJ1.out], b10⟩
            case measure => simp [intOf]; omega
        · obtain rfl : j = hi := by omega
          have hnl : ¬ (atM S j : Int) < (a : Int) := by omega
          obtain ⟨_, _, u2⟩ := cells3 ub
          generalize betw S g lo j = bj at *
          rcases (show c < 1 ∨ (1 ≤ c ∧ c ≤ 999) ∨ 999 < c by omega) with hc1 | ⟨hc1, hc2⟩ | hc1
          · have eb : ((bj : Int) + 1 == 1) = true := by
              have h9 := HBT.out
              have := HN.out
              rw [if_pos hc1, if_neg (by decide)] at this
              rw [beq_iff_eq]; omega
            go_wp2_with fail
            go_ret
            exact ⟨by first | rfl | simp, b5'.trans (hb.mono b5'.size)⟩
          · have eb : ((bj : Int) + 1 == c) = true := by
              have h9 := HBT.out
              have := HN.out
              rw [if_neg (by omega), if_neg (by omega)] at this
              rw [beq_iff_eq]; omega
            have hc1' : ¬ c < 1 := by omega
            have hc2' : ¬ 999 < c := by omega
            go_wp2_with fail
            go_ret
            exact ⟨by first | rfl | simp, b5'.trans (hb.mono b5'.size)⟩
          · have eb : ((bj : Int) + 1 == 999) = true := by
              have h9 := HBT.out
              have := HN.out
              rw [if_neg (show ¬ c < 1 by omega), if_pos hc1] at this
              rw [beq_iff_eq]; omega
            have hc1' : ¬ c < 1 := by omega
            go_wp2_with fail
            go_ret
            exact ⟨by first | rfl | simp, b5'.trans (hb.mono b5'.size)⟩
  by_cases h102 : k = 102
  · subst h102
    have k2 := k1
    have b2 := b1'
    have hl2 := hl1
    clear h70
    go_upto_region 7 with fail
    clear q0 q1 q2 fz k1 b1' hl1
    have HT : Hid (∀ wz, Below w.heap.size w wz → Calls Try.prog 10 #[.string ⟨S.toArray⟩, .int .i64 p, .agg #[.int .i32 102, .int .i32 g, .int .i64 c]] wz (GivesIIB wz (toM S p 102 g c))) := fun wz hb => HK.out.to_ S p 102 g c wz hb (by omega) hp (by decide) hg hc
    have HF := Lib.hid (fun x kd h => found_f (S := S) (p := p) (r := g) (c := c) (x := x) (k := kd) h)
    generalize manyM c = n at *
    generalize hal : alignM S p = a at *
    have HAL := Lib.hid hal
    clear hal
    generalize hr : toM S p 102 g c = r at *
    clear hr
    go_upto_region 9 with (first
      | (go_at_call 12; refine (refMAlign S (by omega) p _).mono ?_; rw [HAL.out]; rintro e w3 ⟨rfl, b3⟩; have k3 := k2.below b3 hl2; have hl3 := Nat.lt_of_lt_of_le hl2 b3.size; replace b3 := b2.trans (b3.mono b2.size))
      | ((with_reducible refine at_load 23 _ ?_); refine wpList_load_row rfl 23 _ rfl g0 rfl _ #[.int .i32 102, .int .i32 g, .int .i64 c] (0, 0) _ k3 Try.underlying23 rfl motion_size ?_)
      | (go_at_call 10; refine (HT.out _ b3).mono ?_; rintro e w4 ⟨rfl, b4⟩; have k4 := k3.below b4 hl3; have hl4 := Nat.lt_of_lt_of_le hl3 b4.size; replace b4 := b3.trans (b4.mono b3.size)))
    clear k3 hl3 b3 k2 hl2 b2 HT
    rcases r with _ | ⟨x, kd⟩
    · have z0 := atM_zero S
      have HA0 : Hid (∀ wz, Calls Try.prog 13 #[.string ⟨S.toArray⟩, .int .i64 0] wz fun e w' => e = .returned (.tuple #[.int .i64 (((chars S).getD 0 (0, 0)).1 : Nat), .int .i64 (((chars S).getD 0 (0, 0)).2 : Nat)]) ∧ Below wz.heap.size wz w') := fun wz => by
        have := refMAt S (by omega) 0 (Nat.zero_le _) wz
        rwa [z0] at this
      go_wp2_with (go_at_call 13; refine (HA0.out _).mono ?_; rintro e w5 ⟨rfl, b5⟩)
      go_ret
      exact ⟨rfl, b4.trans (b5.mono b4.size)⟩
    · obtain ⟨⟨lo, hi, hlh, hhi, hbt, hpl, ⟨i, hi1, hi2, hi3⟩, hof⟩, _, hax⟩ := HF.out x kd rfl
      rw [if_pos rfl, HAL.out] at hpl
      rw [HAL.out] at hof
      have hw1 := sign_wide hi1
      have HQ := Lib.hid hof
      have HBT := Lib.hid hbt
      have HI2 := Lib.hid hi2
      have HI3 := Lib.hid hi3
      have hax' : (a : Int) < (x : Int) := by omega
      have hax2 : ¬ ((x : Int) < (a : Int)) := by omega
      have hxle : x ≤ S.length := by
        have := width_le_take (chars S) i
        rw [width_chars] at this
        have : atM S i = x := hi2
        unfold atM at this
        omega
      have HP := Lib.hid hpl
      obtain ⟨ri, hri⟩ : ∃ y, (chars S).getD i (0, 0) = y := ⟨_, rfl⟩
      have HRI := Lib.hid hri
      rw [hri] at hw1 HI3
      have ew0 : ((ri.2 : Int) == 0) = false := by rw [beq_eq_false_iff_ne]; omega
      have er : ((ri.1 : Int) != g) = false := by have := HI3.out; simp [this]
      have eg : (ri.1 : Int) = g := HI3.out
      obtain ⟨q, hq⟩ : ∃ q, ofL S (a : Nat) = q := ⟨_, rfl⟩
      rw [hq] at HQ
      have HQA := Lib.hid hq
      have eq2 : ((q : Int) != (q : Int)) = false := by simp
      clear HF HAL hof hbt hi2 hi3 hpl hri hq eg
      have HAT : Hid (∀ wz, Calls Try.prog 13 #[.string ⟨S.toArray⟩, .int .i64 (x : Nat)] wz fun e w' => e = .returned (.tuple #[.int .i64 (ri.1 : Nat), .int .i64 (ri.2 : Nat)]) ∧ Below wz.heap.size wz w') := fun wz => by
        have := refMAt S (by omega) i (by omega) wz
        rwa [HI2.out, HRI.out] at this
      go_upto_region 12 with (go_at_call 13; refine (HAT.out _).mono ?_; rintro e w5 ⟨rfl, b5⟩)
      have k5 := k4.below b5 hl4
      have hl5 := Nat.lt_of_lt_of_le hl4 b5.size
      have b5' := b4.trans (b5.mono b4.size)
      obtain ⟨v0, v1, v2⟩ := cells3 k5
      have KC : Hid (∀ wx, Below w5.heap.size w5 wx → wx.cell? ⟨g0, 0, none⟩ = some (.int .i32 102) ∧ wx.cell? ⟨g0, 1, none⟩ = some (.int .i32 g) ∧ Blk wx g0 23 #[.int .i32 102, .int .i32 g, .int .i64 c]) := fun wx hb => ⟨(cells3 (k5.below hb hl5)).1, (cells3 (k5.below hb hl5)).2.1, k5.below hb hl5⟩
      clear b5 k4 hl4 b4
      go_upto_region 14 with (first
        | (go_at_call 14; refine use_factM b6 ?_; intro _; refine (refOf_any S (by omega) (a : Nat) _).mono ?_; rw [HQA.out]; rintro e w7 ⟨rfl, b7⟩; replace b7 := b6.trans (b7.mono b6.size); have v0' := (KC.out _ b7).1)
        | (go_at_call 14; refine (refOf_any S (by omega) (x : Nat) _).mono ?_; rw [HQ.out]; rintro e w6 ⟨rfl, b6⟩))
      have b7' : Below w5.heap.size w5 w7 := b7
      clear b6 v0' v0 v1 v2
      have hlol : lo ≤ (chars S).length := by omega
      have HNX : Hid (nextM S (a : Nat) = atM S (lo + 1)) := by
        show _ = _
        have := HP.out.1
        rw [← this]
        exact nextM_atM hlol
      have hmx : atM S hi = x := HP.out.2.1
      have hbl : ∀ j, betw S g lo j ≤ j := fun j => by
        unfold betw
        have := List.length_filter_le (runeQ S g lo) (List.range j)
        rwa [List.length_range] at this
      have hcl := chars_len S
      go_wp2_with (go_at_call 15; refine (refMNext S (by omega) (a : Nat) _).mono ?_; rw [HNX.out]; rintro e w8 ⟨rfl, b8⟩)
      have b8' := b7'.trans (b8.mono b7'.size)
      clear b8 b7 b7'
      go_loopw [13, 14] (fun bt y wr => ∃ j : Nat, lo < j ∧ j ≤ hi ∧ bt = .int .i64 ((betw S g lo j + 1 : Nat) : Int) ∧ y = .int .i64 (atM S j : Nat) ∧ Below w5.heap.size w5 wr) (fun _ y _ => atM S hi - (intOf y).toNat)
      case atStart => exact ⟨lo + 1, by omega, by omega, by rw [betw_start]; rfl, rfl, b8'⟩
      case round =>
        clear b8'
        obtain ⟨j, hj1, hj2, rfl, rfl, hb⟩ := hrel
        have hbj := hbl j
        obtain ⟨u0, u1, ub⟩ := KC.out _ hb
        by_cases hjh : j < hi
        · have hlj : atM S j < x := by rw [← hmx]; exact (atM_lt (by omega) hhi).2 hjh
          have hlj' : (atM S j : Int) < (x : Int) := by omega
          have hst := atM_step (S := S) (j := j) (by omega)
          have hle2 : atM S (j + 1) ≤ atM S hi := by
            rcases Nat.lt_or_ge (j + 1) hi with h' | h'
            · exact Nat.le_of_lt ((atM_lt (by omega) hhi).2 h')
            · obtain rfl : j + 1 = hi := by omega
              exact Nat.le_refl _
          obtain ⟨rj, hrj⟩ : ∃ y, (chars S).getD j (0, 0) = y := ⟨_, rfl⟩
          have HAJ : Hid (∀ wz, Calls Try.prog 13 #[.string ⟨S.toArray⟩, .int .i64 (atM S j : Nat)] wz fun e w' => e = .returned (.tuple #[.int .i64 (rj.1 : Nat), .int .i64 (rj.2 : Nat)]) ∧ Below wz.heap.size wz w') := fun wz => by
            have := refMAt S (by omega) j (by omega) wz
            rwa [hrj] at this
          have HNJ : Hid (∀ wz, Calls Try.prog 15 #[.string ⟨S.toArray⟩, .int .i64 (atM S j : Nat)] wz fun e w' => e = .returned (.int .i64 (atM S (j + 1) : Nat)) ∧ Below wz.heap.size wz w') := fun wz => by
            have := refMNext S (by omega) (atM S j : Nat) wz
            rwa [nextM_atM (by omega)] at this
          have HRJ := Lib.hid hrj
          have HBY := Lib.hid (fun h => betw_yes (S := S) (r := g) (lo := lo) (i := j) hj1 h)
          have HBN := Lib.hid (fun h => betw_no (S := S) (r := g) (lo := lo) (i := j) h)
          clear hrj
          generalize hj9 : atM S (j + 1) = aj1 at *
          have HJ1 := Lib.hid hj9
          clear hj9
          generalize atM S j = aj at *
          generalize betw S g lo j = bj at *
          by_cases hrg : (rj.1 : Int) = g
          · have e1 : ((rj.1 : Int) == g) = true := by rw [beq_iff_eq]; exact hrg
            have HB := Lib.hid (HBY.out (by rw [HRJ.out]; exact hrg))
            clear hrg HBY HBN
            go_wp2_with (first
              | (go_at_call 13; refine (HAJ.out _).mono ?_; rintro e w9 ⟨rfl, b9⟩; replace b9 := hb.trans (b9.mono hb.size); have u1' := (KC.out _ b9).2.1)
              | (go_at_call 15; refine (HNJ.out _).mono ?_; rintro e w10 ⟨rfl, b10⟩; replace b10 := b9.trans (b10.mono b9.size)))
            go_roundw
            case rel => exact ⟨j + 1, by omega, by omega, by rw [HB.out]; go_num, by rw [HJ1.out], b10⟩
            case measure => simp [intOf]; omega
          · have e1 : ((rj.1 : Int) == g) = false := by rw [beq_eq_false_iff_ne]; exact hrg
            have HB := Lib.hid (HBN.out (by rw [HRJ.out]; exact hrg))
            clear hrg HBY HBN
            go_wp2_with (first
              | (go_at_call 13; refine (HAJ.out _).mono ?_; rintro e w9 ⟨rfl, b9⟩; replace b9 := hb.trans (b9.mono hb.size); have u1' := (KC.out _ b9).2.1)
              | (go_at_call 15; refine (HNJ.out _).mono ?_; rintro e w10 ⟨rfl, b10⟩; replace b10 := b9.trans (b10.mono b9.size)))
            go_roundw
            case rel => exact ⟨j + 1, by omega, by omega, by rw [HB.out]; go_num, by rw [HJ1.out], b10⟩
            case measure => simp [intOf]; omega
        · obtain rfl : j = hi := by omega
          have hnl : ¬ (atM S j : Int) < (x : Int) := by omega
          obtain ⟨_, _, u2⟩ := cells3 ub
          generalize betw S g lo j = bj at *
          rcases (show c < 1 ∨ (1 ≤ c ∧ c ≤ 999) ∨ 999 < c by omega) with hc1 | ⟨hc1, hc2⟩ | hc1
          · have eb : ((bj : Int) + 1 == 1) = true := by
              have h9 := HBT.out
              have := HN.out
              rw [if_pos hc1, if_neg (by decide)] at this
              rw [beq_iff_eq]; omega
            go_wp2_with fail
            go_ret
            exact ⟨by first | rfl | simp, b5'.trans (hb.mono b5'.size)⟩
          · have eb : ((bj : Int) + 1 == c) = true := by
              have h9 := HBT.out
              have := HN.out
              rw [if_neg (by omega), if_neg (by omega)] at this
              rw [beq_iff_eq]; omega
            have hc1' : ¬ c < 1 := by omega
            have hc2' : ¬ 999 < c := by omega
            go_wp2_with fail
            go_ret
            exact ⟨by first | rfl | simp, b5'.trans (hb.mono b5'.size)⟩
          · have eb : ((bj : Int) + 1 == 999) = true := by
              have h9 := HBT.out
              have := HN.out
              rw [if_neg (show ¬ c < 1 by omega), if_pos hc1] at this
              rw [beq_iff_eq]; omega
            have hc1' : ¬ c < 1 := by omega
            go_wp2_with fail
            go_ret
            exact ⟨by first | rfl | simp, b5'.trans (hb.mono b5'.size)⟩
  · have e1 : (k != 102) = true := by rw [bne_iff_ne]; exact h102
    have e2 : (k != 70) = true := by rw [bne_iff_ne]; exact h70
    clear h70 h102
    have k2 : Blk (w1.setCell ⟨g0, 0, none⟩ (.int .i32 102)) g0 23 #[.int .i32 102, .int .i32 g, .int .i64 c] := by
      have := k1.set_ 0 (.int .i32 102)
      simpa using this
    have b2 : Below w.heap.size w (w1.setCell ⟨g0, 0, none⟩ (.int .i32 102)) := b1'.setCell (p := ⟨g0, 0, none⟩) hg0 _
    have hl2 : g0 < (w1.setCell ⟨g0, 0, none⟩ (.int .i32 102)).heap.size := by simpa [World.setCell] using hl1
    go_upto_region 7 with fail
    clear q0 q1 q2 fz k1 b1' hl1 e1 e2 hk
    generalize w1.setCell ⟨g0, 0, none⟩ (.int .i32 102) = w2 at *
    have HT : Hid (∀ wz, Below w.heap.size w wz → Calls Try.prog 10 #[.string ⟨S.toArray⟩, .int .i64 p, .agg #[.int .i32 102, .int .i32 g, .int .i64 c]] wz (GivesIIB wz (toM S p 102 g c))) := fun wz hb => HK.out.to_ S p 102 g c wz hb (by omega) hp (by decide) hg hc
    have HF := Lib.hid (fun x kd h => found_f (S := S) (p := p) (r := g) (c := c) (x := x) (k := kd) h)
    generalize manyM c = n at *
    generalize hal : alignM S p = a at *
    have HAL := Lib.hid hal
    clear hal
    generalize hr : toM S p 102 g c = r at *
    clear hr
    go_upto_region 9 with (first
      | (go_at_call 12; refine (refMAlign S (by omega) p _).mono ?_; rw [HAL.out]; rintro e w3 ⟨rfl, b3⟩; have k3 := k2.below b3 hl2; have hl3 := Nat.lt_of_lt_of_le hl2 b3.size; replace b3 := b2.trans (b3.mono b2.size))
      | ((with_reducible refine at_load 23 _ ?_); refine wpList_load_row rfl 23 _ rfl g0 rfl _ #[.int .i32 102, .int .i32 g, .int .i64 c] (0, 0) _ k3 Try.underlying23 rfl motion_size ?_)
      | (go_at_call 10; refine (HT.out _ b3).mono ?_; rintro e w4 ⟨rfl, b4⟩; have k4 := k3.below b4 hl3; have hl4 := Nat.lt_of_lt_of_le hl3 b4.size; replace b4 := b3.trans (b4.mono b3.size)))
    clear k3 hl3 b3 k2 hl2 b2 HT
    rcases r with _ | ⟨x, kd⟩
    · have z0 := atM_zero S
      have HA0 : Hid (∀ wz, Calls Try.prog 13 #[.string ⟨S.toArray⟩, .int .i64 0] wz fun e w' => e = .returned (.tuple #[.int .i64 (((chars S).getD 0 (0, 0)).1 : Nat), .int .i64 (((chars S).getD 0 (0, 0)).2 : Nat)]) ∧ Below wz.heap.size wz w') := fun wz => by
        have := refMAt S (by omega) 0 (Nat.zero_le _) wz
        rwa [z0] at this
      go_wp2_with (go_at_call 13; refine (HA0.out _).mono ?_; rintro e w5 ⟨rfl, b5⟩)
      go_ret
      exact ⟨rfl, b4.trans (b5.mono b4.size)⟩
    · obtain ⟨⟨lo, hi, hlh, hhi, hbt, hpl, ⟨i, hi1, hi2, hi3⟩, hof⟩, _, hax⟩ := HF.out x kd rfl
      rw [if_pos rfl, HAL.out] at hpl
      rw [HAL.out] at hof
      have hw1 := sign_wide hi1
      have HQ := Lib.hid hof
      have HBT := Lib.hid hbt
      have HI2 := Lib.hid hi2
      have HI3 := Lib.hid hi3
      have hax' : (a : Int) < (x : Int) := by omega
      have hax2 : ¬ ((x : Int) < (a : Int)) := by omega
      have hxle : x ≤ S.length := by
        have := width_le_take (chars S) i
        rw [width_chars] at this
        have : atM S i = x := hi2
        unfold atM at this
        omega
      have HP := Lib.hid hpl
      obtain ⟨ri, hri⟩ : ∃ y, (chars S).getD i (0, 0) = y := ⟨_, rfl⟩
      have HRI := Lib.hid hri
      rw [hri] at hw1 HI3
      have ew0 : ((ri.2 : Int) == 0) = false := by rw [beq_eq_false_iff_ne]; omega
      have er : ((ri.1 : Int) != g) = false := by have := HI3.out; simp [this]
      have eg : (ri.1 : Int) = g := HI3.out
      obtain ⟨q, hq⟩ : ∃ q, ofL S (a : Nat) = q := ⟨_, rfl⟩
      rw [hq] at HQ
      have HQA := Lib.hid hq
      have eq2 : ((q : Int) != (q : Int)) = false := by simp
      clear HF HAL hof hbt hi2 hi3 hpl hri hq eg
      have HAT : Hid (∀ wz, Calls Try.prog 13 #[.string ⟨S.toArray⟩, .int .i64 (x : Nat)] wz fun e w' => e = .returned (.tuple #[.int .i64 (ri.1 : Nat), .int .i64 (ri.2 : Nat)]) ∧ Below wz.heap.size wz w') := fun wz => by
        have := refMAt S (by omega) i (by omega) wz
        rwa [HI2.out, HRI.out] at this
      go_upto_region 12 with (go_at_call 13; refine (HAT.out _).mono ?_; rintro e w5 ⟨rfl, b5⟩)
      have k5 := k4.below b5 hl4
      have hl5 := Nat.lt_of_lt_of_le hl4 b5.size
      have b5' := b4.trans (b5.mono b4.size)
      obtain ⟨v0, v1, v2⟩ := cells3 k5
      have KC : Hid (∀ wx, Below w5.heap.size w5 wx → wx.cell? ⟨g0, 0, none⟩ = some (.int .i32 102) ∧ wx.cell? ⟨g0, 1, none⟩ = some (.int .i32 g) ∧ Blk wx g0 23 #[.int .i32 102, .int .i32 g, .int .i64 c]) := fun wx hb => ⟨(cells3 (k5.below hb hl5)).1, (cells3 (k5.below hb hl5)).2.1, k5.below hb hl5⟩
      clear b5 k4 hl4 b4
      go_upto_region 14 with (first
        | (go_at_call 14; refine use_factM b6 ?_; intro _; refine (refOf_any S (by omega) (a : Nat) _).mono ?_; rw [HQA.out]; rintro e w7 ⟨rfl, b7⟩; replace b7 := b6.trans (b7.mono b6.size); have v0' := (KC.out _ b7).1)
        | (go_at_call 14; refine (refOf_any S (by omega) (x : Nat) _).mono ?_; rw [HQ.out]; rintro e w6 ⟨rfl, b6⟩))
      have b7' : Below w5.heap.size w5 w7 := b7
      clear b6 v0' v0 v1 v2
      have hlol : lo ≤ (chars S).length := by omega
      have HNX : Hid (nextM S (a : Nat) = atM S (lo + 1)) := by
        show _ = _
        have := HP.out.1
        rw [← this]
        exact nextM_atM hlol
      have hmx : atM S hi = x := HP.out.2.1
      have hbl : ∀ j, betw S g lo j ≤ j := fun j => by
        unfold betw
        have := List.length_filter_le (runeQ S g lo) (List.range j)
        rwa [List.length_range] at this
      have hcl := chars_len S
      go_wp2_with (go_at_call 15; refine (refMNext S (by omega) (a : Nat) _).mono ?_; rw [HNX.out]; rintro e w8 ⟨rfl, b8⟩)
      have b8' := b7'.trans (b8.mono b7'.size)
      clear b8 b7 b7'
      go_loopw [13, 14] (fun bt y wr => ∃ j : Nat, lo < j ∧ j ≤ hi ∧ bt = .int .i64 ((betw S g lo j + 1 : Nat) : Int) ∧ y = .int .i64 (atM S j : Nat) ∧ Below w5.heap.size w5 wr) (fun _ y _ => atM S hi - (intOf y).toNat)
      case atStart => exact ⟨lo + 1, by omega, by omega, by rw [betw_start]; rfl, rfl, b8'⟩
      case round =>
        clear b8'
        obtain ⟨j, hj1, hj2, rfl, rfl, hb⟩ := hrel
        have hbj := hbl j
        obtain ⟨u0, u1, ub⟩ := KC.out _ hb
        by_cases hjh : j < hi
        · have hlj : atM S j < x := by rw [← hmx]; exact (atM_lt (by omega) hhi).2 hjh
          have hlj' : (atM S j : Int) < (x : Int) := by omega
          have hst := atM_step (S := S) (j := j) (by omega)
          have hle2 : atM S (j + 1) ≤ atM S hi := by
            rcases Nat.lt_or_ge (j + 1) hi with h' | h'
            · exact Nat.le_of_lt ((atM_lt (by omega) hhi).2 h')
            · obtain rfl : j + 1 = hi := by omega
              exact Nat.le_refl _
          obtain ⟨rj, hrj⟩ : ∃ y, (chars S).getD j (0, 0) = y := ⟨_, rfl⟩
          have HAJ : Hid (∀ wz, Calls Try.prog 13 #[.string ⟨S.toArray⟩, .int .i64 (atM S j : Nat)] wz fun e w' => e = .returned (.tuple #[.int .i64 (rj.1 : Nat), .int .i64 (rj.2 : Nat)]) ∧ Below wz.heap.size wz w') := fun wz => by
            have := refMAt S (by omega) j (by omega) wz
            rwa [hrj] at this
          have HNJ : Hid (∀ wz, Calls Try.prog 15 #[.string ⟨S.toArray⟩, .int .i64 (atM S j : Nat)] wz fun e w' => e = .returned (.int .i64 (atM S (j + 1) : Nat)) ∧ Below wz.heap.size wz w') := fun wz => by
            have := refMNext S (by omega) (atM S j : Nat) wz
            rwa [nextM_atM (by omega)] at this
          have HRJ := Lib.hid hrj
          have HBY := Lib.hid (fun h => betw_yes (S := S) (r := g) (lo := lo) (i := j) hj1 h)
          have HBN := Lib.hid (fun h => betw_no (S := S) (r := g) (lo := lo) (i := j) h)
          clear hrj
          generalize hj9 : atM S (j + 1) = aj1 at *
          have HJ1 := Lib.hid hj9
          clear hj9
          generalize atM S j = aj at *
          generalize betw S g lo j = bj at *
          by_cases hrg : (rj.1 : Int) = g
          · have e1 : ((rj.1 : Int) == g) = true := by rw [beq_iff_eq]; exact hrg
            have HB := Lib.hid (HBY.out (by rw [HRJ.out]; exact hrg))
            clear hrg HBY HBN
            go_wp2_with (first
              | (go_at_call 13; refine (HAJ.out _).mono ?_; rintro e w9 ⟨rfl, b9⟩; replace b9 := hb.trans (b9.mono hb.size); have u1' := (KC.out _ b9).2.1)
              | (go_at_call 15; refine (HNJ.out _).mono ?_; rintro e w10 ⟨rfl, b10⟩; replace b10 := b9.trans (b10.mono b9.size)))
            go_roundw
            case rel => exact ⟨j + 1, by omega, by omega, by rw [HB.out]; go_num, by rw [HJ1.out], b10⟩
            case measure => simp [intOf]; omega
          · have e1 : ((rj.1 : Int) == g) = false := by rw [beq_eq_false_iff_ne]; exact hrg
            have HB := Lib.hid (HBN.out (by rw [HRJ.out]; exact hrg))
            clear hrg HBY HBN
            go_wp2_with (first
              | (go_at_call 13; refine (HAJ.out _).mono ?_; rintro e w9 ⟨rfl, b9⟩; replace b9 := hb.trans (b9.mono hb.size); have u1' := (KC.out _ b9).2.1)
              | (go_at_call 15; refine (HNJ.out _).mono ?_; rintro e w10 ⟨rfl, b10⟩; replace b10 := b9.trans (b10.mono b9.size)))
            go_roundw
            case rel => exact ⟨j + 1, by omega, by omega, by rw [HB.out]; go_num, by rw [HJ1.out], b10⟩
            case measure => simp [intOf]; omega
        · obtain rfl : j = hi := by omega
          have hnl : ¬ (atM S j : Int) < (x : Int) := by omega
          obtain ⟨_, _, u2⟩ := cells3 ub
          generalize betw S g lo j = bj at *
          rcases (show c < 1 ∨ (1 ≤ c ∧ c ≤ 999) ∨ 999 < c by omega) with hc1 | ⟨hc1, hc2⟩ | hc1
          · have eb : ((bj : Int) + 1 == 1) = true := by
              have h9 := HBT.out
              have := HN.out
              rw [if_pos hc1, if_neg (by decide)] at this
              rw [beq_iff_eq]; omega
            go_wp2_with fail
            go_ret
            exact ⟨by first | rfl | simp, b5'.trans (hb.mono b5'.size)⟩
          · have eb : ((bj : Int) + 1 == c) = true := by
              have h9 := HBT.out
              have := HN.out
              rw [if_neg (by omega), if_neg (by omega)] at this
              rw [beq_iff_eq]; omega
            have hc1' : ¬ c < 1 := by omega
            have hc2' : ¬ 999 < c := by omega
            go_wp2_with fail
            go_ret
            exact ⟨by first | rfl | simp, b5'.trans (hb.mono b5'.size)⟩
          · have eb : ((bj : Int) + 1 == 999) = true := by
              have h9 := HBT.out
              have := HN.out
              rw [if_neg (show ¬ c < 1 by omega), if_pos hc1] at this
              rw [beq_iff_eq]; omega
            have hc1' : ¬ c < 1 := by omega
            go_wp2_with fail
            go_ret
            exact ⟨by first | rfl | simp, b5'.trans (hb.mono b5'.size)⟩
end Go.Proofs.Ytckikigjleckeaa
