/-
  Keys one behind the other are written one behind the other: layer 10.
-/
import Derived.Test.YtfoncmgcdldkdaaDoorKeyLawB
namespace Go.Proofs.YtfoncmgcdldkdaaDoor
open Go.RowKit

theorem runz_one (zs : List Int) : ∀ u ∈ zs.map runz, u.oneCell' = true := by
  intro u hu
  obtain ⟨z, _, rfl⟩ := List.mem_map.1 hu
  rfl
/-- two rows of runes, one behind the other, in new memory -/
theorem both_rows (w : World) (A A2 : Option Addr) (c d : Nat) (xs ys : List Int) (hx : xs.length ≤ 4096) (hy : ys.length ≤ 4096) (h : Row w w.heap.size A (xs.map runz)) (hh : Row w w.heap.size A2 (ys.map runz)) :
    ∃ v1 w1 A3 c3 w2, (∀ ty, (Builtin.append_ #[25, 25] ty #[.slice none 0 0, .slice A xs.length c]).run Tryd.prog w = .ok v1 w1) ∧ (∀ ty, (Builtin.append_ #[25, 25] ty #[v1, .slice A2 ys.length d]).run Tryd.prog w1 = .ok (.slice A3 (xs ++ ys).length c3) w2) ∧
      Row w2 w2.heap.size A3 ((xs ++ ys).map runz) ∧ Below w.heap.size w w2 := by
  obtain ⟨i, hi, hz, h1, h2⟩ := info_parts elt_rune.hi
  have s1 : Src Tryd.prog 1 25 (.slice A xs.length c) xs.length (xs.map runz) w := Src.ofRow elt_rune.ht (by simp) (by decide) h (runz_one xs)
  obtain ⟨v1, w1, e1, o1, g1, n1⟩ := run_append_any (P := Tryd.prog) w.heap.size 25 25 25 21 i _ 1 4 elt_rune.ht hi hz h1 h2 elt_rune.hz (.slice none 0 0) 0 [] (World.ownsRow_nil _ _ _ _) _ xs.length _ s1 (by unfold maxLen; omega) (by omega) (Nat.le_refl _)
  have b1 : Below w.heap.size w w1 := (Below.refl _ w).grown g1 (Nat.le_refl _) (fun k hk => by simp [Value.ownBlock] at hk)
  have s2 : Src Tryd.prog 1 25 (.slice A2 ys.length d) ys.length (ys.map runz) w1 := Src.ofRow elt_rune.ht (by simp) (by decide) (hh.below b1) (runz_one ys)
  rw [Nat.zero_add, List.nil_append] at o1
  obtain ⟨v2, w2, e2, o2, g2, n2⟩ := run_append_any (P := Tryd.prog) w.heap.size 25 25 25 21 i _ 1 4 elt_rune.ht hi hz h1 h2 elt_rune.hz v1 xs.length _ o1 _ ys.length _ s2 (by unfold maxLen; omega) (by omega) b1.size
  obtain ⟨A3, c3, rfl⟩ := own_form o2
  have b2 := b1.trans (own_below o1 g2 b1.size)
  rw [← List.map_append, ← List.length_append] at o2
  rw [← List.length_append] at e2
  exact ⟨v1, w1, A3, c3, w2, fun ty => e1, fun ty => e2, Row.of_own o2, b2⟩
theorem joined_same (A A2 : Option Addr) (c d : Nat) (zs : List Int) (nb : Nat) (hn : zs.length = nb) (hl : nb ≤ 1000000) (w : World) (h : Row w w.heap.size A (zs.map runz)) (hh : Row w w.heap.size A2 (zs.map runz)) :
    Calls Tryd.prog 15 #[.slice A nb c, .slice A2 nb d] w fun e w' => e = .returned (.bool true) ∧ Below w.heap.size w w' := by
  subst hn
  have k := refKSame_any A A2 c d w.heap.size zs zs hl hl w (Nat.le_refl _) h hh
  rw [decide_eq_true rfl] at k
  exact k
set_option maxHeartbeats 4000000 in
theorem keysJoins_walk (w : World) (KS : KeySays w) (A : Option Addr) (c : Nat) (xs : List Int) (hlen : xs.length ≤ maxLen) (hx : ∀ z ∈ xs, -2147483648 ≤ z ∧ z ≤ 2147483647) (row : Row w w.heap.size A (xs.map runz)) (A2 : Option Addr) (c2 : Nat) (ys : List Int) (hlen2 : ys.length ≤ maxLen) (hy : ∀ z ∈ ys, -2147483648 ≤ z ∧ z ≤ 2147483647) (row2 : Row w w.heap.size A2 (ys.map runz)) :
    Calls Tryd.prog 7 #[.slice A xs.length c, .slice A2 ys.length c2] w fun e w' => e = .returned (.bool true) ∧ Below w.heap.size w w' := by
  have HK := Lib.hid KS
  have HX := Lib.hid hx
  have HY := Lib.hid hy
  have hlen' := hlen
  have hlen2' := hlen2
  unfold maxLen at hlen' hlen2'
  clear KS hx hy
  by_cases hl : (4096 : Int) < (xs.length : Int)
  · go_enter Tryd.func7, Tryd.ntmps7
    go_wp2_with (go_at_call 10; refine (aliveK_any _ HK.out).mono ?_; rintro e w1 ⟨rfl, b1⟩)
    go_ret
    exact ⟨rfl, b1⟩
  by_cases hs : (4096 : Int) < (ys.length : Int)
  · go_enter Tryd.func7, Tryd.ntmps7
    go_wp2_with (go_at_call 10; refine (aliveK_any _ HK.out).mono ?_; rintro e w1 ⟨rfl, b1⟩)
    go_ret
    exact ⟨rfl, b1⟩
  obtain ⟨v, hv⟩ : ∃ v, printA xs = v := ⟨_, rfl⟩
  obtain ⟨T, n⟩ := v
  obtain ⟨v, hq⟩ : ∃ v, printA ys = v := ⟨_, rfl⟩
  obtain ⟨U, m⟩ := v
  obtain ⟨v, hb⟩ : ∃ v, printA (xs ++ ys) = v := ⟨_, rfl⟩
  obtain ⟨Z, k⟩ := v
  have HV := Lib.hid hv
  have HQ := Lib.hid hq
  have HB := Lib.hid hb
  have HT := Lib.hid (show T.length ≤ 1280 by have := printA_len xs; rwa [hv] at this)
  have HU := Lib.hid (show U.length ≤ 1280 by have := printA_len ys; rwa [hq] at this)
  have HJ : Hid (n = 0 → m = 0 → (k = 0 → Z = T ++ U) ∧ (k ≠ 0 → 256 < (xs ++ ys).length)) := by
    show n = 0 → m = 0 → _
    intro h1 h2
    have := print_both (a := xs) (b := ys) (by rw [hv]; exact h1) (by rw [hq]; exact h2)
    rw [hv, hq, hb] at this
    exact ⟨fun h => congrArg Prod.fst (this.1 h), this.2⟩
  have HP : Hid (k = 0 → ∀ wz, Below w.heap.size w wz → Calls Tryd.prog 13 #[.string ⟨Z.toArray⟩] wz fun e w' => ∃ A c, e = .returned (.tuple #[.slice A (xs ++ ys).length c, .int .i64 0]) ∧ Row w' w'.heap.size A ((xs ++ ys).map runz) ∧ Below wz.heap.size wz w') := by
    show k = 0 → _
    intro hn wz hbz
    have := parse_back (HK.out.at hbz) (zs := xs ++ ys) (by rw [hb]; exact hn)
    rwa [hb] at this
  have HBY : Hid (∀ z ∈ xs ++ ys, -2147483648 ≤ z ∧ z ≤ 2147483647) := fun z hz => by
    rcases List.mem_append.1 hz with hz | hz
    · exact HX.out z hz
    · exact HY.out z hz
  have hbl : (xs ++ ys).length ≤ 1000000 := by rw [List.length_append]; omega
  clear hv hq hb
  go_enter Tryd.func7, Tryd.ntmps7
  go_upto_region 7 with (first
    | (go_at_call 10; refine (aliveK_any _ HK.out).mono ?_; rintro e w1 ⟨rfl, b1⟩; have B1 := Lib.hid b1; clear b1)
    | (go_at_call_of 11 xs; refine (HK.out.print A c w.heap.size xs _ B1.out B1.out.size HX.out (by omega) (row.below B1.out)).mono ?_; rw [HV.out]; rintro e w2 ⟨rfl, b2⟩; have B2 := Lib.hid (B1.out.trans (b2.mono B1.out.size)); clear b2)
    | (go_at_call_of 11 ys; refine (HK.out.print A2 c2 w.heap.size ys _ B2.out B2.out.size HY.out (by omega) (row2.below B2.out)).mono ?_; rw [HQ.out]; rintro e w3 ⟨rfl, b3⟩; have B3 := Lib.hid (B2.out.trans (b3.mono B2.out.size)); clear b3))
  obtain ⟨v1, w4, A5, c5, w5, e1, e2, r5, b5⟩ := both_rows w3 A A2 c c2 xs ys (by omega) (by omega) ((row.below B3.out).more B3.out.size) ((row2.below B3.out).more B3.out.size)
  have E1 := Lib.hid e1
  have E2 := Lib.hid e2
  have R5 := Lib.hid r5
  have B5 := Lib.hid (B3.out.trans (b5.mono B3.out.size))
  clear e1 e2 r5 b5
  generalize hlL : (xs ++ ys).length = nb at *
  go_upto_region 8 with (first
    | (at_builtin; refine wpList_append_eq rfl (.const (.slice none 0 0)) (.tmp 34) 25 25 rfl _ _ rfl rfl (E1.out _) ?_)
    | (at_builtin; refine wpList_append_eq rfl (.tmp 35) (.tmp 36) 25 25 rfl _ _ rfl rfl (E2.out _) ?_))
  have HPr : Hid (∀ wz, Below w5.heap.size w5 wz → Calls Tryd.prog 11 #[.slice A5 nb c5] wz fun e w' => e = .returned (.tuple #[.string ⟨Z.toArray⟩, .int .i64 (k : Nat)]) ∧ Below wz.heap.size wz w') := fun wz hz => by
    have := HK.out.print A5 c5 w5.heap.size (xs ++ ys) wz (B5.out.trans (hz.mono B5.out.size)) hz.size HBY.out (by omega) (R5.out.below hz)
    rw [HB.out, hlL] at this
    exact this
  go_upto_region 9 with (go_at_call 11; refine (HPr.out _ (Below.refl _ _)).mono ?_; rintro e w6 ⟨rfl, b6⟩; have B6 := Lib.hid (B5.out.trans (b6.mono B5.out.size)); have R6 := Lib.hid ((R5.out.below b6).more b6.size); clear b6)
  clear HPr E1 E2 R5
  have HNB : Hid (nb ≤ 1000000) := hbl
  by_cases hn : n = 0
  · by_cases hm : m = 0
    · by_cases hk : k = 0
      · have hZ := (HJ.out hn hm).1 hk
        have HP0 := Lib.hid (HP.out hk)
        subst hn hm hk
        subst hZ
        have ht := HT.out
        have hu := HU.out
        have hsum : ¬ 9223372036854775807 < T.length + U.length := by omega
        have hsa := bytes_app T U
        go_wp2_with (first
          | (go_at_call 13; refine (HP0.out _ B6.out).mono ?_; rintro e w7 ⟨A7, c7, rfl, r7, b7⟩; have R7 := Lib.hid r7; have B7 := Lib.hid b7; clear r7 b7)
          | (go_at_call 15; refine (joined_same A7 A5 c7 c5 (xs ++ ys) nb hlL HNB.out _ R7.out ((R6.out.below B7.out).more B7.out.size)).mono ?_; rintro e w8 ⟨rfl, b8⟩; have B8 := Lib.hid b8; clear b8))
        go_ret
        have h7 := B6.out.trans (B7.out.mono B6.out.size)
        exact ⟨by first | rfl | (simp [bytes_app]; done) | (rw [bytes_app]; simp), h7.trans (B8.out.mono h7.size)⟩
      · have hk' : (((k : Nat) : Int) != 0) = true := by rw [bne_iff_ne]; omega
        have h256 := (HJ.out hn hm).2 hk
        have h256' : (256 : Int) < (nb : Int) := by omega
        subst hn hm
        go_wp2_with fail
        go_ret
        exact ⟨rfl, B6.out⟩
    · have hm' : (((m : Nat) : Int) != 0) = true := by rw [bne_iff_ne]; omega
      subst hn
      by_cases h256 : (256 : Int) < (nb : Int)
      all_goals
        go_wp2_with fail
        go_ret
        exact ⟨by first | rfl | (simp; done), B6.out⟩
  · have hn' : (((n : Nat) : Int) != 0) = true := by rw [bne_iff_ne]; omega
    by_cases h256 : (256 : Int) < (nb : Int)
    all_goals
      go_wp2_with fail
      go_ret
      exact ⟨by first | rfl | (simp; done), B6.out⟩
end Go.Proofs.YtfoncmgcdldkdaaDoor
