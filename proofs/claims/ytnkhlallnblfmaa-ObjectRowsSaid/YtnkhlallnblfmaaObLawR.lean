/-
  All signs of a word have one class, which those beside it have not: layer 13.
-/
import Derived.Test.YtnkhlallnblfmaaObSays
import Derived.Test.YtnkhlallnblfmaaObTile
namespace Go.Proofs.Ytnkhlallnblfmaa
open Go.RowKit

/-- the class of sign m; -1: there is none -/
def clsE (S : List UInt8) (m : Nat) : Int := if m < (chars S).length then (clsM (chars S) m : Nat) else -1
theorem width_full (S : List UInt8) {m : Nat} (_h : m ≤ (chars S).length) : (m < (chars S).length ↔ width ((chars S).take m) < S.length) := by
  constructor
  · intro h1
    have := width_lt h1 (Nat.le_refl _)
    rwa [List.take_length, width_chars] at this
  · intro h1
    rcases Nat.lt_or_ge m (chars S).length with h2 | h2
    · exact h2
    · rw [List.take_of_length_le h2, width_chars] at h1
      omega
set_option maxHeartbeats 1000000 in
theorem obClass_any (S : List UInt8) (hs : S.length ≤ 1000000) (m : Nat) (hm : m ≤ (chars S).length) (x : Nat) (hx : width ((chars S).take m) = x) (w : World) :
    Calls Try.prog 11 #[.string ⟨S.toArray⟩, .int .i64 (x : Nat)] w fun e w' => e = .returned (.int .i64 (clsE S m)) ∧ Below w.heap.size w w' := by
  unfold clsE
  have hfull := width_full S hm
  rw [hx] at hfull
  have hr : ((chars S).getD m (0, 0)).1 ≤ 1114111 := by
    rcases Nat.lt_or_ge m (chars S).length with h | h
    · have := (chars_bound S _ (List.getElem_mem h)).1
      rwa [List.getD_eq_getElem?_getD, List.getElem?_eq_getElem h]
    · rw [List.getD_eq_getElem?_getD, List.getElem?_eq_none h]
      exact Nat.zero_le _
  have hat := refAt_any S hs (x : Nat)
  have hw : Which (chars S) ((x : Nat) : Int) m := by rw [← hx]; exact which_self hm
  by_cases hlt : x < S.length
  · rw [if_pos (hfull.2 hlt)]
    have h1 : ¬ ((S.length : Int) ≤ (x : Int)) := by omega
    have HAT : Hid (∀ wx, Calls Try.prog 27 #[.string ⟨S.toArray⟩, .int .i64 (x : Nat)] wx fun e w' => e = .returned (.tuple #[.int .i64 (((chars S).getD m (0, 0)).1 : Nat), .int .i64 (((chars S).getD m (0, 0)).2 : Nat)]) ∧ Below wx.heap.size wx w') := fun wx => (hat wx).mono fun e w' ⟨i, he, hi, hb⟩ => by
      rw [hi.unique hw] at he
      exact ⟨he, hb⟩
    have HR := Lib.hid hr
    show Calls _ _ _ _ fun e w' => e = .returned (.int .i64 (classL ((chars S).getD m (0, 0)).1 : Nat)) ∧ _
    clear hr hat hw hfull
    generalize (chars S).getD m (0, 0) = rr at *
    go_enter Try.func11, Try.ntmps11
    go_wp2_with (first
      | (go_at_call 27; refine (HAT.out _).mono ?_; rintro e w1 ⟨rfl, b1⟩)
      | (go_at_call 28; refine (refClass_any _ HR.out _).mono ?_; rintro e w2 ⟨rfl, hw⟩; subst w2))
    go_ret
    exact ⟨rfl, b1⟩
  · rw [if_neg (fun h => hlt (hfull.1 h))]
    have h1 : (S.length : Int) ≤ (x : Int) := by omega
    go_enter Try.func11, Try.ntmps11
    go_wp2_with fail
    go_ret
    exact ⟨rfl, Below.refl _ _⟩
/-- the row of a place: what it goes over, and around it no less -/
theorem row_found (S : List UInt8) (p : Int) :
    (alignM S p = S.length ∧ ∀ ar, findO S p ar 119 = none) ∨ (alignM S p < S.length ∧ ∃ i0 i j x y : Nat, (i ≤ i0 ∧ i0 < j ∧ j ≤ (chars S).length) ∧ alignM S p = width ((chars S).take i0) ∧ findO S p false 119 = some (width ((chars S).take i), width ((chars S).take j)) ∧ findO S p true 119 = some (x, y) ∧
      (x ≤ width ((chars S).take i) ∧ width ((chars S).take j) ≤ y ∧ (x = width ((chars S).take i) ∨ y = width ((chars S).take j))) ∧ (∀ m, i ≤ m → m < j → clsE S m = clsE S i0) ∧ (0 < i → clsE S (i - 1) ≠ clsE S i0) ∧ clsE S j ≠ clsE S i0) := by
  have hle := alignM_le S p
  by_cases ha : alignM S p = S.length
  · exact .inl ⟨ha, fun ar => by unfold findO; rw [if_pos ha]⟩
  · right
    refine ⟨by omega, ?_⟩
    have hf : ∀ ar, findO S p ar 119 = some (owordM (rowsM S) (alignM S p) ar) := fun ar => by unfold findO; rw [if_neg ha, if_pos rfl]
    obtain ⟨i0, hi0, hal⟩ := Beg.alignM S p
    have hi1 : i0 < (chars S).length := (width_full S hi0).2 (by omega)
    obtain ⟨b, hb⟩ := tile_to (chars S) (chars S).length
    change TileB _ _ (rowsM S) b at hb
    obtain ⟨t, ht, h1, h2⟩ := hb.at_ hi1
    have hend : ∀ s, s ≤ (rowsM S).length → b s ≤ (chars S).length := fun s hs => by
      have := hb.mono hs (Nat.le_refl _)
      rwa [hb.last] at this
    have hbt := hend (t + 1) ht
    have get : ∀ s (hs : s < (rowsM S).length), (rowsM S)[s] = (width ((chars S).take (b s)), width ((chars S).take (b (s + 1))), clsM (chars S) (b s)) := fun s hs => by
      have := hb.row s hs
      rw [List.getElem?_eq_getElem hs] at this
      exact Option.some.inj this
    have how := owordM_is (a := alignM S p) ht (fun s hs => by
      rw [get s (by omega), hal]
      exact width_take_mono _ (Nat.le_trans (hb.mono (by omega) (by omega)) h1)) (.inr (by
      rw [get t ht, hal]
      exact width_lt h2 hbt))
    have hce : ∀ m, m < (chars S).length → clsE S m = (clsM (chars S) m : Nat) := fun m hm => if_pos hm
    have h0 : clsM (chars S) i0 = clsM (chars S) (b t) := hb.one t i0 ht h1 h2
    have h3 : ∀ m, b t ≤ m → m < b (t + 1) → clsE S m = clsE S i0 := fun m a1 a2 => by
      rw [hce m (by omega), hce i0 hi1, h0, hb.one t m ht a1 a2]
    have h4 : 0 < b t → clsE S (b t - 1) ≠ clsE S i0 := fun hp => by
      have h5 : 0 < t := by
        rcases Nat.eq_zero_or_pos t with rfl | h
        · rw [hb.zero] at hp; omega
        · exact h
      obtain ⟨s, rfl⟩ : ∃ s, t = s + 1 := ⟨t - 1, by omega⟩
      have a1 := hb.less s (by omega)
      rw [hce _ (by omega), hce i0 hi1, h0, hb.one s (b (s + 1) - 1) (by omega) (by omega) (by omega)]
      have := hb.next s ht
      omega
    have h5 : clsE S (b (t + 1)) ≠ clsE S i0 := by
      rw [hce i0 hi1, h0]
      rcases Nat.lt_or_ge (t + 1) (rowsM S).length with h6 | h6
      · have a1 := hb.less (t + 1) h6
        have a2 : b (t + 1 + 1) ≤ (chars S).length := hend (t + 1 + 1) h6
        rw [hce _ (by omega)]
        have := hb.next t h6
        omega
      · have : b (t + 1) = (chars S).length := by rw [show t + 1 = (rowsM S).length by omega]; exact hb.last
        unfold clsE
        rw [if_neg (by omega)]
        omega
    have e1 : findO S p false 119 = some (width ((chars S).take (b t)), width ((chars S).take (b (t + 1)))) := by
      rw [hf, how false, if_neg (by decide), get t ht]
    have e2 : ∃ x y, findO S p true 119 = some (x, y) ∧ x ≤ width ((chars S).take (b t)) ∧ width ((chars S).take (b (t + 1))) ≤ y ∧ (x = width ((chars S).take (b t)) ∨ y = width ((chars S).take (b (t + 1)))) := by
      rw [hf, how true, if_pos rfl, get t ht]
      have hB : ∀ q, (rowsM S)[t + 1]? = some q → width ((chars S).take (b (t + 1))) ≤ q.2.1 := fun q hq => by
        obtain ⟨hlt, rfl⟩ := List.getElem?_eq_some_iff.1 hq
        rw [get (t + 1) hlt]
        exact width_take_mono _ (Nat.le_of_lt (hb.less (t + 1) hlt))
      have hA : ∀ q, (if 0 < t then (rowsM S)[t - 1]? else none) = some q → q.1 ≤ width ((chars S).take (b t)) := fun q hq => by
        split at hq
        · obtain ⟨hlt, rfl⟩ := List.getElem?_eq_some_iff.1 hq
          rw [get (t - 1) hlt]
          exact width_take_mono _ (hb.mono (by omega) (by omega))
        · cases hq
      generalize (rowsM S)[t + 1]? = bh at *
      generalize (if 0 < t then (rowsM S)[t - 1]? else none) = ah at *
      unfold wordR
      split
      · next q =>
        have h6 := hB q rfl
        split
        · split
          · exact ⟨_, _, rfl, Nat.le_refl _, Nat.le_refl _, .inl rfl⟩
          · exact ⟨_, _, rfl, Nat.le_refl _, h6, .inl rfl⟩
        · split
          · exact ⟨_, _, rfl, Nat.le_refl _, h6, .inl rfl⟩
          · split
            · next q2 =>
              have h7 := hA q2 rfl
              split
              · exact ⟨_, _, rfl, h7, Nat.le_refl _, .inr rfl⟩
              · exact ⟨_, _, rfl, Nat.le_refl _, Nat.le_refl _, .inl rfl⟩
            · exact ⟨_, _, rfl, Nat.le_refl _, Nat.le_refl _, .inl rfl⟩
      · split
        · exact ⟨_, _, rfl, Nat.le_refl _, Nat.le_refl _, .inl rfl⟩
        · split
          · next q2 =>
            have h7 := hA q2 rfl
            split
            · exact ⟨_, _, rfl, h7, Nat.le_refl _, .inr rfl⟩
            · exact ⟨_, _, rfl, Nat.le_refl _, Nat.le_refl _, .inl rfl⟩
          · exact ⟨_, _, rfl, Nat.le_refl _, Nat.le_refl _, .inl rfl⟩
    obtain ⟨x, y, e3, e4⟩ := e2
    exact ⟨i0, b t, b (t + 1), x, y, ⟨h1, h2, hbt⟩, hal, e1, e3, e4, h3, h4, h5⟩
set_option maxHeartbeats 8000000 in
theorem objectRows_walk (w : World) (KS : ObjectSays w) (S : List UInt8) (hS : S.length ≤ maxLen) (p : Int) (hp : -9223372036854775808 ≤ p ∧ p ≤ 9223372036854775807) :
    Calls Try.prog 4 #[.string ⟨S.toArray⟩, .int .i64 p] w fun e w' => e = .returned (.bool true) ∧ Below w.heap.size w w' := by
  unfold maxLen at hS
  have HK := Lib.hid KS
  clear KS
  by_cases hs : S.length ≤ 2048
  · have hs' : ¬ (2048 : Int) < (S.length : Int) := by omega
    have hs4 : S.length ≤ 4096 := by omega
    have hal := fun wx => refMAlign S (by omega) p wx
    have HF := Lib.hid (fun ar wx hb => HK.out.find S p ar 119 wx hb hs4 hp (by decide))
    rcases row_found S p with ⟨ha, hn⟩ | ⟨halt, i0, i, j, x, y, ⟨g1, g2, g3⟩, ha, e1, e2, ⟨g4, g5, g6⟩, hin, hah, hbe⟩
    · rw [ha] at hal
      have HA := Lib.hid hal
      have F1 : Hid (∀ wx, Below w.heap.size w wx → Calls Try.prog 8 #[.string ⟨S.toArray⟩, .int .i64 p, .bool false, .int .i32 119] wx fun e w' => e = .returned (.tuple #[.int .i64 0, .int .i64 0, .bool false]) ∧ Below wx.heap.size wx w') := fun wx hb => by have := HF.out false wx hb; rw [hn] at this; exact this
      clear hal hn HF ha
      go_enter Try.func4, Try.ntmps4
      go_wp2_with (first
        | (go_at_call 7; refine (aliveO_any _ HK.out).mono ?_; rintro e w1 ⟨rfl, b1⟩)
        | (go_at_call 10; refine (HA.out _).mono ?_; rintro e w2 ⟨rfl, b2⟩; replace b2 := b1.trans (b2.mono b1.size))
        | (go_at_call 8; refine (F1.out _ b2).mono ?_; rintro e w3 ⟨rfl, b3⟩; replace b3 := b2.trans (b3.mono b2.size)))
      go_ret
      exact ⟨rfl, b3⟩
    · have HV := Lib.hid (obClass_any S (by omega) (i - 1) (by omega) _ rfl)
      have HA0 := Lib.hid (obClass_any S (by omega) i0 (by omega) _ rfl)
      have HT := Lib.hid (obClass_any S (by omega) j (by omega) _ rfl)
      have HM : Hid (∀ m, i ≤ m → m < j → ∀ X, width ((chars S).take m) = X → ∀ wx, Calls Try.prog 11 #[.string ⟨S.toArray⟩, .int .i64 (X : Nat)] wx fun e w' => e = .returned (.int .i64 (clsE S i0)) ∧ Below wx.heap.size wx w') := fun m a1 a2 X hX wx => by
        have := obClass_any S (by omega) m (by omega) X hX wx
        rwa [hin m a1 a2] at this
      have HN : Hid (∀ m, m < j → ∀ X, width ((chars S).take m) = X → ∀ wx, Calls Try.prog 13 #[.string ⟨S.toArray⟩, .int .i64 (X : Nat)] wx fun e w' => e = .returned (.int .i64 (width ((chars S).take (m + 1)) : Nat)) ∧ Below wx.heap.size wx w') := fun m a2 X hX wx => by
        have := refMNext S (by omega) (X : Nat) wx
        unfold nextM at this
        rwa [(which_is (chars S) (X : Nat)).unique (by rw [← hX]; exact which_self (by omega))] at this
      have HP : Hid (∀ X, width ((chars S).take i) = X → ∀ wx, Calls Try.prog 12 #[.string ⟨S.toArray⟩, .int .i64 (X : Nat)] wx fun e w' => e = .returned (.int .i64 (width ((chars S).take (i - 1)) : Nat)) ∧ Below wx.heap.size wx w') := fun X hX wx => by
        have := refMPrev S (by omega) (X : Nat) wx
        unfold prevM at this
        rwa [(which_is (chars S) (X : Nat)).unique (by rw [← hX]; exact which_self (by omega))] at this
      have HL : Hid (∀ m, m < j → width ((chars S).take m) < width ((chars S).take j)) := fun m hm => width_lt hm g3
      have o1 : width ((chars S).take i) ≤ width ((chars S).take i0) := width_take_mono _ g1
      have o2 : width ((chars S).take i0) < width ((chars S).take j) := HL.out i0 g2
      have o3 : width ((chars S).take j) ≤ S.length := by have := width_le_take (chars S) j; rwa [width_chars] at this
      have o4 : i = 0 → width ((chars S).take i) = 0 := fun h => by rw [h]; simp [width]
      have o5 : 0 < i → 0 < width ((chars S).take i) := fun h => by have := width_lt (S := S) h (by omega); simpa [width] using this
      have F1 : Hid (∀ wx, Below w.heap.size w wx → Calls Try.prog 8 #[.string ⟨S.toArray⟩, .int .i64 p, .bool false, .int .i32 119] wx fun e w' => e = .returned (.tuple #[.int .i64 (width ((chars S).take i) : Nat), .int .i64 (width ((chars S).take j) : Nat), .bool true]) ∧ Below wx.heap.size wx w') := fun wx hb => by have := HF.out false wx hb; rw [e1] at this; exact this
      have F2 : Hid (∀ wx, Below w.heap.size w wx → Calls Try.prog 8 #[.string ⟨S.toArray⟩, .int .i64 p, .bool true, .int .i32 119] wx fun e w' => e = .returned (.tuple #[.int .i64 (x : Nat), .int .i64 (y : Nat), .bool true]) ∧ Below wx.heap.size wx w') := fun wx hb => by have := HF.out true wx hb; rw [e2] at this; exact this
      rw [ha] at hal halt
      have HA := Lib.hid hal
      clear hal HF ha e1 e2 hin
      have hxi : Hid (∀ m, m = i → width ((chars S).take m) = width ((chars S).take i)) := fun m h => by rw [h]
      obtain ⟨F, hF⟩ : ∃ F, width ((chars S).take i) = F := ⟨_, rfl⟩
      obtain ⟨T, hT⟩ : ∃ T, width ((chars S).take j) = T := ⟨_, rfl⟩
      obtain ⟨A, hA⟩ : ∃ A, width ((chars S).take i0) = A := ⟨_, rfl⟩
      obtain ⟨V, hV⟩ : ∃ V, width ((chars S).take (i - 1)) = V := ⟨_, rfl⟩
      have HP1 := Lib.hid (HP.out F hF)
      rw [hF] at o1 o4 o5 F1 g4 g6 hxi
      rw [hT] at o2 o3 F1 g5 g6 HT HL
      rw [hA] at o1 o2 HA HA0 halt
      rw [hV] at HP1 HV
      have HFF := Lib.hid hF
      have HTT := Lib.hid hT
      clear hF hT hA hV HP
      obtain ⟨ca, hca⟩ : ∃ ca, clsE S i0 = ca := ⟨_, rfl⟩
      rw [hca] at HA0 HM hah hbe
      clear hca
      generalize clsE S (i - 1) = cv at *
      generalize clsE S j = ct at *
      have n2 : (ct == ca) = false := by rw [beq_eq_false_iff_ne]; exact hbe
      have hlt' : (A : Int) < (S.length : Int) := by omega
      have r1 : ¬ (A : Int) < (F : Int) := by omega
      have r2 : ¬ (T : Int) ≤ (A : Int) := by omega
      have r3 : ¬ (S.length : Int) < (T : Int) := by omega
      have r1' : decide (A < F) = false := by rw [decide_eq_false_iff_not]; omega
      have r2' : decide (T ≤ A) = false := by rw [decide_eq_false_iff_not]; omega
      have r3' : decide (S.length < T) = false := by rw [decide_eq_false_iff_not]; omega
      clear hbe
      by_cases hi : i = 0
      · have q0 := o4 hi
        subst q0
        have q1 : decide ((A : Int) < 0) = false := by rw [decide_eq_false_iff_not]; omega
        clear o4 o5 hah HV HP1
        go_enter Try.func4, Try.ntmps4
        go_upto_region 14 with (first
          | (go_at_call 7; refine (aliveO_any _ HK.out).mono ?_; rintro e w1 ⟨rfl, b1⟩)
          | (go_at_call 10; refine (HA.out _).mono ?_; rintro e w2 ⟨rfl, b2⟩; replace b2 := b1.trans (b2.mono b1.size))
          | (go_at_call 8; refine (F1.out _ b2).mono ?_; rintro e w3 ⟨rfl, b3⟩; replace b3 := b2.trans (b3.mono b2.size))
          | (go_at_call 11; refine use_factM b4 ?_; intro _; refine (HA0.out _).mono ?_; rintro e w5 ⟨rfl, b5⟩; replace b5 := b4.trans (b5.mono b4.size))
          | (go_at_call 11; refine (HT.out _).mono ?_; rintro e w4 ⟨rfl, b4⟩; replace b4 := b3.trans (b4.mono b3.size)))
        clear r1 r2 r3 r1' r2' r3' q1 n2 b1 b2 b3 b4
        go_loopw [9] (fun v wr => ∃ m X : Nat, v = .int .i64 X ∧ i ≤ m ∧ m ≤ j ∧ Hid (width ((chars S).take m) = X) ∧ Hid (Below w.heap.size w wr)) (fun v _ => T - (intOf v).toNat)
        case atStart => exact ⟨i, 0, rfl, Nat.le_refl _, by omega, HFF, b5⟩
        case round =>
          clear b5
          obtain ⟨m, X, rfl, hm1, hm2, HX, hb⟩ := hrel
          by_cases hlt : m < j
          · have hXT : X < T := by rw [← HX.out]; exact HL.out m hlt
            have hXT' : (X : Int) < (T : Int) := by omega
            have H1 := Lib.hid (HM.out m hm1 hlt X HX.out)
            have H2 := Lib.hid (HN.out m hlt X HX.out)
            have hmono : X < width ((chars S).take (m + 1)) := by rw [← HX.out]; exact width_lt (Nat.lt_succ_self m) (by omega)
            have hY := width_le_take (chars S) (m + 1)
            rw [width_chars] at hY
            obtain ⟨Y, hYe⟩ : ∃ Y, width ((chars S).take (m + 1)) = Y := ⟨_, rfl⟩
            rw [hYe] at H2 hmono hY
            have HY := Lib.hid hYe
            clear hYe
            go_wp2_with (first
              | (go_at_call 11; refine use_factM c1 ?_; intro _; refine (HA0.out _).mono ?_; rintro e wc2 ⟨rfl, c2⟩; replace c2 := c1.trans (c2.mono c1.size))
              | (go_at_call 11; refine (H1.out _).mono ?_; rintro e wc1 ⟨rfl, c1⟩; replace c1 := hb.out.trans (c1.mono hb.out.size))
              | (go_at_call 13; refine (H2.out _).mono ?_; rintro e wc3 ⟨rfl, c3⟩; replace c3 := c2.trans (c3.mono c2.size)))
            go_roundw
            case rel => exact ⟨m + 1, Y, rfl, by omega, by omega, HY, c3⟩
            case measure => simp [intOf]; omega
          · have hXT : ¬ (X : Int) < (T : Int) := by
              have h1 : m = j := by omega
              have h2 := HX.out
              rw [h1] at h2
              have := HTT.out
              omega
            have x1 : (x : Int) ≤ (0 : Int) := by omega
            have y1 : (T : Int) ≤ (y : Int) := by omega
            rcases g6 with h6 | h6
            · have z1 : ((x : Int) == (0 : Int)) = true := by rw [beq_iff_eq]; omega
              clear h6
              go_wp2_with (go_at_call 8; refine (F2.out _ hb.out).mono ?_; rintro e wc4 ⟨rfl, c4⟩; replace c4 := hb.out.trans (c4.mono hb.out.size))
              go_ret
              exact ⟨rfl, c4⟩
            · have z1 : ((y : Int) == (T : Int)) = true := by rw [beq_iff_eq]; omega
              clear h6
              cases z2 : ((x : Int) == (0 : Int)) with
              | true =>
                go_wp2_with (go_at_call 8; refine (F2.out _ hb.out).mono ?_; rintro e wc4 ⟨rfl, c4⟩; replace c4 := hb.out.trans (c4.mono hb.out.size))
                go_ret
                exact ⟨rfl, c4⟩
              | false =>
                go_wp2_with (go_at_call 8; refine (F2.out _ hb.out).mono ?_; rintro e wc4 ⟨rfl, c4⟩; replace c4 := hb.out.trans (c4.mono hb.out.size))
                go_ret
                exact ⟨rfl, c4⟩
      · have q0 : ((0 : Int) < (F : Int)) := by have := o5 (by omega); omega
        have q1 : decide ((F : Int) < 0) = false := by rw [decide_eq_false_iff_not]; omega
        have n1 : (cv == ca) = false := by rw [beq_eq_false_iff_ne]; exact hah (by omega)
        have q2 : decide (0 < F) = true := by rw [decide_eq_true_iff]; omega
        clear o4 o5 hah
        go_enter Try.func4, Try.ntmps4
        go_upto_region 14 with (first
          | (go_at_call 7; refine (aliveO_any _ HK.out).mono ?_; rintro e w1 ⟨rfl, b1⟩)
          | (go_at_call 10; refine (HA.out _).mono ?_; rintro e w2 ⟨rfl, b2⟩; replace b2 := b1.trans (b2.mono b1.size))
          | (go_at_call 8; refine (F1.out _ b2).mono ?_; rintro e w3 ⟨rfl, b3⟩; replace b3 := b2.trans (b3.mono b2.size))
          | (go_at_call 11; refine use_factM b7 ?_; intro _; refine (HA0.out _).mono ?_; rintro e w8 ⟨rfl, b8⟩; replace b8 := b7.trans (b8.mono b7.size))
          | (go_at_call 11; refine use_factM b6 ?_; intro _; refine (HT.out _).mono ?_; rintro e w7 ⟨rfl, b7⟩; replace b7 := b6.trans (b7.mono b6.size))
          | (go_at_call 11; refine use_factM b5 ?_; intro _; refine (HA0.out _).mono ?_; rintro e w6 ⟨rfl, b6⟩; replace b6 := b5.trans (b6.mono b5.size))
          | (go_at_call 11; refine use_factM b4 ?_; intro _; refine (HV.out _).mono ?_; rintro e w5 ⟨rfl, b5⟩; replace b5 := b4.trans (b5.mono b4.size))
          | (go_at_call 12; refine (HP1.out _).mono ?_; rintro e w4 ⟨rfl, b4⟩; replace b4 := b3.trans (b4.mono b3.size)))
        clear r1 r2 r3 r1' r2' r3' q0 q1 q2 n1 n2 b1 b2 b3 b4 b5 b6 b7
        go_loopw [9] (fun v wr => ∃ m X : Nat, v = .int .i64 X ∧ i ≤ m ∧ m ≤ j ∧ Hid (width ((chars S).take m) = X) ∧ Hid (Below w.heap.size w wr)) (fun v _ => T - (intOf v).toNat)
        case atStart => exact ⟨i, F, rfl, Nat.le_refl _, by omega, HFF, b8⟩
        case round =>
          clear b8
          obtain ⟨m, X, rfl, hm1, hm2, HX, hb⟩ := hrel
          by_cases hlt : m < j
          · have hXT : X < T := by rw [← HX.out]; exact HL.out m hlt
            have hXT' : (X : Int) < (T : Int) := by omega
            have H1 := Lib.hid (HM.out m hm1 hlt X HX.out)
            have H2 := Lib.hid (HN.out m hlt X HX.out)
            have hmono : X < width ((chars S).take (m + 1)) := by rw [← HX.out]; exact width_lt (Nat.lt_succ_self m) (by omega)
            have hY := width_le_take (chars S) (m + 1)
            rw [width_chars] at hY
            obtain ⟨Y, hYe⟩ : ∃ Y, width ((chars S).take (m + 1)) = Y := ⟨_, rfl⟩
            rw [hYe] at H2 hmono hY
            have HY := Lib.hid hYe
            clear hYe
            go_wp2_with (first
              | (go_at_call 11; refine use_factM c1 ?_; intro _; refine (HA0.out _).mono ?_; rintro e wc2 ⟨rfl, c2⟩; replace c2 := c1.trans (c2.mono c1.size))
              | (go_at_call 11; refine (H1.out _).mono ?_; rintro e wc1 ⟨rfl, c1⟩; replace c1 := hb.out.trans (c1.mono hb.out.size))
              | (go_at_call 13; refine (H2.out _).mono ?_; rintro e wc3 ⟨rfl, c3⟩; replace c3 := c2.trans (c3.mono c2.size)))
            go_roundw
            case rel => exact ⟨m + 1, Y, rfl, by omega, by omega, HY, c3⟩
            case measure => simp [intOf]; omega
          · have hXT : ¬ (X : Int) < (T : Int) := by
              have h1 : m = j := by omega
              have h2 := HX.out
              rw [h1] at h2
              have := HTT.out
              omega
            have x1 : (x : Int) ≤ (F : Int) := by omega
            have y1 : (T : Int) ≤ (y : Int) := by omega
            rcases g6 with h6 | h6
            · have z1 : ((x : Int) == (F : Int)) = true := by rw [beq_iff_eq]; omega
              clear h6
              go_wp2_with (go_at_call 8; refine (F2.out _ hb.out).mono ?_; rintro e wc4 ⟨rfl, c4⟩; replace c4 := hb.out.trans (c4.mono hb.out.size))
              go_ret
              exact ⟨rfl, c4⟩
            · have z1 : ((y : Int) == (T : Int)) = true := by rw [beq_iff_eq]; omega
              clear h6
              cases z2 : ((x : Int) == (F : Int)) with
              | true =>
                go_wp2_with (go_at_call 8; refine (F2.out _ hb.out).mono ?_; rintro e wc4 ⟨rfl, c4⟩; replace c4 := hb.out.trans (c4.mono hb.out.size))
                go_ret
                exact ⟨rfl, c4⟩
              | false =>
                go_wp2_with (go_at_call 8; refine (F2.out _ hb.out).mono ?_; rintro e wc4 ⟨rfl, c4⟩; replace c4 := hb.out.trans (c4.mono hb.out.size))
                go_ret
                exact ⟨rfl, c4⟩
  · have hs' : (2048 : Int) < (S.length : Int) := by omega
    go_enter Try.func4, Try.ntmps4
    go_wp2_with (go_at_call 7; refine (aliveO_any _ HK.out).mono ?_; rintro e w1 ⟨rfl, b1⟩)
    go_ret
    exact ⟨rfl, b1⟩
end Go.Proofs.Ytnkhlallnblfmaa
