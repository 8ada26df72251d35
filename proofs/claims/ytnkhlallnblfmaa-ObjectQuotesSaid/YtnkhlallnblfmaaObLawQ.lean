/-
  What stands between quotes has no such quote, and no line end: layer 13.
-/
import Derived.Test.YtnkhlallnblfmaaObSays
import Derived.Test.YtnkhlallnblfmaaObBal
namespace Go.Proofs.Ytnkhlallnblfmaa
open Go.RowKit

theorem quote_found (S : List UInt8) (p : Int) (q : UInt8) (hq : q = 34 ∨ q = 39) :
    (∀ ar, findO S p ar (q.toNat : Nat) = none) ∨ ∃ f t : Nat, ∃ (h1 : f < t) (h2 : t < S.length), S[f]'(by omega) = q ∧ S[t] = q ∧ alignM S p ≤ t ∧ (∀ i, f < i → ∀ h : i < t, S[i]'(by omega) ≠ q ∧ S[i]'(by omega) ≠ 10) ∧ findO S p false (q.toNat : Nat) = some (f + 1, t) ∧ findO S p true (q.toNat : Nat) = some (f, t + 1) := by
  have hk : ((q.toNat : Nat) : Int) ≠ 119 := by rcases hq with rfl | rfl <;> decide
  have hq3 : ((q.toNat : Nat) : Int) = 34 ∨ ((q.toNat : Nat) : Int) = 39 := by
    rcases hq with rfl | rfl
    · exact .inl rfl
    · exact .inr rfl
  have e1 : inS (q.toNat : Nat) [40, 41, 98] = false := by rcases hq with rfl | rfl <;> rfl
  have e2 : inS (q.toNat : Nat) [91, 93] = false := by rcases hq with rfl | rfl <;> rfl
  have e3 : inS (q.toNat : Nat) [123, 125, 66] = false := by rcases hq with rfl | rfl <;> rfl
  have e4 : UInt8.ofNat ((q.toNat : Nat) : Int).toNat = q := by rw [Int.toNat_natCast]; exact UInt8.ofNat_toNat
  by_cases ha : alignM S p = S.length
  · left
    intro ar
    unfold findO
    rw [if_pos ha]
  · have hf : ∀ ar, findO S p ar (q.toNat : Nat) = betweenM (quoteAt (quotesM S (ofL S (alignM S p : Nat) : Nat) q) (alignM S p)) ar := fun ar => by
      unfold findO
      rw [if_neg ha, if_neg hk, if_neg (by rw [e1]; decide), if_neg (by rw [e2]; decide), if_neg (by rw [e3]; decide), if_pos hq3, e4]
    have hmk := quotes_marks S (ofL S (alignM S p : Nat) : Nat) q
    have hln := ofL_le S (alignM S p : Nat)
    obtain ⟨n, hn⟩ : ∃ n, ofL S (alignM S p : Nat) = n := ⟨_, rfl⟩
    rw [hn] at hmk hln
    simp only [hn] at hf
    rw [boundsL_nat hln] at hmk
    generalize quotesM S (n : Nat) q = l at *
    rcases hr : quoteAt l (alignM S p) with _ | x
    · left
      intro ar
      rw [hf, hr]
      rfl
    · right
      have hx := hmk x (quote_mem hr)
      obtain ⟨⟨a1, a2, a3⟩, a4, a5, a6⟩ := hx
      dsimp only at a1 a3
      have hen := end_le hln
      have h2 : x.2.1 < S.length := by omega
      have get : ∀ i (h : i < S.length), S.getD i 0 = S[i] := fun i h => by rw [List.getD_eq_getElem?_getD, List.getElem?_eq_getElem h]; rfl
      refine ⟨x.1, x.2.1, a2, h2, by rw [← get]; exact a4, by rw [← get]; exact a5, ?_, fun i h3 h4 => ⟨by rw [← get]; exact a6 i h3 h4, fun h5 => ?_⟩, by rw [hf, hr]; rfl, by rw [hf, hr]; rfl⟩
      · unfold quoteAt at hr
        split at hr
        · next y hy =>
          injection hr with hr
          subst hr
          exact (about_in hy).2
        · have := List.find?_some hr
          have := of_decide_eq_true this
          omega
      · refine line_clear hln (x := i) (Nat.le_trans a1 (Nat.le_of_lt h3)) (by omega) ?_
        rw [List.getElem?_eq_getElem (by omega), h5]
set_option maxHeartbeats 8000000 in
theorem objectQuotes_walk (w : World) (KS : ObjectSays w) (S : List UInt8) (hS : S.length ≤ maxLen) (p : Int) (hp : -9223372036854775808 ≤ p ∧ p ≤ 9223372036854775807) (sg : Bool) :
    Calls Try.prog 6 #[.string ⟨S.toArray⟩, .int .i64 p, .bool sg] w fun e w' => e = .returned (.bool true) ∧ Below w.heap.size w w' := by
  unfold maxLen at hS
  have HK := Lib.hid KS
  clear KS
  by_cases hs : S.length ≤ 2048
  · have hs' : ¬ (2048 : Int) < (S.length : Int) := by omega
    have hs4 : S.length ≤ 4096 := by omega
    have hal := fun wx => refMAlign S (by omega) p wx
    have key : ∀ q : UInt8, (q = 34 ∨ q = 39) → (-2147483648 ≤ ((q.toNat : Nat) : Int) ∧ ((q.toNat : Nat) : Int) ≤ 2147483647) := fun q h => by rcases h with rfl | rfl <;> decide
    have HF := Lib.hid (fun ar (q : UInt8) hq wx hb => HK.out.find S p ar (q.toNat : Nat) wx hb hs4 hp (key q hq))
    clear key
    obtain ⟨a, ha⟩ : ∃ a, alignM S p = a := ⟨_, rfl⟩
    rw [ha] at hal
    have HA := Lib.hid hal
    clear hal
    cases sg with
    | true =>
      rcases quote_found S p 39 (.inr rfl) with hn | ⟨f, t, h1, h2, e1, e2, h3, h4, h5, h6⟩
      · have H1 : Hid (∀ wx, Below w.heap.size w wx → Calls Try.prog 8 #[.string ⟨S.toArray⟩, .int .i64 p, .bool false, .int .i32 39] wx fun e w' => e = .returned (.tuple #[.int .i64 0, .int .i64 0, .bool false]) ∧ Below wx.heap.size wx w') := fun wx hb => by have := HF.out false 39 (.inr rfl) wx hb; rw [hn] at this; exact this
        have H2 : Hid (∀ wx, Below w.heap.size w wx → Calls Try.prog 8 #[.string ⟨S.toArray⟩, .int .i64 p, .bool true, .int .i32 39] wx fun e w' => e = .returned (.tuple #[.int .i64 0, .int .i64 0, .bool false]) ∧ Below wx.heap.size wx w') := fun wx hb => by have := HF.out true 39 (.inr rfl) wx hb; rw [hn] at this; exact this
        clear hn HF
        go_enter Try.func6, Try.ntmps6
        go_wp2_with (first
          | (go_at_call 8; refine use_factM b2 ?_; intro _; refine (H2.out _ b2).mono ?_; rintro e w3 ⟨rfl, b3⟩; replace b3 := b2.trans (b3.mono b2.size))
          | (go_at_call 8; refine (H1.out _ b1).mono ?_; rintro e w2 ⟨rfl, b2⟩; replace b2 := b1.trans (b2.mono b1.size))
          | (go_at_call 7; refine (aliveO_any _ HK.out).mono ?_; rintro e w1 ⟨rfl, b1⟩))
        go_ret
        exact ⟨rfl, b3⟩
      · have H1 : Hid (∀ wx, Below w.heap.size w wx → Calls Try.prog 8 #[.string ⟨S.toArray⟩, .int .i64 p, .bool false, .int .i32 39] wx fun e w' => e = .returned (.tuple #[.int .i64 ((f + 1 : Nat) : Int), .int .i64 (t : Nat), .bool true]) ∧ Below wx.heap.size wx w') := fun wx hb => by have := HF.out false 39 (.inr rfl) wx hb; rw [show findO S p false (((39 : UInt8).toNat : Nat) : Int) = _ from h5] at this; exact this
        have H2 : Hid (∀ wx, Below w.heap.size w wx → Calls Try.prog 8 #[.string ⟨S.toArray⟩, .int .i64 p, .bool true, .int .i32 39] wx fun e w' => e = .returned (.tuple #[.int .i64 (f : Nat), .int .i64 ((t + 1 : Nat) : Int), .bool true]) ∧ Below wx.heap.size wx w') := fun wx hb => by have := HF.out true 39 (.inr rfl) wx hb; rw [show findO S p true (((39 : UInt8).toNat : Nat) : Int) = _ from h6] at this; exact this
        clear h5 h6 HF
        rw [ha] at h3
        have hg1 := byte_at S f (by omega)
        have hg2 := byte_at S t h2
        rw [e1] at hg1
        rw [e2] at hg2
        have HC := Lib.hid h4
        clear h4 e1 e2
        obtain ⟨f1, hf1⟩ : ∃ f1, f + 1 = f1 := ⟨_, rfl⟩
        rw [hf1] at H1
        have q1 : (f1 : Int) - 1 = (f : Int) := by omega
        go_enter Try.func6, Try.ntmps6
        go_upto_region 17 with (first
          | (go_at_call 8; refine use_factM b2 ?_; intro _; refine (H2.out _ b2).mono ?_; rintro e w3 ⟨rfl, b3⟩; replace b3 := b2.trans (b3.mono b2.size))
          | (go_at_call 8; refine (H1.out _ b1).mono ?_; rintro e w2 ⟨rfl, b2⟩; replace b2 := b1.trans (b2.mono b1.size))
          | (go_at_call 7; refine (aliveO_any _ HK.out).mono ?_; rintro e w1 ⟨rfl, b1⟩)
          | (go_at_call 10; refine (HA.out _).mono ?_; rintro e w4 ⟨rfl, b4⟩; replace b4 := b3.trans (b4.mono b3.size)))
        clear hg1 hg2
        go_loopw [14] (fun i wr => ∃ n : Nat, i = .int .i64 n ∧ f < n ∧ n ≤ t ∧ Below w.heap.size w wr) (fun i _ => t - (intOf i).toNat)
        case atStart => exact ⟨f1, rfl, by omega, by omega, b4⟩
        case round =>
          clear b1 b2 b3 b4
          obtain ⟨n, rfl, hn1, hn2, hb⟩ := hrel
          by_cases hlt : n < t
          · obtain ⟨c1, c2⟩ := HC.out n hn1 hlt
            have hg := byte_at S n (by omega)
            generalize S[n]'(by omega) = b at *
            have d1 : ((b.toNat : Int) == 39) = false := by rw [beq_eq_false_iff_ne]; intro h; exact c1 (UInt8.toNat_inj.1 (by show b.toNat = 39; omega))
            have d2 : ((b.toNat : Int) == 10) = false := by rw [beq_eq_false_iff_ne]; intro h; exact c2 (UInt8.toNat_inj.1 (by show b.toNat = 10; omega))
            clear c1 c2
            have hn3 : (n : Int) < (S.length : Int) := by omega
            go_wp2_with fail
            go_roundw
            case rel => exact ⟨n + 1, by go_num, by omega, by omega, hb⟩
            case measure => simp [intOf]; omega
          · go_wp2_with fail
            go_ret
            exact ⟨rfl, hb⟩
    | false =>
      rcases quote_found S p 34 (.inl rfl) with hn | ⟨f, t, h1, h2, e1, e2, h3, h4, h5, h6⟩
      · have H1 : Hid (∀ wx, Below w.heap.size w wx → Calls Try.prog 8 #[.string ⟨S.toArray⟩, .int .i64 p, .bool false, .int .i32 34] wx fun e w' => e = .returned (.tuple #[.int .i64 0, .int .i64 0, .bool false]) ∧ Below wx.heap.size wx w') := fun wx hb => by have := HF.out false 34 (.inl rfl) wx hb; rw [hn] at this; exact this
        have H2 : Hid (∀ wx, Below w.heap.size w wx → Calls Try.prog 8 #[.string ⟨S.toArray⟩, .int .i64 p, .bool true, .int .i32 34] wx fun e w' => e = .returned (.tuple #[.int .i64 0, .int .i64 0, .bool false]) ∧ Below wx.heap.size wx w') := fun wx hb => by have := HF.out true 34 (.inl rfl) wx hb; rw [hn] at this; exact this
        clear hn HF
        go_enter Try.func6, Try.ntmps6
        go_wp2_with (first
          | (go_at_call 8; refine use_factM b2 ?_; intro _; refine (H2.out _ b2).mono ?_; rintro e w3 ⟨rfl, b3⟩; replace b3 := b2.trans (b3.mono b2.size))
          | (go_at_call 8; refine (H1.out _ b1).mono ?_; rintro e w2 ⟨rfl, b2⟩; replace b2 := b1.trans (b2.mono b1.size))
          | (go_at_call 7; refine (aliveO_any _ HK.out).mono ?_; rintro e w1 ⟨rfl, b1⟩))
        go_ret
        exact ⟨rfl, b3⟩
      · have H1 : Hid (∀ wx, Below w.heap.size w wx → Calls Try.prog 8 #[.string ⟨S.toArray⟩, .int .i64 p, .bool false, .int .i32 34] wx fun e w' => e = .returned (.tuple #[.int .i64 ((f + 1 : Nat) : Int), .int .i64 (t : Nat), .bool true]) ∧ Below wx.heap.size wx w') := fun wx hb => by have := HF.out false 34 (.inl rfl) wx hb; rw [show findO S p false (((34 : UInt8).toNat : Nat) : Int) = _ from h5] at this; exact this
        have H2 : Hid (∀ wx, Below w.heap.size w wx → Calls Try.prog 8 #[.string ⟨S.toArray⟩, .int .i64 p, .bool true, .int .i32 34] wx fun e w' => e = .returned (.tuple #[.int .i64 (f : Nat), .int .i64 ((t + 1 : Nat) : Int), .bool true]) ∧ Below wx.heap.size wx w') := fun wx hb => by have := HF.out true 34 (.inl rfl) wx hb; rw [show findO S p true (((34 : UInt8).toNat : Nat) : Int) = _ from h6] at this; exact this
        clear h5 h6 HF
        rw [ha] at h3
        have hg1 := byte_at S f (by omega)
        have hg2 := byte_at S t h2
        rw [e1] at hg1
        rw [e2] at hg2
        have HC := Lib.hid h4
        clear h4 e1 e2
        obtain ⟨f1, hf1⟩ : ∃ f1, f + 1 = f1 := ⟨_, rfl⟩
        rw [hf1] at H1
        have q1 : (f1 : Int) - 1 = (f : Int) := by omega
        go_enter Try.func6, Try.ntmps6
        go_upto_region 17 with (first
          | (go_at_call 8; refine use_factM b2 ?_; intro _; refine (H2.out _ b2).mono ?_; rintro e w3 ⟨rfl, b3⟩; replace b3 := b2.trans (b3.mono b2.size))
          | (go_at_call 8; refine (H1.out _ b1).mono ?_; rintro e w2 ⟨rfl, b2⟩; replace b2 := b1.trans (b2.mono b1.size))
          | (go_at_call 7; refine (aliveO_any _ HK.out).mono ?_; rintro e w1 ⟨rfl, b1⟩)
          | (go_at_call 10; refine (HA.out _).mono ?_; rintro e w4 ⟨rfl, b4⟩; replace b4 := b3.trans (b4.mono b3.size)))
        clear hg1 hg2
        go_loopw [14] (fun i wr => ∃ n : Nat, i = .int .i64 n ∧ f < n ∧ n ≤ t ∧ Below w.heap.size w wr) (fun i _ => t - (intOf i).toNat)
        case atStart => exact ⟨f1, rfl, by omega, by omega, b4⟩
        case round =>
          clear b1 b2 b3 b4
          obtain ⟨n, rfl, hn1, hn2, hb⟩ := hrel
          by_cases hlt : n < t
          · obtain ⟨c1, c2⟩ := HC.out n hn1 hlt
            have hg := byte_at S n (by omega)
            generalize S[n]'(by omega) = b at *
            have d1 : ((b.toNat : Int) == 34) = false := by rw [beq_eq_false_iff_ne]; intro h; exact c1 (UInt8.toNat_inj.1 (by show b.toNat = 34; omega))
            have d2 : ((b.toNat : Int) == 10) = false := by rw [beq_eq_false_iff_ne]; intro h; exact c2 (UInt8.toNat_inj.1 (by show b.toNat = 10; omega))
            clear c1 c2
            have hn3 : (n : Int) < (S.length : Int) := by omega
            go_wp2_with fail
            go_roundw
            case rel => exact ⟨n + 1, by go_num, by omega, by omega, hb⟩
            case measure => simp [intOf]; omega
          · go_wp2_with fail
            go_ret
            exact ⟨rfl, hb⟩
  · have hs' : (2048 : Int) < (S.length : Int) := by omega
    go_enter Try.func6, Try.ntmps6
    go_wp2_with (go_at_call 7; refine (aliveO_any _ HK.out).mono ?_; rintro e w1 ⟨rfl, b1⟩)
    go_ret
    exact ⟨rfl, b1⟩
end Go.Proofs.Ytnkhlallnblfmaa
