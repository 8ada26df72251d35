/-
  What stands between brackets is balanced: layer 13.
-/
import Derived.Test.YtnkhlallnblfmaaObSays
import Derived.Test.YtnkhlallnblfmaaObBal
import Derived.BigQuiet
namespace Go.Proofs.Ytnkhlallnblfmaa
open Go.RowKit

theorem bracket_key (S : List UInt8) (p : Int) (ar : Bool) {o s : UInt8} (h : (o = 40 ∧ s = 41) ∨ (o = 91 ∧ s = 93) ∨ (o = 123 ∧ s = 125)) (k : UInt8) (hk : k = o ∨ k = s) :
    findO S p ar (k.toNat : Nat) = if alignM S p = S.length then none else betweenM (aboutM (bracketsM S o s) (alignM S p)) ar := by
  rcases h with ⟨rfl, rfl⟩ | ⟨rfl, rfl⟩ | ⟨rfl, rfl⟩
  all_goals rcases hk with rfl | rfl
  all_goals rfl
theorem dep_le (S : List UInt8) (o s : UInt8) (f : Nat) : ∀ j, depO S o s f j ≤ j
  | 0 => Int.le_refl 0
  | j + 1 => by
    have ih := dep_le S o s f j
    show depO S o s f j + (if S.getD (f + j) 0 = o then 1 else 0) - (if S.getD (f + j) 0 = s then 1 else 0) ≤ _
    split <;> split <;> omega
theorem dep_open {S : List UInt8} {o s : UInt8} {f j : Nat} (hos : o ≠ s) (h : S.getD (f + j) 0 = o) : depO S o s f (j + 1) = depO S o s f j + 1 := by
  show depO S o s f j + (if S.getD (f + j) 0 = o then 1 else 0) - (if S.getD (f + j) 0 = s then 1 else 0) = _
  rw [if_pos h, if_neg (by rw [h]; exact hos)]
  omega
theorem dep_shut {S : List UInt8} {o s : UInt8} {f j : Nat} (hos : o ≠ s) (h : S.getD (f + j) 0 = s) : depO S o s f (j + 1) = depO S o s f j - 1 := by
  show depO S o s f j + (if S.getD (f + j) 0 = o then 1 else 0) - (if S.getD (f + j) 0 = s then 1 else 0) = _
  rw [if_neg (by rw [h]; exact hos.symm), if_pos h]
  omega
theorem dep_same {S : List UInt8} {o s : UInt8} {f j : Nat} (h : S.getD (f + j) 0 ≠ o) (h2 : S.getD (f + j) 0 ≠ s) : depO S o s f (j + 1) = depO S o s f j := by
  show depO S o s f j + (if S.getD (f + j) 0 = o then 1 else 0) - (if S.getD (f + j) 0 = s then 1 else 0) = _
  rw [if_neg h, if_neg h2]
  omega
theorem bracket_found (S : List UInt8) (p : Int) {o s : UInt8} (h : (o = 40 ∧ s = 41) ∨ (o = 91 ∧ s = 93) ∨ (o = 123 ∧ s = 125)) :
    (findO S p false (o.toNat : Nat) = none ∧ findO S p true (s.toNat : Nat) = none) ∨ ∃ f t : Nat, ∃ (h1 : f < t) (h2 : t < S.length), S[f]'(by omega) = o ∧ S[t] = s ∧ f ≤ alignM S p ∧ alignM S p ≤ t ∧ BalO S o s (f + 1) t ∧ findO S p false (o.toNat : Nat) = some (f + 1, t) ∧ findO S p true (s.toNat : Nat) = some (f, t + 1) := by
  have hos : o ≠ s := by rcases h with ⟨rfl, rfl⟩ | ⟨rfl, rfl⟩ | ⟨rfl, rfl⟩ <;> decide
  rw [bracket_key S p false h o (.inl rfl), bracket_key S p true h s (.inr rfl)]
  by_cases ha : alignM S p = S.length
  · left
    exact ⟨if_pos ha, if_pos ha⟩
  · rw [if_neg ha, if_neg ha]
    have hmk := brackets_pairs (S := S) hos
    generalize bracketsM S o s = l at *
    rcases hr : aboutM l (alignM S p) with _ | x
    · left
      exact ⟨rfl, rfl⟩
    · right
      obtain ⟨a1, a2, a3, a4, a5⟩ := hmk x (about_mem hr)
      have get : ∀ i (h : i < S.length), S.getD i 0 = S[i] := fun i h => by rw [List.getD_eq_getElem?_getD, List.getElem?_eq_getElem h]; rfl
      have hin := about_in hr
      exact ⟨x.1, x.2.1, a1, a2, by rw [← get]; exact a3, by rw [← get]; exact a4, hin.1, hin.2, a5, rfl, rfl⟩
set_option maxHeartbeats 8000000 in
theorem objectBrackets_walk (w : World) (KS : ObjectSays w) (S : List UInt8) (hS : S.length ≤ maxLen) (p : Int) (hp : -9223372036854775808 ≤ p ∧ p ≤ 9223372036854775807) (kd : Int) (hkd : 0 ≤ kd ∧ kd ≤ 255) :
    Calls Try.prog 5 #[.string ⟨S.toArray⟩, .int .i64 p, .int .u8 kd] w fun e w' => e = .returned (.bool true) ∧ Below w.heap.size w w' := by
  unfold maxLen at hS
  have HK := Lib.hid KS
  clear KS
  obtain ⟨kn, rfl⟩ : ∃ kn : Nat, kd = (kn : Int) := ⟨kd.toNat, by omega⟩
  by_cases hs : S.length ≤ 2048
  · have hs' : ¬ (2048 : Int) < (S.length : Int) := by omega
    have hs4 : S.length ≤ 4096 := by omega
    have hal := fun wx => refMAlign S (by omega) p wx
    have HF := Lib.hid (fun ar (q : UInt8) wx hb => HK.out.find S p ar (q.toNat : Nat) wx hb hs4 hp (by have := q.toNat_lt; omega))
    obtain ⟨a, ha⟩ : ∃ a, alignM S p = a := ⟨_, rfl⟩
    rw [ha] at hal
    have HA := Lib.hid hal
    clear hal
    rcases (show kn % 3 = 0 ∨ kn % 3 = 1 ∨ kn % 3 = 2 by omega) with hm | hm | hm
    · have hm' : ((kn : Int).tmod 3) = 0 := by rw [Int.tmod_eq_emod_of_nonneg (by omega)]; omega
      rcases bracket_found S p (o := 40) (s := 41) (.inl ⟨rfl, rfl⟩) with ⟨hn1, hn2⟩ | ⟨f, t, h1, h2, e1, e2, h3, h4, h5, h6, h7⟩
      · have H1 : Hid (∀ wx, Below w.heap.size w wx → Calls Try.prog 8 #[.string ⟨S.toArray⟩, .int .i64 p, .bool false, .int .i32 40] wx fun e w' => e = .returned (.tuple #[.int .i64 0, .int .i64 0, .bool false]) ∧ Below wx.heap.size wx w') := fun wx hb => by have := HF.out false 40 wx hb; rw [hn1] at this; exact this
        have H2 : Hid (∀ wx, Below w.heap.size w wx → Calls Try.prog 8 #[.string ⟨S.toArray⟩, .int .i64 p, .bool true, .int .i32 41] wx fun e w' => e = .returned (.tuple #[.int .i64 0, .int .i64 0, .bool false]) ∧ Below wx.heap.size wx w') := fun wx hb => by have := HF.out true 41 wx hb; rw [hn2] at this; exact this
        clear hn1 hn2 HF
        go_enter Try.func5, Try.ntmps5
        go_upto_region 6 with (go_at_call 7; refine (aliveO_any _ HK.out).mono ?_; rintro e w1 ⟨rfl, b1⟩)
        go_quiet (fail)
        have bq := below_drewN b1 nq
        have x1 : ∀ h, (({ data := #[40, 91, 123] } : ByteArray)[0]'h).toNat = 40 := fun _ => rfl
        have x2 : ∀ h, (({ data := #[41, 93, 125] } : ByteArray)[0]'h).toNat = 41 := fun _ => rfl
        simp only [x1, x2]
        clear x1 x2 b1
        generalize w1.drewN nq = wq at *
        go_wp2_with (first
          | (go_at_call 8; refine use_factM b2 ?_; intro _; (with_reducible refine (H2.out _ b2).mono ?_); rintro e w3 ⟨rfl, b3⟩; replace b3 := b2.trans (b3.mono b2.size))
          | (go_at_call 8; (with_reducible refine (H1.out _ bq).mono ?_); rintro e w2 ⟨rfl, b2⟩; replace b2 := bq.trans (b2.mono bq.size)))
        go_ret
        exact ⟨rfl, b3⟩
      · have H1 : Hid (∀ wx, Below w.heap.size w wx → Calls Try.prog 8 #[.string ⟨S.toArray⟩, .int .i64 p, .bool false, .int .i32 40] wx fun e w' => e = .returned (.tuple #[.int .i64 ((f + 1 : Nat) : Int), .int .i64 (t : Nat), .bool true]) ∧ Below wx.heap.size wx w') := fun wx hb => by have := HF.out false 40 wx hb; rw [show findO S p false (((40 : UInt8).toNat : Nat) : Int) = _ from h6] at this; exact this
        have H2 : Hid (∀ wx, Below w.heap.size w wx → Calls Try.prog 8 #[.string ⟨S.toArray⟩, .int .i64 p, .bool true, .int .i32 41] wx fun e w' => e = .returned (.tuple #[.int .i64 (f : Nat), .int .i64 ((t + 1 : Nat) : Int), .bool true]) ∧ Below wx.heap.size wx w') := fun wx hb => by have := HF.out true 41 wx hb; rw [show findO S p true (((41 : UInt8).toNat : Nat) : Int) = _ from h7] at this; exact this
        clear h6 h7 HF
        rw [ha] at h3 h4
        have hg1 := byte_at S f (by omega)
        have hg2 := byte_at S t h2
        rw [e1] at hg1
        rw [e2] at hg2
        have HC := Lib.hid h5
        clear h5 e1 e2
        obtain ⟨f1, hf1⟩ : ∃ f1, f + 1 = f1 := ⟨_, rfl⟩
        rw [hf1] at H1 HC
        have q1 : (f1 : Int) - 1 = (f : Int) := by omega
        have r1 : decide ((f1 : Int) < 1) = false := by rw [decide_eq_false_iff_not]; omega
        have r2 : decide (t < f1) = false := by rw [decide_eq_false_iff_not]; omega
        have r3 : decide (S.length ≤ t) = false := by rw [decide_eq_false_iff_not]; omega
        have r4 : decide (a < f) = false := by rw [decide_eq_false_iff_not]; omega
        have r5 : decide (t < a) = false := by rw [decide_eq_false_iff_not]; omega
        go_enter Try.func5, Try.ntmps5
        go_upto_region 6 with (go_at_call 7; refine (aliveO_any _ HK.out).mono ?_; rintro e w1 ⟨rfl, b1⟩)
        go_quiet (fail)
        have bq := below_drewN b1 nq
        have x1 : ∀ h, (({ data := #[40, 91, 123] } : ByteArray)[0]'h).toNat = 40 := fun _ => rfl
        have x2 : ∀ h, (({ data := #[41, 93, 125] } : ByteArray)[0]'h).toNat = 41 := fun _ => rfl
        simp only [x1, x2]
        clear x1 x2 b1
        generalize w1.drewN nq = wq at *
        go_upto_region 18 with (first
          | (go_at_call 8; refine use_factM b2 ?_; intro _; (with_reducible refine (H2.out _ b2).mono ?_); rintro e w3 ⟨rfl, b3⟩; replace b3 := b2.trans (b3.mono b2.size))
          | (go_at_call 8; (with_reducible refine (H1.out _ bq).mono ?_); rintro e w2 ⟨rfl, b2⟩; replace b2 := bq.trans (b2.mono bq.size))
          | (go_at_call 10; refine (HA.out _).mono ?_; rintro e w4 ⟨rfl, b4⟩; replace b4 := b3.trans (b4.mono b3.size)))
        clear hg1 hg2 q1 r1 r2 r3 r4 r5
        go_loopw [17, 18] (fun d i wr => ∃ j : Nat, d = .int .i64 (depO S 40 41 f1 j) ∧ i = .int .i64 ((f1 + j : Nat) : Int) ∧ f1 + j ≤ t ∧ Below w.heap.size w wr) (fun _ i _ => t - (intOf i).toNat)
        case atStart => exact ⟨0, rfl, rfl, by omega, b4⟩
        case round =>
          clear b2 b3 b4
          obtain ⟨j, rfl, rfl, hj, hb⟩ := hrel
          have hd1 := HC.out.2.1 j hj
          have hd2 := dep_le S 40 41 f1 j
          by_cases hlt : f1 + j < t
          · have hd3 := HC.out.2.1 (j + 1) (by omega)
            have hg := byte_at S (f1 + j) (by omega)
            have hget : S.getD (f1 + j) 0 = S[f1 + j]'(by omega) := by rw [List.getD_eq_getElem?_getD, List.getElem?_eq_getElem (by omega)]; rfl
            have ho := dep_open (S := S) (o := 40) (s := 41) (f := f1) (j := j) (by decide)
            have hc := dep_shut (S := S) (o := 40) (s := 41) (f := f1) (j := j) (by decide)
            have hx := dep_same (S := S) (o := 40) (s := 41) (f := f1) (j := j)
            rw [hget] at ho hc hx
            have hin : ((f1 + j : Nat) : Int) < (S.length : Int) := by omega
            have HJ : Hid (((f1 + j : Nat) : Int) + 1 = ((f1 + (j + 1) : Nat) : Int)) := by show _ = _; omega
            generalize S[f1 + j]'(by omega) = b at *
            generalize hdd : depO S 40 41 f1 (j + 1) = dd at *
            have HDD := Lib.hid hdd
            clear hdd hget
            generalize depO S 40 41 f1 j = d at *
            have hnlt : (f1 + j : Nat) < t := hlt
            by_cases b1 : b = 40
            · subst b1
              have hv := ho rfl
              clear ho hc hx
              have hneg : ¬ d + 1 < 0 := by omega
              go_wp2_with fail
              go_roundw
              case rel => exact ⟨j + 1, by rw [HDD.out, hv], by go_num, by omega, hb⟩
              case measure => simp [intOf]; omega
            · by_cases b2 : b = 41
              · subst b2
                have hv := hc rfl
                clear ho hc hx
                have hneg : ¬ d - 1 < 0 := by omega
                go_wp2_with fail
                go_roundw
                case rel => exact ⟨j + 1, by rw [HDD.out, hv], by go_num, by omega, hb⟩
                case measure => simp [intOf]; omega
              · have hv := hx b1 b2
                clear ho hc hx
                have d1 : ((b.toNat : Int) == 40) = false := by rw [beq_eq_false_iff_ne]; intro h; exact b1 (UInt8.toNat_inj.1 (by show b.toNat = 40; omega))
                have d2 : ((b.toNat : Int) == 41) = false := by rw [beq_eq_false_iff_ne]; intro h; exact b2 (UInt8.toNat_inj.1 (by show b.toNat = 41; omega))
                clear b1 b2
                go_wp2_with fail
                go_roundw
                case rel => exact ⟨j + 1, by rw [HDD.out, hv], by go_num, by omega, hb⟩
                case measure => simp [intOf]; omega
          · have hz : depO S 40 41 f1 j = 0 := by rw [show j = t - f1 by omega]; exact HC.out.2.2
            rw [hz]
            go_wp2_with fail
            go_ret
            exact ⟨rfl, hb⟩
    · have hm' : ((kn : Int).tmod 3) = 1 := by rw [Int.tmod_eq_emod_of_nonneg (by omega)]; omega
      rcases bracket_found S p (o := 91) (s := 93) (.inr (.inl ⟨rfl, rfl⟩)) with ⟨hn1, hn2⟩ | ⟨f, t, h1, h2, e1, e2, h3, h4, h5, h6, h7⟩
      · have H1 : Hid (∀ wx, Below w.heap.size w wx → Calls Try.prog 8 #[.string ⟨S.toArray⟩, .int .i64 p, .bool false, .int .i32 91] wx fun e w' => e = .returned (.tuple #[.int .i64 0, .int .i64 0, .bool false]) ∧ Below wx.heap.size wx w') := fun wx hb => by have := HF.out false 91 wx hb; rw [hn1] at this; exact this
        have H2 : Hid (∀ wx, Below w.heap.size w wx → Calls Try.prog 8 #[.string ⟨S.toArray⟩, .int .i64 p, .bool true, .int .i32 93] wx fun e w' => e = .returned (.tuple #[.int .i64 0, .int .i64 0, .bool false]) ∧ Below wx.heap.size wx w') := fun wx hb => by have := HF.out true 93 wx hb; rw [hn2] at this; exact this
        clear hn1 hn2 HF
        go_enter Try.func5, Try.ntmps5
        go_upto_region 6 with (go_at_call 7; refine (aliveO_any _ HK.out).mono ?_; rintro e w1 ⟨rfl, b1⟩)
        go_quiet (fail)
        have bq := below_drewN b1 nq
        have x1 : ∀ h, (({ data := #[40, 91, 123] } : ByteArray)[1]'h).toNat = 91 := fun _ => rfl
        have x2 : ∀ h, (({ data := #[41, 93, 125] } : ByteArray)[1]'h).toNat = 93 := fun _ => rfl
        simp only [x1, x2]
        clear x1 x2 b1
        generalize w1.drewN nq = wq at *
        go_wp2_with (first
          | (go_at_call 8; refine use_factM b2 ?_; intro _; (with_reducible refine (H2.out _ b2).mono ?_); rintro e w3 ⟨rfl, b3⟩; replace b3 := b2.trans (b3.mono b2.size))
          | (go_at_call 8; (with_reducible refine (H1.out _ bq).mono ?_); rintro e w2 ⟨rfl, b2⟩; replace b2 := bq.trans (b2.mono bq.size)))
        go_ret
        exact ⟨rfl, b3⟩
      · have H1 : Hid (∀ wx, Below w.heap.size w wx → Calls Try.prog 8 #[.string ⟨S.toArray⟩, .int .i64 p, .bool false, .int .i32 91] wx fun e w' => e = .returned (.tuple #[.int .i64 ((f + 1 : Nat) : Int), .int .i64 (t : Nat), .bool true]) ∧ Below wx.heap.size wx w') := fun wx hb => by have := HF.out false 91 wx hb; rw [show findO S p false (((91 : UInt8).toNat : Nat) : Int) = _ from h6] at this; exact this
        have H2 : Hid (∀ wx, Below w.heap.size w wx → Calls Try.prog 8 #[.string ⟨S.toArray⟩, .int .i64 p, .bool true, .int .i32 93] wx fun e w' => e = .returned (.tuple #[.int .i64 (f : Nat), .int .i64 ((t + 1 : Nat) : Int), .bool true]) ∧ Below wx.heap.size wx w') := fun wx hb => by have := HF.out true 93 wx hb; rw [show findO S p true (((93 : UInt8).toNat : Nat) : Int) = _ from h7] at this; exact this
        clear h6 h7 HF
        rw [ha] at h3 h4
        have hg1 := byte_at S f (by omega)
        have hg2 := byte_at S t h2
        rw [e1] at hg1
        rw [e2] at hg2
        have HC := Lib.hid h5
        clear h5 e1 e2
        obtain ⟨f1, hf1⟩ : ∃ f1, f + 1 = f1 := ⟨_, rfl⟩
        rw [hf1] at H1 HC
        have q1 : (f1 : Int) - 1 = (f : Int) := by omega
        have r1 : decide ((f1 : Int) < 1) = false := by rw [decide_eq_false_iff_not]; omega
        have r2 : decide (t < f1) = false := by rw [decide_eq_false_iff_not]; omega
        have r3 : decide (S.length ≤ t) = false := by rw [decide_eq_false_iff_not]; omega
        have r4 : decide (a < f) = false := by rw [decide_eq_false_iff_not]; omega
        have r5 : decide (t < a) = false := by rw [decide_eq_false_iff_not]; omega
        go_enter Try.func5, Try.ntmps5
        go_upto_region 6 with (go_at_call 7; refine (aliveO_any _ HK.out).mono ?_; rintro e w1 ⟨rfl, b1⟩)
        go_quiet (fail)
        have bq := below_drewN b1 nq
        have x1 : ∀ h, (({ data := #[40, 91, 123] } : ByteArray)[1]'h).toNat = 91 := fun _ => rfl
        have x2 : ∀ h, (({ data := #[41, 93, 125] } : ByteArray)[1]'h).toNat = 93 := fun _ => rfl
        simp only [x1, x2]
        clear x1 x2 b1
        generalize w1.drewN nq = wq at *
        go_upto_region 18 with (first
          | (go_at_call 8; refine use_factM b2 ?_; intro _; (with_reducible refine (H2.out _ b2).mono ?_); rintro e w3 ⟨rfl, b3⟩; replace b3 := b2.trans (b3.mono b2.size))
          | (go_at_call 8; (with_reducible refine (H1.out _ bq).mono ?_); rintro e w2 ⟨rfl, b2⟩; replace b2 := bq.trans (b2.mono bq.size))
          | (go_at_call 10; refine (HA.out _).mono ?_; rintro e w4 ⟨rfl, b4⟩; replace b4 := b3.trans (b4.mono b3.size)))
        clear hg1 hg2 q1 r1 r2 r3 r4 r5
        go_loopw [17, 18] (fun d i wr => ∃ j : Nat, d = .int .i64 (depO S 91 93 f1 j) ∧ i = .int .i64 ((f1 + j : Nat) : Int) ∧ f1 + j ≤ t ∧ Below w.heap.size w wr) (fun _ i _ => t - (intOf i).toNat)
        case atStart => exact ⟨0, rfl, rfl, by omega, b4⟩
        case round =>
          clear b2 b3 b4
          obtain ⟨j, rfl, rfl, hj, hb⟩ := hrel
          have hd1 := HC.out.2.1 j hj
          have hd2 := dep_le S 91 93 f1 j
          by_cases hlt : f1 + j < t
          · have hd3 := HC.out.2.1 (j + 1) (by omega)
            have hg := byte_at S (f1 + j) (by omega)
            have hget : S.getD (f1 + j) 0 = S[f1 + j]'(by omega) := by rw [List.getD_eq_getElem?_getD, List.getElem?_eq_getElem (by omega)]; rfl
            have ho := dep_open (S := S) (o := 91) (s := 93) (f := f1) (j := j) (by decide)
            have hc := dep_shut (S := S) (o := 91) (s := 93) (f := f1) (j := j) (by decide)
            have hx := dep_same (S := S) (o := 91) (s := 93) (f := f1) (j := j)
            rw [hget] at ho hc hx
            have hin : ((f1 + j : Nat) : Int) < (S.length : Int) := by omega
            have HJ : Hid (((f1 + j : Nat) : Int) + 1 = ((f1 + (j + 1) : Nat) : Int)) := by show _ = _; omega
            generalize S[f1 + j]'(by omega) = b at *
            generalize hdd : depO S 91 93 f1 (j + 1) = dd at *
            have HDD := Lib.hid hdd
            clear hdd hget
            generalize depO S 91 93 f1 j = d at *
            have hnlt : (f1 + j : Nat) < t := hlt
            by_cases b1 : b = 91
            · subst b1
              have hv := ho rfl
              clear ho hc hx
              have hneg : ¬ d + 1 < 0 := by omega
              go_wp2_with fail
              go_roundw
              case rel => exact ⟨j + 1, by rw [HDD.out, hv], by go_num, by omega, hb⟩
              case measure => simp [intOf]; omega
            · by_cases b2 : b = 93
              · subst b2
                have hv := hc rfl
                clear ho hc hx
                have hneg : ¬ d - 1 < 0 := by omega
                go_wp2_with fail
                go_roundw
                case rel => exact ⟨j + 1, by rw [HDD.out, hv], by go_num, by omega, hb⟩
                case measure => simp [intOf]; omega
              · have hv := hx b1 b2
                clear ho hc hx
                have d1 : ((b.toNat : Int) == 91) = false := by rw [beq_eq_false_iff_ne]; intro h; exact b1 (UInt8.toNat_inj.1 (by show b.toNat = 91; omega))
                have d2 : ((b.toNat : Int) == 93) = false := by rw [beq_eq_false_iff_ne]; intro h; exact b2 (UInt8.toNat_inj.1 (by show b.toNat = 93; omega))
                clear b1 b2
                go_wp2_with fail
                go_roundw
                case rel => exact ⟨j + 1, by rw [HDD.out, hv], by go_num, by omega, hb⟩
                case measure => simp [intOf]; omega
          · have hz : depO S 91 93 f1 j = 0 := by rw [show j = t - f1 by omega]; exact HC.out.2.2
            rw [hz]
            go_wp2_with fail
            go_ret
            exact ⟨rfl, hb⟩
    · have hm' : ((kn : Int).tmod 3) = 2 := by rw [Int.tmod_eq_emod_of_nonneg (by omega)]; omega
      rcases bracket_found S p (o := 123) (s := 125) (.inr (.inr ⟨rfl, rfl⟩)) with ⟨hn1, hn2⟩ | ⟨f, t, h1, h2, e1, e2, h3, h4, h5, h6, h7⟩
      · have H1 : Hid (∀ wx, Below w.heap.size w wx → Calls Try.prog 8 #[.string ⟨S.toArray⟩, .int .i64 p, .bool false, .int .i32 123] wx fun e w' => e = .returned (.tuple #[.int .i64 0, .int .i64 0, .bool false]) ∧ Below wx.heap.size wx w') := fun wx hb => by have := HF.out false 123 wx hb; rw [hn1] at this; exact this
        have H2 : Hid (∀ wx, Below w.heap.size w wx → Calls Try.prog 8 #[.string ⟨S.toArray⟩, .int .i64 p, .bool true, .int .i32 125] wx fun e w' => e = .returned (.tuple #[.int .i64 0, .int .i64 0, .bool false]) ∧ Below wx.heap.size wx w') := fun wx hb => by have := HF.out true 125 wx hb; rw [hn2] at this; exact this
        clear hn1 hn2 HF
        go_enter Try.func5, Try.ntmps5
        go_upto_region 6 with (go_at_call 7; refine (aliveO_any _ HK.out).mono ?_; rintro e w1 ⟨rfl, b1⟩)
        go_quiet (fail)
        have bq := below_drewN b1 nq
        have x1 : ∀ h, (({ data := #[40, 91, 123] } : ByteArray)[2]'h).toNat = 123 := fun _ => rfl
        have x2 : ∀ h, (({ data := #[41, 93, 125] } : ByteArray)[2]'h).toNat = 125 := fun _ => rfl
        simp only [x1, x2]
        clear x1 x2 b1
        generalize w1.drewN nq = wq at *
        go_wp2_with (first
          | (go_at_call 8; refine use_factM b2 ?_; intro _; (with_reducible refine (H2.out _ b2).mono ?_); rintro e w3 ⟨rfl, b3⟩; replace b3 := b2.trans (b3.mono b2.size))
          | (go_at_call 8; (with_reducible refine (H1.out _ bq).mono ?_); rintro e w2 ⟨rfl, b2⟩; replace b2 := bq.trans (b2.mono bq.size)))
        go_ret
        exact ⟨rfl, b3⟩
      · have H1 : Hid (∀ wx, Below w.heap.size w wx → Calls Try.prog 8 #[.string ⟨S.toArray⟩, .int .i64 p, .bool false, .int .i32 123] wx fun e w' => e = .returned (.tuple #[.int .i64 ((f + 1 : Nat) : Int), .int .i64 (t : Nat), .bool true]) ∧ Below wx.heap.size wx w') := fun wx hb => by have := HF.out false 123 wx hb; rw [show findO S p false (((123 : UInt8).toNat : Nat) : Int) = _ from h6] at this; exact this
        have H2 : Hid (∀ wx, Below w.heap.size w wx → Calls Try.prog 8 #[.string ⟨S.toArray⟩, .int .i64 p, .bool true, .int .i32 125] wx fun e w' => e = .returned (.tuple #[.int .i64 (f : Nat), .int .i64 ((t + 1 : Nat) : Int), .bool true]) ∧ Below wx.heap.size wx w') := fun wx hb => by have := HF.out true 125 wx hb; rw [show findO S p true (((125 : UInt8).toNat : Nat) : Int) = _ from h7] at this; exact this
        clear h6 h7 HF
        rw [ha] at h3 h4
        have hg1 := byte_at S f (by omega)
        have hg2 := byte_at S t h2
        rw [e1] at hg1
        rw [e2] at hg2
        have HC := Lib.hid h5
        clear h5 e1 e2
        obtain ⟨f1, hf1⟩ : ∃ f1, f + 1 = f1 := ⟨_, rfl⟩
        rw [hf1] at H1 HC
        have q1 : (f1 : Int) - 1 = (f : Int) := by omega
        have r1 : decide ((f1 : Int) < 1) = false := by rw [decide_eq_false_iff_not]; omega
        have r2 : decide (t < f1) = false := by rw [decide_eq_false_iff_not]; omega
        have r3 : decide (S.length ≤ t) = false := by rw [decide_eq_false_iff_not]; omega
        have r4 : decide (a < f) = false := by rw [decide_eq_false_iff_not]; omega
        have r5 : decide (t < a) = false := by rw [decide_eq_false_iff_not]; omega
        go_enter Try.func5, Try.ntmps5
        go_upto_region 6 with (go_at_call 7; refine (aliveO_any _ HK.out).mono ?_; rintro e w1 ⟨rfl, b1⟩)
        go_quiet (fail)
        have bq := below_drewN b1 nq
        have x1 : ∀ h, (({ data := #[40, 91, 123] } : ByteArray)[2]'h).toNat = 123 := fun _ => rfl
        have x2 : ∀ h, (({ data := #[41, 93, 125] } : ByteArray)[2]'h).toNat = 125 := fun _ => rfl
        simp only [x1, x2]
        clear x1 x2 b1
        generalize w1.drewN nq = wq at *
        go_upto_region 18 with (first
          | (go_at_call 8; refine use_factM b2 ?_; intro _; (with_reducible refine (H2.out _ b2).mono ?_); rintro e w3 ⟨rfl, b3⟩; replace b3 := b2.trans (b3.mono b2.size))
          | (go_at_call 8; (with_reducible refine (H1.out _ bq).mono ?_); rintro e w2 ⟨rfl, b2⟩; replace b2 := bq.trans (b2.mono bq.size))
          | (go_at_call 10; refine (HA.out _).mono ?_; rintro e w4 ⟨rfl, b4⟩; replace b4 := b3.trans (b4.mono b3.size)))
        clear hg1 hg2 q1 r1 r2 r3 r4 r5
        go_loopw [17, 18] (fun d i wr => ∃ j : Nat, d = .int .i64 (depO S 123 125 f1 j) ∧ i = .int .i64 ((f1 + j : Nat) : Int) ∧ f1 + j ≤ t ∧ Below w.heap.size w wr) (fun _ i _ => t - (intOf i).toNat)
        case atStart => exact ⟨0, rfl, rfl, by omega, b4⟩
        case round =>
          clear b2 b3 b4
          obtain ⟨j, rfl, rfl, hj, hb⟩ := hrel
          have hd1 := HC.out.2.1 j hj
          have hd2 := dep_le S 123 125 f1 j
          by_cases hlt : f1 + j < t
          · have hd3 := HC.out.2.1 (j + 1) (by omega)
            have hg := byte_at S (f1 + j) (by omega)
            have hget : S.getD (f1 + j) 0 = S[f1 + j]'(by omega) := by rw [List.getD_eq_getElem?_getD, List.getElem?_eq_getElem (by omega)]; rfl
            have ho := dep_open (S := S) (o := 123) (s := 125) (f := f1) (j := j) (by decide)
            have hc := dep_shut (S := S) (o := 123) (s := 125) (f := f1) (j := j) (by decide)
            have hx := dep_same (S := S) (o := 123) (s := 125) (f := f1) (j := j)
            rw [hget] at ho hc hx
            have hin : ((f1 + j : Nat) : Int) < (S.length : Int) := by omega
            have HJ : Hid (((f1 + j : Nat) : Int) + 1 = ((f1 + (j + 1) : Nat) : Int)) := by show _ = _; omega
            generalize S[f1 + j]'(by omega) = b at *
            generalize hdd : depO S 123 125 f1 (j + 1) = dd at *
            have HDD := Lib.hid hdd
            clear hdd hget
            generalize depO S 123 125 f1 j = d at *
            have hnlt : (f1 + j : Nat) < t := hlt
            by_cases b1 : b = 123
            · subst b1
              have hv := ho rfl
              clear ho hc hx
              have hneg : ¬ d + 1 < 0 := by omega
              go_wp2_with fail
              go_roundw
              case rel => exact ⟨j + 1, by rw [HDD.out, hv], by go_num, by omega, hb⟩
              case measure => simp [intOf]; omega
            · by_cases b2 : b = 125
              · subst b2
                have hv := hc rfl
                clear ho hc hx
                have hneg : ¬ d - 1 < 0 := by omega
                go_wp2_with fail
                go_roundw
                case rel => exact ⟨j + 1, by rw [HDD.out, hv], by go_num, by omega, hb⟩
                case measure => simp [intOf]; omega
              · have hv := hx b1 b2
                clear ho hc hx
                have d1 : ((b.toNat : Int) == 123) = false := by rw [beq_eq_false_iff_ne]; intro h; exact b1 (UInt8.toNat_inj.1 (by show b.toNat = 123; omega))
                have d2 : ((b.toNat : Int) == 125) = false := by rw [beq_eq_false_iff_ne]; intro h; exact b2 (UInt8.toNat_inj.1 (by show b.toNat = 125; omega))
                clear b1 b2
                go_wp2_with fail
                go_roundw
                case rel => exact ⟨j + 1, by rw [HDD.out, hv], by go_num, by omega, hb⟩
                case measure => simp [intOf]; omega
          · have hz : depO S 123 125 f1 j = 0 := by rw [show j = t - f1 by omega]; exact HC.out.2.2
            rw [hz]
            go_wp2_with fail
            go_ret
            exact ⟨rfl, hb⟩
  · have hs' : (2048 : Int) < (S.length : Int) := by omega
    go_enter Try.func5, Try.ntmps5
    go_wp2_with (go_at_call 7; refine (aliveO_any _ HK.out).mono ?_; rintro e w1 ⟨rfl, b1⟩)
    go_ret
    exact ⟨rfl, b1⟩
end Go.Proofs.Ytnkhlallnblfmaa
