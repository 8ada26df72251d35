/-
  Contracts of the landed package line: Count, Of, has, clamp, bounds, Bounds, Whole.
-/
import Derived.Test.YtnkhlallnblfmaaLinStd
import Derived.Test.YtnkhlallnblfmaaLinSays
namespace Go.Proofs.Ytnkhlallnblfmaa
open Go.RowKit

/-- the first line end behind a line's beginning -/
theorem nl_index {S : List UInt8} {n : Nat} (h : n + 1 < countL S) : Lib.indexByte (S.drop (begL S n)) 10 = ((endL S n - begL S n : Nat) : Int) := by
  obtain ⟨h1, h2, _⟩ := ends_inner h
  have hb := beg_end (show n < countL S by omega)
  have hge := Lib.indexByte_ge (S.drop (begL S n)) 10
  by_cases hi : Lib.indexByte (S.drop (begL S n)) 10 = -1
  · have := Lib.indexByte_none hi (endL S n - begL S n)
    rw [List.getElem?_drop, show begL S n + (endL S n - begL S n) = endL S n by omega] at this
    exact absurd h1 this
  · obtain ⟨o, ho⟩ : ∃ o : Nat, Lib.indexByte (S.drop (begL S n)) 10 = o := ⟨(Lib.indexByte (S.drop (begL S n)) 10).toNat, by omega⟩
    obtain ⟨g1, g2⟩ := Lib.indexByte_some ho
    rw [ho]
    rcases Nat.lt_trichotomy o (endL S n - begL S n) with hx | hx | hx
    · rw [List.getElem?_drop] at g1
      exact absurd g1 (line_clear (n := n) (by omega) (by omega) (by omega))
    · rw [hx]
    · have := g2 _ hx
      rw [List.getElem?_drop, show begL S n + (endL S n - begL S n) = endL S n by omega] at this
      exact absurd h1 this
theorem nl_index_last {S : List UInt8} {n : Nat} (h : n + 1 = countL S) : Lib.indexByte (S.drop (begL S n)) 10 = -1 := by
  have hb := beg_end (show n < countL S by omega)
  have he := ends_last h
  have hge := Lib.indexByte_ge (S.drop (begL S n)) 10
  by_cases hi : Lib.indexByte (S.drop (begL S n)) 10 = -1
  · exact hi
  · obtain ⟨o, ho⟩ : ∃ o : Nat, Lib.indexByte (S.drop (begL S n)) 10 = o := ⟨(Lib.indexByte (S.drop (begL S n)) 10).toNat, by omega⟩
    obtain ⟨g1, g2⟩ := Lib.indexByte_some ho
    rw [List.getElem?_drop] at g1
    have : begL S n + o < S.length := by
      rcases Nat.lt_or_ge (begL S n + o) S.length with hx | hx
      · exact hx
      · rw [List.getElem?_eq_none hx] at g1; cases g1
    exact absurd g1 (line_clear (n := n) (by omega) (by omega) (by omega))

theorem linCount_any (S : List UInt8) (hs : S.length ≤ 1000000) (w : World) : Calls Try.prog 50 #[.string ⟨S.toArray⟩] w fun e w' => e = .returned (.int .i64 (countL S : Nat)) ∧ Below w.heap.size w w' := by
  have HC := Lib.hid (countL_count S)
  have hcl := countL_le S
  rw [countL_count] at hcl
  have hw := wrap_small ((S.count 10 : Int) + 1) (by omega) (by omega)
  go_enter Try.func50, Try.ntmps50
  go_wp2_with (go_at_call 49; refine (stdCount_any S _).mono ?_; rintro e w1 ⟨rfl, rfl⟩)
  go_ret
  exact ⟨by rw [HC.out]; rfl, Below.refl _ _⟩
theorem linOf_any (S : List UInt8) (hs : S.length ≤ 1000000) (p : Int) (w : World) : Calls Try.prog 42 #[.string ⟨S.toArray⟩, .int .i64 p] w fun e w' => e = .returned (.int .i64 (ofL S p : Nat)) ∧ Below w.heap.size w w' := by
  obtain ⟨k, hk⟩ : ∃ k, min S.length p.toNat = k := ⟨_, rfl⟩
  have HO : Hid (ofL S p = (S.take k).count 10) := by show ofL S p = _; unfold ofL; rw [hk, endsTo_count]
  have HT := Lib.hid (text_slice S 0 k (Nat.zero_le _))
  have HK : Hid ((S.drop 0).take (k - 0) = S.take k) := by show _ = _; simp
  by_cases h0 : p < 0
  · obtain rfl : k = 0 := by omega
    have hle : (0 : Int) ≤ (S.length : Int) := by omega
    go_enter Try.func42, Try.ntmps42
    go_wp2_with (go_at_call 49; rw [show ByteArray.empty = ⟨([] : List UInt8).toArray⟩ from rfl]; refine (stdCount_any [] _).mono ?_; rintro e w1 ⟨rfl, rfl⟩)
    go_ret
    exact ⟨by rw [HO.out]; rfl, Below.refl _ _⟩
  · by_cases h1 : p ≤ (S.length : Int)
    · obtain rfl : p = (k : Int) := by omega
      have h2 : (0 : Int) ≤ (k : Int) := by omega
      clear hk
      go_enter Try.func42, Try.ntmps42
      go_wp2_with (go_at_call 49; rw [HT.out, HK.out]; refine (stdCount_any (S.take k) _).mono ?_; rintro e w1 ⟨rfl, rfl⟩)
      go_ret
      exact ⟨by rw [HO.out]; rfl, Below.refl _ _⟩
    · obtain rfl : k = S.length := by omega
      clear hk
      go_enter Try.func42, Try.ntmps42
      go_wp2_with (go_at_call 49; rw [HT.out, HK.out]; refine (stdCount_any (S.take S.length) _).mono ?_; rintro e w1 ⟨rfl, rfl⟩)
      go_ret
      exact ⟨by rw [HO.out, List.take_length]; rfl, Below.refl _ _⟩

/-- is there such a line? -/
def hasB (S : List UInt8) (n : Int) : Bool := decide (0 ≤ n ∧ n < (countL S : Int))
theorem linHas_any (S : List UInt8) (hs : S.length ≤ 1000000) (n : Int) (w : World) : Calls Try.prog 47 #[.string ⟨S.toArray⟩, .int .i64 n] w fun e w' => e = .returned (.bool (hasB S n)) ∧ Below w.heap.size w w' := by
  by_cases h0 : 0 ≤ n
  · by_cases h1 : n < (countL S : Int)
    · have HD : Hid (hasB S n = true) := decide_eq_true ⟨h0, h1⟩
      go_enter Try.func47, Try.ntmps47
      go_wp2_with (go_at_call 50; refine (linCount_any S hs _).mono ?_; rintro e w1 ⟨rfl, b1⟩)
      go_ret
      exact ⟨by rw [HD.out]; rfl, b1⟩
    · have HD : Hid (hasB S n = false) := decide_eq_false (by omega)
      have h2 : (decide (n < (countL S : Int))) = false := decide_eq_false h1
      go_enter Try.func47, Try.ntmps47
      go_wp2_with (go_at_call 50; refine (linCount_any S hs _).mono ?_; rintro e w1 ⟨rfl, b1⟩)
      go_ret
      exact ⟨by rw [HD.out]; first | rfl | exact congrArg (fun b => Ending.returned (.bool b)) h2, b1⟩
  · have HD : Hid (hasB S n = false) := decide_eq_false (by omega)
    go_enter Try.func47, Try.ntmps47
    go_wp2_with fail
    go_ret
    exact ⟨by rw [HD.out]; rfl, Below.refl _ _⟩
/-- where a line that is there begins and ends -/
theorem linBegEnd_any (S : List UInt8) (hs : S.length ≤ 1000000) (n : Nat) (hn : n < countL S) (w : World) :
    Calls Try.prog 48 #[.string ⟨S.toArray⟩, .int .i64 (n : Nat)] w fun e w' => e = .returned (.tuple #[.int .i64 (begL S n : Nat), .int .i64 (endL S n : Nat)]) ∧ Below w.heap.size w w' := by
  have hcl := countL_le S
  go_enter Try.func48, Try.ntmps48
  go_wp2_with fail
  go_loopw [4, 7] (fun f i wr => ∃ k : Nat, k ≤ n ∧ i = .int .i64 k ∧ f = .int .i64 (begL S k : Nat) ∧ Below w.heap.size w wr) (fun _ i _ => n - (intOf i).toNat)
  case atStart => exact ⟨0, Nat.zero_le _, rfl, by rw [beg_zero]; rfl, Below.refl _ _⟩
  case round =>
    obtain ⟨k, hk, rfl, rfl, hb⟩ := hrel
    have hkc : k < countL S := by omega
    have hle := beg_le hkc
    have hbe := beg_end hkc
    have hee := end_le hkc
    have HTT := Lib.hid (text_tail S (begL S k))
    by_cases hlt : k < n
    · have hltI : (k : Int) < (n : Int) := by omega
      have HX := Lib.hid (nl_index (S := S) (n := k) (by omega))
      have HB := Lib.hid (beg_succ S k)
      generalize begL S k = F at *
      generalize endL S k = T at *
      have hI1 : (0 : Int) ≤ (F : Int) := by omega
      have hI2 : (F : Int) ≤ (S.length : Int) := by omega
      obtain ⟨d, hd⟩ : ∃ d, T - F = d := ⟨_, rfl⟩
      have HD := Lib.hid hd
      have hw1 := wrap_small ((d : Int) + 1) (by omega) (by omega)
      have hw2 := wrap_small ((F : Int) + ((d : Int) + 1)) (by omega) (by omega)
      have HY : Hid (begL S (k + 1) = F + (d + 1)) := by show _ = _; rw [HB.out]; omega
      clear hd
      go_wp2_with (go_at_call 51; rw [HTT.out]; refine (stdIndex_any (S.drop F) _).mono ?_; rintro e w1 ⟨rfl, rfl⟩; rw [HX.out, HD.out])
      go_roundw
      case rel => exact ⟨k + 1, by omega, by go_num, by rw [HY.out]; go_num, hb⟩
      case measure => simp [intOf]; omega
    · obtain rfl : k = n := by omega
      have hI1 : (0 : Int) ≤ (begL S k : Int) := by omega
      have hI2 : (begL S k : Int) ≤ (S.length : Int) := by omega
      by_cases hl : k + 1 < countL S
      · have HX := Lib.hid (nl_index hl)
        obtain ⟨d, hd⟩ : ∃ d, endL S k - begL S k = d := ⟨_, rfl⟩
        have HD := Lib.hid hd
        have hw2 := wrap_small ((begL S k : Int) + (d : Int)) (by omega) (by omega)
        have HE : Hid (((endL S k : Nat) : Int) = (begL S k : Int) + (d : Int)) := by show _ = _; omega
        have hd0 : ¬ (d : Int) < 0 := by omega
        clear hd
        go_wp2_with (go_at_call 51; rw [HTT.out]; refine (stdIndex_any (S.drop (begL S k)) _).mono ?_; rintro e w1 ⟨rfl, rfl⟩; rw [HX.out, HD.out])
        go_ret2
        exact ⟨by rw [HE.out]; rfl, hb⟩
      · have HX := Lib.hid (nl_index_last (S := S) (n := k) (by omega))
        have HE := Lib.hid (ends_last (S := S) (n := k) (by omega))
        go_wp2_with (go_at_call 51; rw [HTT.out]; refine (stdIndex_any (S.drop (begL S k)) _).mono ?_; rintro e w1 ⟨rfl, rfl⟩; rw [HX.out])
        go_ret2
        exact ⟨by rw [HE.out]; rfl, hb⟩

theorem linBounds_any (S : List UInt8) (hs : S.length ≤ 1000000) (n : Int) (w : World) :
    Calls Try.prog 41 #[.string ⟨S.toArray⟩, .int .i64 n] w (Gives3 w (boundsL S n)) := by
  by_cases h : 0 ≤ n ∧ n < (countL S : Int)
  · obtain ⟨m, rfl⟩ : ∃ m : Nat, n = (m : Int) := ⟨n.toNat, by omega⟩
    have hm : m < countL S := by omega
    have HD : Hid (hasB S (m : Int) = true) := decide_eq_true h
    have HB := Lib.hid (boundsL_nat hm)
    have HM := Lib.hid hm
    clear h hm
    go_enter Try.func41, Try.ntmps41
    go_wp2_with (first
      | (go_at_call 47; refine (linHas_any S hs (m : Int) _).mono ?_; rintro e w1 ⟨rfl, b1⟩; rw [HD.out])
      | (go_at_call 48; refine (linBegEnd_any S hs m HM.out _).mono ?_; rintro e w2 ⟨rfl, b2⟩))
    go_ret3
    exact ⟨by rw [HB.out]; rfl, b1.trans (b2.mono b1.size)⟩
  · have HD : Hid (hasB S n = false) := decide_eq_false h
    have HB := Lib.hid (boundsL_out h)
    clear h
    go_enter Try.func41, Try.ntmps41
    go_wp2_with (go_at_call 47; refine (linHas_any S hs n _).mono ?_; rintro e w1 ⟨rfl, b1⟩; rw [HD.out])
    go_ret3
    exact ⟨by rw [HB.out]; rfl, b1⟩
end Go.Proofs.Ytnkhlallnblfmaa
