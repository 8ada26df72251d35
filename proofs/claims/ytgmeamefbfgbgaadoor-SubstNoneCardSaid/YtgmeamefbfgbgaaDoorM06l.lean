/-
  Merged: LinStd, LinGly, LinOwn, LinCols, LinFirsts, LinWhole.
-/
import Derived.Test.YtgmeamefbfgbgaaDoorM06r
import Derived.Laws.Externs
import Derived.Lib.Bytealg
import Derived.Lib.IndexLaws
import Derived.Test.YtgmeamefbfgbgaaDoorLinSays
import Derived.Test.YtgmeamefbfgbgaaDoorGlyProof
import Derived.Deep.RegionWith
/-
  strings.Count and strings.Index of the one byte 10.
-/
namespace Go.Proofs.YtgmeamefbfgbgaaDoor
open Go.RowKit

set_option maxRecDepth 100000 in
theorem stdCount_any (S : List UInt8) (w : World) :
    Calls Tryd.prog 50 #[.string ⟨S.toArray⟩, .string ⟨#[10]⟩] w fun e w' => e = .returned (.int .i64 (S.count 10 : Nat)) ∧ w = w' := by
  go_enter Tryd.func50, Tryd.ntmps50
  go_wp2
  rw [run_callFunc_extern Tryd.func77 (by kernel_rfl) (by kernel_rfl) (by kernel_rfl) (e := Extern.BytealgCount.count) (by kernel_rfl), Lib.run_countString]
  simp only [Result.andThen]
  rw [Oper.upon_value]
  go_wp2
  go_ret
  exact ⟨rfl, rfl⟩
set_option maxRecDepth 100000 in
theorem stdIndexByte_any (S : List UInt8) (w : World) :
    Calls Tryd.prog 92 #[.string ⟨S.toArray⟩, .int .u8 10] w fun e w' => e = .returned (.int .i64 (Lib.indexByte S 10)) ∧ w = w' := by
  go_enter Tryd.func92, Tryd.ntmps92
  go_wp2
  rw [run_callFunc_extern Tryd.func99 (by kernel_rfl) (by kernel_rfl) (by kernel_rfl) (e := Extern.BytealgIndexByte.indexByte) (by kernel_rfl), Lib.run_indexByteString]
  simp only [Result.andThen]
  rw [Oper.upon_value]
  go_wp2
  go_ret
  exact ⟨rfl, rfl⟩
set_option maxRecDepth 100000 in
theorem stdIndex2_any (S : List UInt8) (w : World) :
    Calls Tryd.prog 82 #[.string ⟨S.toArray⟩, .string ⟨#[10]⟩] w fun e w' => e = .returned (.int .i64 (Lib.indexByte S 10)) ∧ w = w' := by
  by_cases hS : S = [10]
  · subst hS
    go_enter Tryd.func82, Tryd.ntmps82
    go_wp2_with fail
    go_ret
    exact ⟨rfl, rfl⟩
  · have h1 : (([10] : List UInt8) == S) = false := by simpa using fun h => hS h.symm
    go_enter Tryd.func82, Tryd.ntmps82
    go_wp2_with (go_at_call 92; refine (stdIndexByte_any S _).mono ?_; rintro e w1 ⟨rfl, rfl⟩)
    go_ret
    exact ⟨rfl, rfl⟩
set_option maxRecDepth 100000 in
theorem stdIndex_any (S : List UInt8) (w : World) :
    Calls Tryd.prog 60 #[.string ⟨S.toArray⟩, .string ⟨#[10]⟩] w fun e w' => e = .returned (.int .i64 (Lib.indexByte S 10)) ∧ w = w' := by
  go_enter Tryd.func60, Tryd.ntmps60
  go_wp2_with (go_at_call 82; refine (stdIndex2_any S _).mono ?_; rintro e w1 ⟨rfl, rfl⟩)
  go_ret
  exact ⟨rfl, rfl⟩
end Go.Proofs.YtgmeamefbfgbgaaDoor

/-
  A contract of the landed package glyph: Class.
-/
namespace Go.Proofs.YtgmeamefbfgbgaaDoor
open Go.RowKit

end Go.Proofs.YtgmeamefbfgbgaaDoor

/-
  Contracts of the landed package line: Count, Of, has, clamp, bounds, Bounds, Whole.
-/
namespace Go.Proofs.YtgmeamefbfgbgaaDoor
open Go.RowKit

/-- the first line end behind a line's beginning -/
theorem nl_index {S : List UInt8} {n : Nat} (h : n + 1 < countL S) : Lib.indexByte (S.drop (begL S n)) 10 = ((endL S n - begL S n : Nat) : Int) := by
  obtain ⟨h1, h2, _⟩ := ends_inner h
  have hb := beg_end (show n < countL S by omega)
  have hge := Lib.indexByte_ge (S.drop (begL S n)) 10
  by_cases hi : Lib.indexByte (S.drop (begL S n)) 10 = -1
  · have := Lib.indexByte_none hi (endL S n - begL S n)
    rw [List.getElem?_drop, show begL S n + (endL S n - begL S n) = endL S n by omega] at this
    exact absurd h1 this
  · obtain ⟨o, ho⟩ : ∃ o : Nat, Lib.indexByte (S.drop (begL S n)) 10 = o := ⟨(Lib.indexByte (S.drop (begL S n)) 10).toNat, by omega⟩
    obtain ⟨g1, g2⟩ := Lib.indexByte_some ho
    rw [ho]
    rcases Nat.lt_trichotomy o (endL S n - begL S n) with hx | hx | hx
    · rw [List.getElem?_drop] at g1
      exact absurd g1 (line_clear (n := n) (by omega) (by omega) (by omega))
    · rw [hx]
    · have := g2 _ hx
      rw [List.getElem?_drop, show begL S n + (endL S n - begL S n) = endL S n by omega] at this
      exact absurd h1 this
theorem nl_index_last {S : List UInt8} {n : Nat} (h : n + 1 = countL S) : Lib.indexByte (S.drop (begL S n)) 10 = -1 := by
  have hb := beg_end (show n < countL S by omega)
  have he := ends_last h
  have hge := Lib.indexByte_ge (S.drop (begL S n)) 10
  by_cases hi : Lib.indexByte (S.drop (begL S n)) 10 = -1
  · exact hi
  · obtain ⟨o, ho⟩ : ∃ o : Nat, Lib.indexByte (S.drop (begL S n)) 10 = o := ⟨(Lib.indexByte (S.drop (begL S n)) 10).toNat, by omega⟩
    obtain ⟨g1, g2⟩ := Lib.indexByte_some ho
    rw [List.getElem?_drop] at g1
    have : begL S n + o < S.length := by
      rcases Nat.lt_or_ge (begL S n + o) S.length with hx | hx
      · exact hx
      · rw [List.getElem?_eq_none hx] at g1; cases g1
    exact absurd g1 (line_clear (n := n) (by omega) (by omega) (by omega))

theorem linCount_any (S : List UInt8) (hs : S.length ≤ 1000000) (w : World) : Calls Tryd.prog 22 #[.string ⟨S.toArray⟩] w fun e w' => e = .returned (.int .i64 (countL S : Nat)) ∧ Below w.heap.size w w' := by
  have HC := Lib.hid (countL_count S)
  have hcl := countL_le S
  rw [countL_count] at hcl
  have hw := wrap_small ((S.count 10 : Int) + 1) (by omega) (by omega)
  go_enter Tryd.func22, Tryd.ntmps22
  go_wp2_with (go_at_call 50; refine (stdCount_any S _).mono ?_; rintro e w1 ⟨rfl, rfl⟩)
  go_ret
  exact ⟨by rw [HC.out]; rfl, Below.refl _ _⟩
/-- is there such a line? -/
def hasB (S : List UInt8) (n : Int) : Bool := decide (0 ≤ n ∧ n < (countL S : Int))
theorem linHas_any (S : List UInt8) (hs : S.length ≤ 1000000) (n : Int) (w : World) : Calls Tryd.prog 57 #[.string ⟨S.toArray⟩, .int .i64 n] w fun e w' => e = .returned (.bool (hasB S n)) ∧ Below w.heap.size w w' := by
  by_cases h0 : 0 ≤ n
  · by_cases h1 : n < (countL S : Int)
    · have HD : Hid (hasB S n = true) := decide_eq_true ⟨h0, h1⟩
      go_enter Tryd.func57, Tryd.ntmps57
      go_wp2_with (go_at_call 22; refine (linCount_any S hs _).mono ?_; rintro e w1 ⟨rfl, b1⟩)
      go_ret
      exact ⟨by rw [HD.out]; rfl, b1⟩
    · have HD : Hid (hasB S n = false) := decide_eq_false (by omega)
      have h2 : (decide (n < (countL S : Int))) = false := decide_eq_false h1
      go_enter Tryd.func57, Tryd.ntmps57
      go_wp2_with (go_at_call 22; refine (linCount_any S hs _).mono ?_; rintro e w1 ⟨rfl, b1⟩)
      go_ret
      exact ⟨by rw [HD.out]; first | rfl | exact congrArg (fun b => Ending.returned (.bool b)) h2, b1⟩
  · have HD : Hid (hasB S n = false) := decide_eq_false (by omega)
    go_enter Tryd.func57, Tryd.ntmps57
    go_wp2_with fail
    go_ret
    exact ⟨by rw [HD.out]; rfl, Below.refl _ _⟩
/-- where a line that is there begins and ends -/
theorem linBegEnd_any (S : List UInt8) (hs : S.length ≤ 1000000) (n : Nat) (hn : n < countL S) (w : World) :
    Calls Tryd.prog 58 #[.string ⟨S.toArray⟩, .int .i64 (n : Nat)] w fun e w' => e = .returned (.tuple #[.int .i64 (begL S n : Nat), .int .i64 (endL S n : Nat)]) ∧ Below w.heap.size w w' := by
  have hcl := countL_le S
  go_enter Tryd.func58, Tryd.ntmps58
  go_wp2_with fail
  go_loopw [4, 7] (fun f i wr => ∃ k : Nat, k ≤ n ∧ i = .int .i64 k ∧ f = .int .i64 (begL S k : Nat) ∧ Below w.heap.size w wr) (fun _ i _ => n - (intOf i).toNat)
  case atStart => exact ⟨0, Nat.zero_le _, rfl, by rw [beg_zero]; rfl, Below.refl _ _⟩
  case round =>
    obtain ⟨k, hk, rfl, rfl, hb⟩ := hrel
    have hkc : k < countL S := by omega
    have hle := beg_le hkc
    have hbe := beg_end hkc
    have hee := end_le hkc
    have HTT := Lib.hid (text_tail S (begL S k))
    by_cases hlt : k < n
    · have hltI : (k : Int) < (n : Int) := by omega
      have HX := Lib.hid (nl_index (S := S) (n := k) (by omega))
      have HB := Lib.hid (beg_succ S k)
      generalize begL S k = F at *
      generalize endL S k = T at *
      have hI1 : (0 : Int) ≤ (F : Int) := by omega
      have hI2 : (F : Int) ≤ (S.length : Int) := by omega
      obtain ⟨d, hd⟩ : ∃ d, T - F = d := ⟨_, rfl⟩
      have HD := Lib.hid hd
      have hw1 := wrap_small ((d : Int) + 1) (by omega) (by omega)
      have hw2 := wrap_small ((F : Int) + ((d : Int) + 1)) (by omega) (by omega)
      have HY : Hid (begL S (k + 1) = F + (d + 1)) := by show _ = _; rw [HB.out]; omega
      clear hd
      go_wp2_with (go_at_call 60; rw [HTT.out]; refine (stdIndex_any (S.drop F) _).mono ?_; rintro e w1 ⟨rfl, rfl⟩; rw [HX.out, HD.out])
      go_roundw
      case rel => exact ⟨k + 1, by omega, by go_num, by rw [HY.out]; go_num, hb⟩
      case measure => simp [intOf]; omega
    · obtain rfl : k = n := by omega
      have hI1 : (0 : Int) ≤ (begL S k : Int) := by omega
      have hI2 : (begL S k : Int) ≤ (S.length : Int) := by omega
      by_cases hl : k + 1 < countL S
      · have HX := Lib.hid (nl_index hl)
        obtain ⟨d, hd⟩ : ∃ d, endL S k - begL S k = d := ⟨_, rfl⟩
        have HD := Lib.hid hd
        have hw2 := wrap_small ((begL S k : Int) + (d : Int)) (by omega) (by omega)
        have HE : Hid (((endL S k : Nat) : Int) = (begL S k : Int) + (d : Int)) := by show _ = _; omega
        have hd0 : ¬ (d : Int) < 0 := by omega
        clear hd
        go_wp2_with (go_at_call 60; rw [HTT.out]; refine (stdIndex_any (S.drop (begL S k)) _).mono ?_; rintro e w1 ⟨rfl, rfl⟩; rw [HX.out, HD.out])
        go_ret2
        exact ⟨by rw [HE.out]; rfl, hb⟩
      · have HX := Lib.hid (nl_index_last (S := S) (n := k) (by omega))
        have HE := Lib.hid (ends_last (S := S) (n := k) (by omega))
        go_wp2_with (go_at_call 60; rw [HTT.out]; refine (stdIndex_any (S.drop (begL S k)) _).mono ?_; rintro e w1 ⟨rfl, rfl⟩; rw [HX.out])
        go_ret2
        exact ⟨by rw [HE.out]; rfl, hb⟩

theorem linBounds_any (S : List UInt8) (hs : S.length ≤ 1000000) (n : Int) (w : World) :
    Calls Tryd.prog 25 #[.string ⟨S.toArray⟩, .int .i64 n] w (Gives3 w (boundsL S n)) := by
  by_cases h : 0 ≤ n ∧ n < (countL S : Int)
  · obtain ⟨m, rfl⟩ : ∃ m : Nat, n = (m : Int) := ⟨n.toNat, by omega⟩
    have hm : m < countL S := by omega
    have HD : Hid (hasB S (m : Int) = true) := decide_eq_true h
    have HB := Lib.hid (boundsL_nat hm)
    have HM := Lib.hid hm
    clear h hm
    go_enter Tryd.func25, Tryd.ntmps25
    go_wp2_with (first
      | (go_at_call 57; refine (linHas_any S hs (m : Int) _).mono ?_; rintro e w1 ⟨rfl, b1⟩; rw [HD.out])
      | (go_at_call 58; refine (linBegEnd_any S hs m HM.out _).mono ?_; rintro e w2 ⟨rfl, b2⟩))
    go_ret3
    exact ⟨by rw [HB.out]; rfl, b1.trans (b2.mono b1.size)⟩
  · have HD : Hid (hasB S n = false) := decide_eq_false h
    have HB := Lib.hid (boundsL_out h)
    clear h
    go_enter Tryd.func25, Tryd.ntmps25
    go_wp2_with (go_at_call 57; refine (linHas_any S hs n _).mono ?_; rintro e w1 ⟨rfl, b1⟩; rw [HD.out])
    go_ret3
    exact ⟨by rw [HB.out]; rfl, b1⟩
end Go.Proofs.YtgmeamefbfgbgaaDoor

/-
  Contracts of the landed package line: Col, Place.
-/
namespace Go.Proofs.YtgmeamefbfgbgaaDoor
open Go.RowKit

attribute [local irreducible] boundsL countL wholeL begL endL
/-- the place behind a sign of a line -/
theorem next_in {S : List UInt8} {n : Nat} (h : n < countL S) {k : Nat} (hk : k < (signsL S n).length) {i : Nat} (hi : Which (chars S) ((begL S n + width ((signsL S n).take k) : Nat) : Int) i) :
    width ((chars S).take (i + 1)) = begL S n + width ((signsL S n).take (k + 1)) := (sign_of h hk hi).2.2
theorem width_fullC {S : List UInt8} {n : Nat} (h : n < countL S) : begL S n + width (signsL S n) = endL S n := by
  obtain ⟨A, C, h1, h2, h3, h4⟩ := line_signs h
  omega
/-- behind the line's last place there is no more of it -/
theorem next_out {S : List UInt8} {n : Nat} (h : n < countL S) {i : Nat} (hi : Which (chars S) ((endL S n : Nat) : Int) i) : endL S n ≤ width ((chars S).take (i + 1)) := by
  rcases Nat.lt_or_ge i (chars S).length with hl | hl
  · have := hi.here hl
    omega
  · have := end_le h
    rw [List.take_of_length_le (by omega), width_chars]; exact this
theorem width_ltC {l : List (Nat × Nat)} (hl : ∀ x ∈ l, 1 ≤ x.2) {k : Nat} (hk : k < l.length) : width (l.take k) < width l := by
  have h1 := width_succ l k hk
  have h2 := width_le_take l (k + 1)
  have := hl _ (List.getElem_mem hk)
  omega

end Go.Proofs.YtgmeamefbfgbgaaDoor

/-
  Contracts of the landed package line: First; all of them, as the bundle.
-/
namespace Go.Proofs.YtgmeamefbfgbgaaDoor
open Go.RowKit

attribute [local irreducible] boundsL countL wholeL begL endL
end Go.Proofs.YtgmeamefbfgbgaaDoor

/-
  Contracts of the landed package line: Whole.
-/
namespace Go.Proofs.YtgmeamefbfgbgaaDoor
open Go.RowKit

attribute [local irreducible] boundsL countL wholeL begL endL
set_option maxHeartbeats 1000000 in
theorem linWhole_any (S : List UInt8) (hs : S.length ≤ 1000000) (a b : Int) (w : World) :
    Calls Tryd.prog 55 #[.string ⟨S.toArray⟩, .int .i64 a, .int .i64 b] w (Gives3 w (wholeL S a b)) := by
  by_cases h : 0 ≤ a ∧ a ≤ b ∧ b < (countL S : Int)
  · obtain ⟨A, rfl⟩ : ∃ A : Nat, a = (A : Int) := ⟨a.toNat, by omega⟩
    obtain ⟨B, rfl⟩ : ∃ B : Nat, b = (B : Int) := ⟨b.toNat, by omega⟩
    have hA : A < countL S := by omega
    have hB : B < countL S := by omega
    have HDA : Hid (hasB S (A : Int) = true) := decide_eq_true (by omega)
    have HDB : Hid (hasB S (B : Int) = true) := decide_eq_true (by omega)
    have g1 : ¬ (B : Int) < (A : Int) := by omega
    have hgo := wholeL_good (S := S) (a := A) (b := B) h
    rw [boundsL_nat hA] at hgo
    have HA := Lib.hid hA
    have HB := Lib.hid hB
    have hbA := beg_le hA
    have heB := end_le hB
    by_cases h3 : B + 1 < countL S
    · have hlt := (ends_inner h3).2.1
      rw [if_pos (by omega), show ((B : Int) + 1) = ((B + 1 : Nat) : Int) by omega, boundsL_nat h3, beg_succ] at hgo
      have HG := Lib.hid hgo
      have hltI : (endL S B : Int) < (S.length : Int) := by omega
      have hw := wrap_small ((endL S B : Int) + 1) (by omega) (by omega)
      clear h hA hB hgo h3
      go_enter Tryd.func55, Tryd.ntmps55
      go_wp2_with (first
        | (go_at_call_of 57 A; refine (linHas_any S hs (A : Int) _).mono ?_; rintro e w1 ⟨rfl, b1⟩; rw [HDA.out])
        | (go_at_call_of 57 B; refine (linHas_any S hs (B : Int) _).mono ?_; rintro e w2 ⟨rfl, b2⟩; rw [HDB.out])
        | (go_at_call_of 58 A; refine (linBegEnd_any S hs A HA.out _).mono ?_; rintro e w3 ⟨rfl, b3⟩)
        | (go_at_call_of 58 B; refine (linBegEnd_any S hs B HB.out _).mono ?_; rintro e w4 ⟨rfl, b4⟩))
      go_ret3
      have z1 := b1.size
      have z2 := b2.size
      have z3 := b3.size
      exact ⟨by rw [HG.out]; rfl, ((b1.trans (b2.mono z1)).trans (b3.mono (by omega))).trans (b4.mono (by omega))⟩
    · have hee := ends_last (S := S) (n := B) (by omega)
      rw [if_neg (by omega)] at hgo
      by_cases h4 : 0 < A
      · have hpos : 0 < begL S A := by
          obtain ⟨A', rfl⟩ : ∃ A', A = A' + 1 := ⟨A - 1, by omega⟩
          rw [beg_succ]; omega
        rw [if_pos (by omega)] at hgo
        have HG := Lib.hid hgo
        have HE := Lib.hid hee
        have hposI : (0 : Int) < (begL S A : Int) := by omega
        have HS : Hid ((((begL S A) - 1 : Nat) : Int) = (begL S A : Int) - 1) := by show _ = _; omega
        have hw := wrap_small ((begL S A : Int) - 1) (by omega) (by omega)
        clear h hA hB hgo h3 h4 hee
        go_enter Tryd.func55, Tryd.ntmps55
        go_wp2_with (first
          | (go_at_call_of 57 A; refine (linHas_any S hs (A : Int) _).mono ?_; rintro e w1 ⟨rfl, b1⟩; rw [HDA.out])
          | (go_at_call_of 57 B; refine (linHas_any S hs (B : Int) _).mono ?_; rintro e w2 ⟨rfl, b2⟩; rw [HDB.out])
          | (go_at_call_of 58 A; refine (linBegEnd_any S hs A HA.out _).mono ?_; rintro e w3 ⟨rfl, b3⟩)
          | (go_at_call_of 58 B; refine (linBegEnd_any S hs B HB.out _).mono ?_; rintro e w4 ⟨rfl, b4⟩; rw [HE.out]))
        go_ret3
        have z1 := b1.size
        have z2 := b2.size
        have z3 := b3.size
        exact ⟨by rw [HG.out]; dsimp only; rw [HS.out]; rfl, ((b1.trans (b2.mono z1)).trans (b3.mono (by omega))).trans (b4.mono (by omega))⟩
      · have HZ : Hid (begL S A = 0) := by
          have hA0 : A = 0 := by omega
          show begL S A = 0
          rw [hA0]; exact beg_zero S
        rw [if_neg (by omega)] at hgo
        have HG := Lib.hid hgo
        have HE := Lib.hid hee
        clear h hA hB hgo h3 h4 hee hbA
        go_enter Tryd.func55, Tryd.ntmps55
        go_wp2_with (first
          | (go_at_call_of 57 A; refine (linHas_any S hs (A : Int) _).mono ?_; rintro e w1 ⟨rfl, b1⟩; rw [HDA.out])
          | (go_at_call_of 57 B; refine (linHas_any S hs (B : Int) _).mono ?_; rintro e w2 ⟨rfl, b2⟩; rw [HDB.out])
          | (go_at_call_of 58 A; refine (linBegEnd_any S hs A HA.out _).mono ?_; rintro e w3 ⟨rfl, b3⟩; rw [HZ.out])
          | (go_at_call_of 58 B; refine (linBegEnd_any S hs B HB.out _).mono ?_; rintro e w4 ⟨rfl, b4⟩; rw [HE.out]))
        go_ret3
        have z1 := b1.size
        have z2 := b2.size
        have z3 := b3.size
        exact ⟨by rw [HG.out]; dsimp only; rfl, ((b1.trans (b2.mono z1)).trans (b3.mono (by omega))).trans (b4.mono (by omega))⟩
  · have HG := Lib.hid (wholeL_bad h)
    by_cases h1 : 0 ≤ a ∧ a < (countL S : Int)
    · have HDA : Hid (hasB S a = true) := decide_eq_true h1
      by_cases h2 : 0 ≤ b ∧ b < (countL S : Int)
      · have HDB : Hid (hasB S b = true) := decide_eq_true h2
        have h3 : b < a := by omega
        clear h h1 h2
        go_enter Tryd.func55, Tryd.ntmps55
        go_wp2_with (first
          | (go_at_call_of 57 a; refine (linHas_any S hs a _).mono ?_; rintro e w1 ⟨rfl, b1⟩; rw [HDA.out])
          | (go_at_call_of 57 b; refine (linHas_any S hs b _).mono ?_; rintro e w2 ⟨rfl, b2⟩; rw [HDB.out]))
        go_ret3
        exact ⟨by rw [HG.out]; rfl, b1.trans (b2.mono b1.size)⟩
      · have HDB : Hid (hasB S b = false) := decide_eq_false h2
        clear h h1 h2
        go_enter Tryd.func55, Tryd.ntmps55
        go_wp2_with (first
          | (go_at_call_of 57 a; refine (linHas_any S hs a _).mono ?_; rintro e w1 ⟨rfl, b1⟩; rw [HDA.out])
          | (go_at_call_of 57 b; refine (linHas_any S hs b _).mono ?_; rintro e w2 ⟨rfl, b2⟩; rw [HDB.out]))
        go_ret3
        exact ⟨by rw [HG.out]; rfl, b1.trans (b2.mono b1.size)⟩
    · have HDA : Hid (hasB S a = false) := decide_eq_false h1
      clear h h1
      go_enter Tryd.func55, Tryd.ntmps55
      go_wp2_with (go_at_call_of 57 a; refine (linHas_any S hs a _).mono ?_; rintro e w1 ⟨rfl, b1⟩; rw [HDA.out])
      go_ret3
      exact ⟨by rw [HG.out]; rfl, b1⟩
end Go.Proofs.YtgmeamefbfgbgaaDoor
