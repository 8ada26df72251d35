/-
  Contracts of the document's own answers, layer 2: which, begins, Align, Next, Prev, At.
-/
import Derived.Test.YtnkhlallnblfmaaGlyMoves
namespace Go.Proofs.Ytnkhlallnblfmaa
open Go.RowKit

/-- the number of the sign in which a place lies; how many there are, if it lies behind them -/
structure Which (l : List (Nat × Nat)) (p : Int) (i : Nat) : Prop where
  le : i ≤ l.length
  ahead : ∀ j, j < i → ((width (l.take (j + 1)) : Nat) : Int) ≤ p
  here : i < l.length → p < ((width (l.take (i + 1)) : Nat) : Int)
theorem width_take_mono (l : List (Nat × Nat)) {i j : Nat} (h : i ≤ j) : width (l.take i) ≤ width (l.take j) := by
  have e : l.take j = l.take i ++ (l.drop i).take (j - i) := by
    rw [← List.take_add]; congr 1; omega
  rw [e, width_append]; omega
theorem Which.unique {l : List (Nat × Nat)} {p : Int} {i j : Nat} (h1 : Which l p i) (h2 : Which l p j) : i = j := by
  rcases Nat.lt_trichotomy i j with h | h | h
  · have a := h1.here (by have := h2.le; omega)
    have b := h2.ahead i h
    omega
  · exact h
  · have a := h2.here (by have := h1.le; omega)
    have b := h1.ahead j h
    omega
theorem width_le_take (l : List (Nat × Nat)) (k : Nat) : width (l.take k) ≤ width l := by
  have := width_take_mono l (show k ≤ max k l.length by omega)
  rw [List.take_of_length_le (i := max k l.length) (by omega)] at this
  exact this
theorem width_succ (l : List (Nat × Nat)) (k : Nat) (h : k < l.length) : width (l.take (k + 1)) = width (l.take k) + l[k].2 := by
  rw [List.take_succ_eq_append_getElem h, width_append]; simp [width]
theorem width_chars (S : List UInt8) : width (chars S) = S.length := by
  have key : ∀ (n : Nat) (a : Nat) (done : List (Nat × Nat)), S.length - a ≤ n → Read S done a → width (chars S) = S.length := by
    intro n
    induction n with
    | zero =>
      intro a done h hr
      rw [hr.end_ (by omega), hr.wide]
      have := hr.le; omega
    | succ n ih =>
      intro a done h hr
      by_cases hlt : a < S.length
      · have := (dec_pos (S.drop a)).1
        exact ih _ _ (by omega) (hr.step hlt)
      · rw [hr.end_ (by omega), hr.wide]
        have := hr.le; omega
  exact key S.length 0 [] (by omega) (Read.start S)

set_option maxHeartbeats 1000000 in
theorem refWhich_any (A : Option Addr) (c B : Nat) (l : List (Nat × Nat)) (hl : l.length ≤ 1000000) (hw : width l ≤ 1000000) (p : Int) (w : World) (h : Row w B A (flat (offs 0 l))) :
    Calls Try.prog 26 #[.slice A l.length c, .int .i64 p] w fun e w' => ∃ i : Nat, e = .returned (.int .i64 i) ∧ Which l p i ∧ Below w.heap.size w w' ∧ Row w' B A (flat (offs 0 l)) := by
  go_enter Try.func26, Try.ntmps26
  go_wp2
  go_loopw [5] (fun i wr => ∃ k : Nat, k ≤ l.length ∧ i = .int .i64 k ∧ Hid (∀ j, j < k → ((width (l.take (j + 1)) : Nat) : Int) ≤ p) ∧ Row wr B A (flat (offs 0 l)) ∧ Below w.heap.size w wr) (fun i _ => l.length - (intOf i).toNat)
  case atStart => exact ⟨0, Nat.zero_le _, rfl, fun j hj => absurd hj (by omega), h, Below.refl _ _⟩
  case round =>
    obtain ⟨k, hk, rfl, HA, hrow, hb⟩ := hrel
    by_cases hlt : k < l.length
    · obtain ⟨ad, rfl, hbl, c0, c1, c2, c3⟩ := sign_cells hrow hlt
      rw [Nat.zero_add] at c0
      have HW := Lib.hid (width_succ l k hlt)
      have hle := width_le_take l (k + 1)
      rw [HW.out] at hle
      have HT := Lib.hid (fun (i : Nat) => width_succ l i)
      generalize l[k] = x at *
      have hkI : (k : Int) < (l.length : Int) := by omega
      have hk0 : (0 : Int) ≤ (k : Int) := by omega
      clear c2 c3
      by_cases hp : p < ((width (l.take k) : Nat) : Int) + (x.2 : Int)
      · go_wp2_with fail
        go_quiet (fail)
        go_wp2
        go_ret
        refine ⟨k, rfl, ⟨by omega, HA.out, fun _ => by rw [HW.out]; omega⟩, below_drewN hb _, hrow.drewN _⟩
      · go_wp2_with fail
        go_quiet (fail)
        go_wp2
        go_roundw
        case rel =>
          refine ⟨k + 1, by omega, by go_num, fun j hj => ?_, hrow.drewN _, below_drewN hb _⟩
          by_cases hjk : j = k
          · subst hjk; rw [HW.out]; omega
          · exact HA.out j (by omega)
        case measure => simp [intOf]; omega
    · obtain rfl : k = l.length := by omega
      go_wp2
      go_ret
      exact ⟨l.length, rfl, ⟨Nat.le_refl _, HA.out, fun h => absurd h (by omega)⟩, hb, hrow⟩

set_option maxHeartbeats 400000 in
theorem refBegins_any (S : List UInt8) (_hs : S.length ≤ 1000000) (A : Option Addr) (c B : Nat) (i : Nat) (_hi : i ≤ 2000000) (w : World) (h : Row w B A (flat (offs 0 (chars S)))) :
    Calls Try.prog 25 #[.string ⟨S.toArray⟩, .slice A (chars S).length c, .int .i64 i] w fun e w' => e = .returned (.int .i64 (width ((chars S).take i) : Nat)) ∧ w = w' := by
  have hcl := chars_len S
  have HW := Lib.hid (width_chars S)
  by_cases hlt : i < (chars S).length
  · obtain ⟨ad, rfl, hbl, c0, c1, c2, c3⟩ := sign_cells h hlt
    rw [Nat.zero_add] at c0
    clear c1 c2 c3
    generalize width ((chars S).take i) = W at *
    go_enter Try.func25, Try.ntmps25
    go_wp2
    go_ret
    exact ⟨rfl, rfl⟩
  · have HT : Hid (width ((chars S).take i) = S.length) := by
      show width _ = _
      rw [List.take_of_length_le (by omega), HW.out]
    go_enter Try.func25, Try.ntmps25
    go_wp2
    go_ret
    exact ⟨by rw [HT.out]; rfl, rfl⟩

set_option maxHeartbeats 400000 in
theorem refAlign_any (S : List UInt8) (hs : S.length ≤ 1000000) (p : Int) (w : World) :
    Calls Try.prog 10 #[.string ⟨S.toArray⟩, .int .i64 p] w fun e w' => ∃ i : Nat, e = .returned (.int .i64 (width ((chars S).take i) : Nat)) ∧ Which (chars S) p i ∧ Below w.heap.size w w' := by
  have hcl := chars_len S
  have hwc : width (chars S) ≤ 1000000 := by rw [width_chars]; exact hs
  go_enter Try.func10, Try.ntmps10
  go_wp2_with fail
  refine (refSigns_any S hs _).mono ?_
  rintro e w1 ⟨A, c, rfl, hown, hb1⟩
  have hrow := Row.of_own hown
  have z1 := hb1.size
  clear hown
  go_wp2_with fail
  refine (refWhich_any A c _ (chars S) (by omega) hwc p _ hrow).mono ?_
  rintro e w2 ⟨i, rfl, hw, hb2, hrow2⟩
  have hi := hw.le
  go_wp2_with fail
  refine (refBegins_any S hs A c _ i (by omega) _ hrow2).mono ?_
  rintro e w3 ⟨rfl, rfl⟩
  go_wp2_with fail
  go_ret
  exact ⟨i, rfl, hw, hb1.trans (hb2.mono z1)⟩

set_option maxHeartbeats 400000 in
theorem refNext_any (S : List UInt8) (hs : S.length ≤ 1000000) (p : Int) (w : World) :
    Calls Try.prog 13 #[.string ⟨S.toArray⟩, .int .i64 p] w fun e w' => ∃ i : Nat, e = .returned (.int .i64 (width ((chars S).take (i + 1)) : Nat)) ∧ Which (chars S) p i ∧ Below w.heap.size w w' := by
  have hcl := chars_len S
  have hwc : width (chars S) ≤ 1000000 := by rw [width_chars]; exact hs
  go_enter Try.func13, Try.ntmps13
  go_wp2_with fail
  refine (refSigns_any S hs _).mono ?_
  rintro e w1 ⟨A, c, rfl, hown, hb1⟩
  have hrow := Row.of_own hown
  have z1 := hb1.size
  clear hown
  go_wp2_with fail
  refine (refWhich_any A c _ (chars S) (by omega) hwc p _ hrow).mono ?_
  rintro e w2 ⟨i, rfl, hw, hb2, hrow2⟩
  have hi := hw.le
  go_wp2_with fail
  rw [show ((i : Int) + 1) = ((i + 1 : Nat) : Int) by omega]
  refine (refBegins_any S hs A c _ (i + 1) (by omega) _ hrow2).mono ?_
  rintro e w3 ⟨rfl, rfl⟩
  go_wp2_with fail
  go_ret
  exact ⟨i, rfl, hw, hb1.trans (hb2.mono z1)⟩

set_option maxHeartbeats 400000 in
theorem refPrev_any (S : List UInt8) (hs : S.length ≤ 1000000) (p : Int) (w : World) :
    Calls Try.prog 12 #[.string ⟨S.toArray⟩, .int .i64 p] w fun e w' => ∃ i : Nat, e = .returned (.int .i64 (width ((chars S).take (i - 1)) : Nat)) ∧ Which (chars S) p i ∧ Below w.heap.size w w' := by
  have hcl := chars_len S
  have hwc : width (chars S) ≤ 1000000 := by rw [width_chars]; exact hs
  go_enter Try.func12, Try.ntmps12
  go_wp2_with fail
  refine (refSigns_any S hs _).mono ?_
  rintro e w1 ⟨A, c, rfl, hown, hb1⟩
  have hrow := Row.of_own hown
  have z1 := hb1.size
  clear hown
  go_wp2_with fail
  refine (refWhich_any A c _ (chars S) (by omega) hwc p _ hrow).mono ?_
  rintro e w2 ⟨i, rfl, hw, hb2, hrow2⟩
  have hi := hw.le
  by_cases h0 : i = 0
  · subst h0
    go_wp2_with fail
    go_ret
    exact ⟨0, rfl, hw, hb1.trans (hb2.mono z1)⟩
  · have hbz : ((i : Int) == 0) = false := by simp; omega
    obtain ⟨j, rfl⟩ : ∃ j, i = j + 1 := ⟨i - 1, by omega⟩
    go_wp2_with fail
    refine (refBegins_any S hs A c _ j (by omega) _ hrow2).mono ?_
    rintro e w3 ⟨rfl, rfl⟩
    go_wp2_with fail
    go_ret
    exact ⟨j + 1, rfl, hw, hb1.trans (hb2.mono z1)⟩

set_option maxHeartbeats 400000 in
theorem refAt_any (S : List UInt8) (hs : S.length ≤ 1000000) (p : Int) (w : World) :
    Calls Try.prog 27 #[.string ⟨S.toArray⟩, .int .i64 p] w fun e w' => ∃ i : Nat, e = .returned (.tuple #[.int .i64 (((chars S).getD i (0, 0)).1 : Nat), .int .i64 (((chars S).getD i (0, 0)).2 : Nat)]) ∧ Which (chars S) p i ∧ Below w.heap.size w w' := by
  have hcl := chars_len S
  have hwc : width (chars S) ≤ 1000000 := by rw [width_chars]; exact hs
  go_enter Try.func27, Try.ntmps27
  go_wp2_with fail
  refine (refSigns_any S hs _).mono ?_
  rintro e w1 ⟨A, c, rfl, hown, hb1⟩
  have hrow := Row.of_own hown
  have z1 := hb1.size
  clear hown
  go_wp2_with fail
  refine (refWhich_any A c _ (chars S) (by omega) hwc p _ hrow).mono ?_
  rintro e w2 ⟨i, rfl, hw, hb2, hrow2⟩
  have hi := hw.le
  by_cases hlt : i < (chars S).length
  · obtain ⟨ad, rfl, hbl, c0, c1, c2, c3⟩ := sign_cells hrow2 hlt
    have HG : Hid ((chars S).getD i (0, 0) = (chars S)[i]) := by show List.getD _ _ _ = _; simp [List.getD, hlt]
    generalize (chars S)[i] = x at *
    have hiI : (i : Int) < ((chars S).length : Int) := by omega
    have hi0 : (0 : Int) ≤ (i : Int) := by omega
    go_wp2_with fail
    go_quiet (fail)
    go_wp2
    go_ret2
    exact ⟨i, by rw [HG.out]; rfl, hw, below_drewN (hb1.trans (hb2.mono z1)) _⟩
  · have HG : Hid ((chars S).getD i (0, 0) = (0, 0)) := by show List.getD _ _ _ = _; simp [List.getD, hlt]
    go_wp2_with fail
    go_ret2
    exact ⟨i, by rw [HG.out]; rfl, hw, hb1.trans (hb2.mono z1)⟩
end Go.Proofs.Ytnkhlallnblfmaa
