/-
  The walks of the statements of layer 6, from what package line's functions answer: LineCounts, LineBounds, LinePlaces, LineWhole.
-/
import Derived.Test.YtlipkfaofmailaaLinSays
namespace Go.Proofs.Ytlipkfaofmailaa
open Go.RowKit

attribute [local irreducible] boundsL countL wholeL ofL colAt placeL firstL

set_option maxHeartbeats 1000000 in
theorem lineCounts_walk (L : LineSays) (w : World) (S : List UInt8) (p : Int) :
    Calls Try.prog 3 #[.string ⟨S.toArray⟩, .int .i64 p] w fun e w' => e = .returned (.bool true) ∧ Below w.heap.size w w' := by
  have HL := Lib.hid L
  clear L
  by_cases hmost : 2048 < S.length
  · go_enter Try.func3, Try.ntmps3
    go_wp2_with (go_at_call 9; refine (lineAlive_any HL.out _).mono ?_; rintro e w1 ⟨rfl, b1⟩)
    go_ret
    exact ⟨rfl, b1⟩
  · have hs : S.length ≤ 1000000 := by omega
    obtain ⟨x, hx⟩ : ∃ x, countL S = x := ⟨_, rfl⟩
    obtain ⟨y, hy⟩ : ∃ y, ofL S p = y := ⟨_, rfl⟩
    have HX := Lib.hid hx
    have HY := Lib.hid hy
    clear hx hy
    go_enter Try.func3, Try.ntmps3
    go_wp2_with (first
      | (go_at_call 9; refine (lineAlive_any HL.out _).mono ?_; rintro e w1 ⟨rfl, b1⟩)
      | (go_at_call 10; refine (HL.out.count S _ hs).mono ?_; rintro e w2 ⟨rfl, b2⟩; rw [HX.out])
      | (go_at_call 11; refine (refCount_any S hs _).mono ?_; rintro e w3 ⟨rfl, b3⟩; rw [HX.out])
      | (go_at_call 12; refine (HL.out.of S p _ hs).mono ?_; rintro e w4 ⟨rfl, b4⟩; rw [HY.out])
      | (go_at_call 13; refine (refOf_any S hs p _).mono ?_; rintro e w5 ⟨rfl, b5⟩; rw [HY.out]))
    go_ret
    have z1 := b1.size
    have z2 := b2.size
    have z3 := b3.size
    have z4 := b4.size
    exact ⟨rfl, (((b1.trans (b2.mono z1)).trans (b3.mono (by omega))).trans (b4.mono (by omega))).trans (b5.mono (by omega))⟩

set_option maxHeartbeats 1000000 in
theorem lineBounds_walk (L : LineSays) (w : World) (S : List UInt8) (n : Int) :
    Calls Try.prog 4 #[.string ⟨S.toArray⟩, .int .i64 n] w fun e w' => e = .returned (.bool true) ∧ Below w.heap.size w w' := by
  have HL := Lib.hid L
  clear L
  by_cases hmost : 2048 < S.length
  · go_enter Try.func4, Try.ntmps4
    go_wp2_with (go_at_call 9; refine (lineAlive_any HL.out _).mono ?_; rintro e w1 ⟨rfl, b1⟩)
    go_ret
    exact ⟨rfl, b1⟩
  · have hs : S.length ≤ 1000000 := by omega
    obtain ⟨F, T, E, hx⟩ : ∃ F T E, boundsL S n = ((F, T), E) := ⟨_, _, _, rfl⟩
    have HX := Lib.hid hx
    clear hx
    go_enter Try.func4, Try.ntmps4
    go_wp2_with (first
      | (go_at_call 9; refine (lineAlive_any HL.out _).mono ?_; rintro e w1 ⟨rfl, b1⟩)
      | (go_at_call 14; refine (HL.out.bounds S n _ hs).mono ?_; rintro e w2 ⟨rfl, b2⟩; rw [HX.out])
      | (go_at_call 15; refine (refBounds_any S hs n _).mono ?_; rintro e w3 ⟨rfl, b3⟩; rw [HX.out]))
    go_ret
    have z1 := b1.size
    have z2 := b2.size
    exact ⟨rfl, (b1.trans (b2.mono z1)).trans (b3.mono (by omega))⟩

set_option maxHeartbeats 1000000 in
theorem lineWhole_walk (L : LineSays) (w : World) (S : List UInt8) (a b : Int) :
    Calls Try.prog 6 #[.string ⟨S.toArray⟩, .int .i64 a, .int .i64 b] w fun e w' => e = .returned (.bool true) ∧ Below w.heap.size w w' := by
  have HL := Lib.hid L
  clear L
  by_cases hmost : 2048 < S.length
  · go_enter Try.func6, Try.ntmps6
    go_wp2_with (go_at_call 9; refine (lineAlive_any HL.out _).mono ?_; rintro e w1 ⟨rfl, b1⟩)
    go_ret
    exact ⟨rfl, b1⟩
  · have hs : S.length ≤ 1000000 := by omega
    obtain ⟨F, T, E, hx⟩ : ∃ F T E, wholeL S a b = ((F, T), E) := ⟨_, _, _, rfl⟩
    have HX := Lib.hid hx
    clear hx
    go_enter Try.func6, Try.ntmps6
    go_wp2_with (first
      | (go_at_call 9; refine (lineAlive_any HL.out _).mono ?_; rintro e w1 ⟨rfl, b1⟩)
      | (go_at_call 22; refine (HL.out.whole S a b _ hs).mono ?_; rintro e w2 ⟨rfl, b2⟩; rw [HX.out])
      | (go_at_call 23; refine (refWhole_any S hs a b _).mono ?_; rintro e w3 ⟨rfl, b3⟩; rw [HX.out]))
    go_ret
    have z1 := b1.size
    have z2 := b2.size
    exact ⟨rfl, (b1.trans (b2.mono z1)).trans (b3.mono (by omega))⟩

set_option maxHeartbeats 1000000 in
theorem linePlaces_walk (L : LineSays) (w : World) (S : List UInt8) (n c : Int) :
    Calls Try.prog 5 #[.string ⟨S.toArray⟩, .int .i64 n, .int .i64 c] w fun e w' => e = .returned (.bool true) ∧ Below w.heap.size w w' := by
  have HL := Lib.hid L
  clear L
  by_cases hmost : 2048 < S.length
  · go_enter Try.func5, Try.ntmps5
    go_wp2_with (go_at_call 9; refine (lineAlive_any HL.out _).mono ?_; rintro e w1 ⟨rfl, b1⟩)
    go_ret
    exact ⟨rfl, b1⟩
  · have hs : S.length ≤ 1000000 := by omega
    obtain ⟨i, hi⟩ := which_ex (chars S) n
    obtain ⟨x, hx⟩ : ∃ x, colAt S (width ((chars S).take i)) = x := ⟨_, rfl⟩
    obtain ⟨y, hy⟩ : ∃ y, placeL S n c = y := ⟨_, rfl⟩
    obtain ⟨z, hz⟩ : ∃ z, firstL S n = z := ⟨_, rfl⟩
    have HI := Lib.hid hi
    have HX := Lib.hid hx
    have HY := Lib.hid hy
    have HZ := Lib.hid hz
    clear hx hy hz hi
    go_enter Try.func5, Try.ntmps5
    go_wp2_with (first
      | (go_at_call 9; refine (lineAlive_any HL.out _).mono ?_; rintro e w1 ⟨rfl, b1⟩)
      | (go_at_call 16; refine (HL.out.col S n _ hs).mono ?_; rintro e w2 ⟨i2, rfl, h2, b2⟩; obtain rfl := HI.out.unique h2; rw [HX.out]; clear h2)
      | (go_at_call 17; refine (refCol_any S hs n _).mono ?_; rintro e w3 ⟨i3, rfl, h3, b3⟩; obtain rfl := HI.out.unique h3; rw [HX.out]; clear h3)
      | (go_at_call 18; refine (HL.out.place S n c _ hs).mono ?_; rintro e w4 ⟨rfl, b4⟩; rw [HY.out])
      | (go_at_call 19; refine (refPlace_any S hs n c _).mono ?_; rintro e w5 ⟨rfl, b5⟩; rw [HY.out])
      | (go_at_call 20; refine (HL.out.first S n _ hs).mono ?_; rintro e w6 ⟨rfl, b6⟩; rw [HZ.out])
      | (go_at_call 21; refine (refFirst_any S hs n _).mono ?_; rintro e w7 ⟨rfl, b7⟩; rw [HZ.out]))
    go_ret
    have z1 := b1.size
    have z2 := b2.size
    have z3 := b3.size
    have z4 := b4.size
    have z5 := b5.size
    have z6 := b6.size
    exact ⟨rfl, (((((b1.trans (b2.mono z1)).trans (b3.mono (by omega))).trans (b4.mono (by omega))).trans (b5.mono (by omega))).trans (b6.mono (by omega))).trans (b7.mono (by omega))⟩
end Go.Proofs.Ytlipkfaofmailaa
