/-
  The walks of the statements of layer 2, from what package glyph's functions answer: GlyphSigns, GlyphMoves.
-/
import Derived.Test.YtbfhogldjojlgaaGlySays
namespace Go.Proofs.Ytbfhogldjojlgaa
open Go.RowKit

set_option maxHeartbeats 1000000 in
theorem glyphSigns_walk (G : GlySays) (w : World) (S : List UInt8) (hS : S.length ≤ maxLen) :
    Calls Try.prog 3 #[.string ⟨S.toArray⟩] w fun e w' => e = .returned (.bool true) ∧ Below w.heap.size w w' := by
  have HG := Lib.hid G
  clear G
  by_cases hmost : 4096 < S.length
  · go_enter Try.func3, Try.ntmps3
    go_wp2_with (go_at_call 9; refine (glyAlive_any HG.out _).mono ?_; rintro e w1 ⟨rfl, hb1⟩)
    go_ret
    exact ⟨rfl, hb1⟩
  · have hs : S.length ≤ 1000000 := by omega
    have hcl := chars_len S
    have HL : Hid ((startsAt 0 (chars S)).length = (chars S).length) := startsAt_len _ _
    go_enter Try.func3, Try.ntmps3
    go_wp2_with fail
    refine (glyAlive_any HG.out _).mono ?_
    rintro e w1 ⟨rfl, hb1⟩
    have z1 := hb1.size
    go_wp2_with fail
    refine (refStarts_any S hs _).mono ?_
    rintro e w2 ⟨A, c, rfl, hown2, hb2⟩
    have z2 := hb2.size
    go_wp2_with fail
    refine (HG.out.starts S _ hs).mono ?_
    rintro e w3 ⟨A3, c3, rfl, hown3, hb3⟩
    have z3 := hb3.size
    have r2 := (Row.of_own hown2).below hb3
    have r3 := Row.of_own hown3
    clear hown2 hown3
    go_wp2_with fail
    refine (refInts_same A3 A c3 c _ _ _ (by rw [HL.out]; unfold maxLen; omega) _ r3 r2).mono ?_
    rintro e w4 ⟨rfl, hb4⟩
    have z4 := hb4.size
    go_wp2_with fail
    refine (HG.out.count S _ hs).mono ?_
    rintro e w5 ⟨rfl, hb5⟩
    have z5 := hb5.size
    rw [HL.out]
    go_wp2_with fail
    refine (HG.out.valid S _ hs).mono ?_
    rintro e w6 ⟨rfl, hb6⟩
    have z6 := hb6.size
    go_wp2_with fail
    refine (refValid_any S hs _).mono ?_
    rintro e w7 ⟨rfl, hb7⟩
    go_wp2_with fail
    go_ret
    exact ⟨rfl, (((((hb1.trans (hb2.mono z1)).trans (hb3.mono (by omega))).trans (hb4.mono (by omega))).trans (hb5.mono (by omega))).trans (hb6.mono (by omega))).trans (hb7.mono (by omega))⟩

set_option maxHeartbeats 1000000 in
theorem glyphMoves_walk (G : GlySays) (w : World) (S : List UInt8) (hS : S.length ≤ maxLen) (p : Int) :
    Calls Try.prog 4 #[.string ⟨S.toArray⟩, .int .i64 p] w fun e w' => e = .returned (.bool true) ∧ Below w.heap.size w w' := by
  have HG := Lib.hid G
  clear G
  by_cases hmost : 4096 < S.length
  · go_enter Try.func4, Try.ntmps4
    go_wp2_with (go_at_call 9; refine (glyAlive_any HG.out _).mono ?_; rintro e w1 ⟨rfl, hb1⟩)
    go_ret
    exact ⟨rfl, hb1⟩
  · have hs : S.length ≤ 1000000 := by omega
    go_enter Try.func4, Try.ntmps4
    go_wp2_with fail
    refine (glyAlive_any HG.out _).mono ?_
    rintro e w1 ⟨rfl, hb1⟩
    have z1 := hb1.size
    go_wp2_with fail
    refine (HG.out.at_ S p _ hs).mono ?_
    rintro e w2 ⟨i, rfl, hi, hb2⟩
    have z2 := hb2.size
    have HI := Lib.hid hi
    clear hi
    obtain ⟨hx1, hx2⟩ := getD_bound S i
    obtain ⟨x, hx⟩ : ∃ x, (chars S).getD i (0, 0) = x := ⟨_, rfl⟩
    have HX := Lib.hid hx
    rw [hx] at hx1 hx2
    clear hx
    rw [HX.out]
    go_wp2_with fail
    refine (refAt_any S hs p _).mono ?_
    rintro e w3 ⟨j, rfl, hj, hb3⟩
    have z3 := hb3.size
    obtain rfl := hj.unique HI.out
    clear hj
    rw [HX.out]
    go_wp2_with fail
    refine (HG.out.align S p _ hs).mono ?_
    rintro e w4 ⟨k, rfl, hk, hb4⟩
    have z4 := hb4.size
    obtain rfl := hk.unique HI.out
    clear hk
    go_wp2_with fail
    refine (refAlign_any S hs p _).mono ?_
    rintro e w5 ⟨k', rfl, hk, hb5⟩
    have z5 := hb5.size
    obtain rfl := hk.unique HI.out
    clear hk
    go_wp2_with fail
    refine (HG.out.next S p _ hs).mono ?_
    rintro e w6 ⟨k', rfl, hk, hb6⟩
    have z6 := hb6.size
    obtain rfl := hk.unique HI.out
    clear hk
    go_wp2_with fail
    refine (refNext_any S hs p _).mono ?_
    rintro e w7 ⟨k', rfl, hk, hb7⟩
    have z7 := hb7.size
    obtain rfl := hk.unique HI.out
    clear hk
    go_wp2_with fail
    refine (HG.out.prev S p _ hs).mono ?_
    rintro e w8 ⟨k', rfl, hk, hb8⟩
    have z8 := hb8.size
    obtain rfl := hk.unique HI.out
    clear hk
    go_wp2_with fail
    refine (refPrev_any S hs p _).mono ?_
    rintro e w9 ⟨k', rfl, hk, hb9⟩
    obtain rfl := hk.unique HI.out
    clear hk
    go_wp2_with fail
    go_ret
    exact ⟨rfl, (((((((hb1.trans (hb2.mono z1)).trans (hb3.mono (by omega))).trans (hb4.mono (by omega))).trans (hb5.mono (by omega))).trans (hb6.mono (by omega))).trans (hb7.mono (by omega))).trans (hb8.mono (by omega))).trans (hb9.mono (by omega))⟩
end Go.Proofs.Ytbfhogldjojlgaa
