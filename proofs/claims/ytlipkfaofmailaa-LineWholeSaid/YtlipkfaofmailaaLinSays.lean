/-
  What package line's functions are to answer, as one bundle; its proof lies with the landed code's contracts. The law package's alive.
-/
import Derived.Test.YtlipkfaofmailaaLinFirst
import Derived.Test.YtlipkfaofmailaaLinRows
namespace Go.Proofs.Ytlipkfaofmailaa
open Go.RowKit

structure LineSays : Prop where
  count : ∀ (S : List UInt8) (w : World), S.length ≤ 1000000 → Calls Try.prog 10 #[.string ⟨S.toArray⟩] w fun e w' => e = .returned (.int .i64 (countL S : Nat)) ∧ Below w.heap.size w w'
  of : ∀ (S : List UInt8) (p : Int) (w : World), S.length ≤ 1000000 → Calls Try.prog 12 #[.string ⟨S.toArray⟩, .int .i64 p] w fun e w' => e = .returned (.int .i64 (ofL S p : Nat)) ∧ Below w.heap.size w w'
  bounds : ∀ (S : List UInt8) (n : Int) (w : World), S.length ≤ 1000000 → Calls Try.prog 14 #[.string ⟨S.toArray⟩, .int .i64 n] w (Gives3 w (boundsL S n))
  col : ∀ (S : List UInt8) (p : Int) (w : World), S.length ≤ 1000000 → Calls Try.prog 16 #[.string ⟨S.toArray⟩, .int .i64 p] w fun e w' => ∃ i : Nat, e = .returned (.int .i64 (colAt S (width ((chars S).take i)) : Nat)) ∧ Which (chars S) p i ∧ Below w.heap.size w w'
  place : ∀ (S : List UInt8) (n col : Int) (w : World), S.length ≤ 1000000 → Calls Try.prog 18 #[.string ⟨S.toArray⟩, .int .i64 n, .int .i64 col] w fun e w' => e = .returned (.int .i64 (placeL S n col : Nat)) ∧ Below w.heap.size w w'
  first : ∀ (S : List UInt8) (n : Int) (w : World), S.length ≤ 1000000 → Calls Try.prog 20 #[.string ⟨S.toArray⟩, .int .i64 n] w fun e w' => e = .returned (.int .i64 (firstL S n : Nat)) ∧ Below w.heap.size w w'
  whole : ∀ (S : List UInt8) (a b : Int) (w : World), S.length ≤ 1000000 → Calls Try.prog 22 #[.string ⟨S.toArray⟩, .int .i64 a, .int .i64 b] w (Gives3 w (wholeL S a b))

theorem al_whole : wholeL [97, 98, 10, 10, 32, 99] 1 2 = ((2, 6), 0) := by decide +kernel
theorem al_count : countL [97, 98, 10, 10, 32, 99] = 3 := by decide +kernel
theorem al_none : countL [] = 1 := by decide +kernel
theorem al_first : firstL [97, 98, 10, 10, 32, 99] 2 = 5 := by decide +kernel

set_option maxHeartbeats 1000000 in
theorem lineAlive_any (L : LineSays) (w : World) : Calls Try.prog 9 #[] w fun e w' => e = .returned (.bool true) ∧ Below w.heap.size w w' := by
  have HL := Lib.hid L
  clear L
  have H1 := Lib.hid al_whole
  have H2 := Lib.hid al_count
  have H3 := Lib.hid al_none
  have H4 := Lib.hid al_first
  go_enter Try.func9, Try.ntmps9
  go_wp2_with fail
  refine (HL.out.whole [97, 98, 10, 10, 32, 99] 1 2 _ (by simp)).mono ?_
  rintro e w1 ⟨rfl, b1⟩
  rw [H1.out]
  go_wp2_with fail
  refine (HL.out.count [97, 98, 10, 10, 32, 99] _ (by simp)).mono ?_
  rintro e w2 ⟨rfl, b2⟩
  rw [H2.out]
  go_wp2_with fail
  refine (HL.out.count [] _ (by simp)).mono ?_
  rintro e w3 ⟨rfl, b3⟩
  rw [H3.out]
  go_wp2_with fail
  refine (HL.out.first [97, 98, 10, 10, 32, 99] 2 _ (by simp)).mono ?_
  rintro e w4 ⟨rfl, b4⟩
  rw [H4.out]
  go_wp2_with fail
  go_ret
  have z1 := b1.size
  have z2 := b2.size
  have z3 := b3.size
  exact ⟨rfl, ((b1.trans (b2.mono z1)).trans (b3.mono (by omega))).trans (b4.mono (by omega))⟩
end Go.Proofs.Ytlipkfaofmailaa
