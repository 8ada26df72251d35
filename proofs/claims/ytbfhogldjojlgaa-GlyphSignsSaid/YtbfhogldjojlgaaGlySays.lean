/-
  What package glyph's functions are to answer, as one bundle; its proof lies with the landed code's contracts. The law package's alive.
-/
import Derived.Test.YtbfhogldjojlgaaGlyWhich
import Derived.Test.YtbfhogldjojlgaaGlyEncode
namespace Go.Proofs.Ytbfhogldjojlgaa
open Go.RowKit

structure GlySays : Prop where
  count : ∀ (S : List UInt8) (w : World), S.length ≤ 1000000 → Calls Try.prog 13 #[.string ⟨S.toArray⟩] w fun e w' => e = .returned (.int .i64 ((chars S).length : Nat)) ∧ Below w.heap.size w w'
  starts : ∀ (S : List UInt8) (w : World), S.length ≤ 1000000 → Calls Try.prog 12 #[.string ⟨S.toArray⟩] w fun e w' => ∃ A c, e = .returned (.slice A (startsAt 0 (chars S)).length c) ∧
      w'.ownsRow w.heap.size 3 1 (.slice A (startsAt 0 (chars S)).length c) (startsAt 0 (chars S)).length ((startsAt 0 (chars S)).map intn) ∧ Below w.heap.size w w'
  valid : ∀ (S : List UInt8) (w : World), S.length ≤ 1000000 → Calls Try.prog 14 #[.string ⟨S.toArray⟩] w fun e w' => e = .returned (.bool ((chars S).all fun x => !broken x)) ∧ Below w.heap.size w w'
  align : ∀ (S : List UInt8) (p : Int) (w : World), S.length ≤ 1000000 → Calls Try.prog 18 #[.string ⟨S.toArray⟩, .int .i64 p] w fun e w' => ∃ i : Nat, e = .returned (.int .i64 (width ((chars S).take i) : Nat)) ∧ Which (chars S) p i ∧ Below w.heap.size w w'
  next : ∀ (S : List UInt8) (p : Int) (w : World), S.length ≤ 1000000 → Calls Try.prog 20 #[.string ⟨S.toArray⟩, .int .i64 p] w fun e w' => ∃ i : Nat, e = .returned (.int .i64 (width ((chars S).take (i + 1)) : Nat)) ∧ Which (chars S) p i ∧ Below w.heap.size w w'
  prev : ∀ (S : List UInt8) (p : Int) (w : World), S.length ≤ 1000000 → Calls Try.prog 22 #[.string ⟨S.toArray⟩, .int .i64 p] w fun e w' => ∃ i : Nat, e = .returned (.int .i64 (width ((chars S).take (i - 1)) : Nat)) ∧ Which (chars S) p i ∧ Below w.heap.size w w'
  at_ : ∀ (S : List UInt8) (p : Int) (w : World), S.length ≤ 1000000 → Calls Try.prog 16 #[.string ⟨S.toArray⟩, .int .i64 p] w fun e w' => ∃ i : Nat, e = .returned (.tuple #[.int .i32 (((chars S).getD i (0, 0)).1 : Nat), .int .i64 (((chars S).getD i (0, 0)).2 : Nat)]) ∧ Which (chars S) p i ∧ Below w.heap.size w w'
  encode : ∀ (A : Option Addr) (c B : Nat) (zs : List Int) (w : World), (∀ z ∈ zs, -2147483648 ≤ z ∧ z ≤ 2147483647) → zs.length ≤ 1000000 → B ≤ w.heap.size → Row w B A (zs.map runz) →
      Calls Try.prog 24 #[.slice A zs.length c] w fun e w' => e = .returned (.string ⟨(encAll zs).toArray⟩) ∧ Below w.heap.size w w'
  class95 : ∀ w : World, Calls Try.prog 26 #[.int .i32 95] w fun e w' => e = .returned (.int .i64 1) ∧ Below w.heap.size w w'

theorem chars_a9 : chars [97, 195, 169] = [(97, 1), (233, 2)] := by decide +kernel
theorem chars_a9f : (chars [97, 195, 169, 255]).length = 3 := by decide +kernel
theorem chars_f : ((chars [255]).all fun x => !broken x) = false := by decide +kernel
theorem which_one {i : Nat} (h : Which [(97, 1), (233, 2)] 2 i) : i = 1 := by
  refine h.unique ⟨by decide, ?_, ?_⟩
  · intro j hj
    obtain rfl : j = 0 := by omega
    simp [width]
  · intro _; simp [width]

set_option maxHeartbeats 1000000 in
theorem glyAlive_any (G : GlySays) (w : World) : Calls Try.prog 9 #[] w fun e w' => e = .returned (.bool true) ∧ Below w.heap.size w w' := by
  have HG := Lib.hid G
  clear G
  have H1 := Lib.hid chars_a9
  have H2 := Lib.hid chars_a9f
  have H3 := Lib.hid chars_f
  go_enter Try.func9, Try.ntmps9
  go_wp2_with fail
  refine (HG.out.at_ [97, 195, 169] 2 _ (by simp)).mono ?_
  rintro e w1 ⟨i, rfl, hi, hb1⟩
  rw [H1.out] at hi
  obtain rfl := which_one hi
  clear hi
  rw [H1.out, show ([(97, 1), (233, 2)] : List (Nat × Nat)).getD 1 (0, 0) = (233, 2) from rfl]
  have z1 := hb1.size
  go_wp2_with fail
  refine (HG.out.count [97, 195, 169, 255] _ (by simp)).mono ?_
  rintro e w2 ⟨rfl, hb2⟩
  rw [H2.out]
  have z2 := hb2.size
  go_wp2_with fail
  refine (HG.out.align [97, 195, 169] 2 _ (by simp)).mono ?_
  rintro e w3 ⟨i, rfl, hi, hb3⟩
  rw [H1.out] at hi
  obtain rfl := which_one hi
  clear hi
  rw [H1.out, show width (([(97, 1), (233, 2)] : List (Nat × Nat)).take 1) = 1 from rfl]
  have z3 := hb3.size
  go_wp2_with fail
  refine (HG.out.valid [255] _ (by simp)).mono ?_
  rintro e w4 ⟨rfl, hb4⟩
  rw [H3.out]
  have z4 := hb4.size
  go_wp2_with fail
  refine (HG.out.valid [] _ (by simp)).mono ?_
  rintro e w5 ⟨rfl, hb5⟩
  rw [chars_nil, List.all_nil]
  have z5 := hb5.size
  go_wp2_with fail
  refine (HG.out.class95 _).mono ?_
  rintro e w6 ⟨rfl, hb6⟩
  go_wp2_with fail
  go_ret
  exact ⟨rfl, ((((hb1.trans (hb2.mono z1)).trans (hb3.mono (by omega))).trans (hb4.mono (by omega))).trans (hb5.mono (by omega))).trans (hb6.mono (by omega))⟩

set_option maxHeartbeats 400000 in
/-- two rows of the very same numbers -/
theorem refInts_same (A B : Option Addr) (c d K1 K2 : Nat) (zs : List Nat) (hlen : zs.length ≤ maxLen) (w : World) (h1 : Row w K1 A (zs.map intn)) (h2 : Row w K2 B (zs.map intn)) :
    Calls Try.prog 11 #[.slice A zs.length c, .slice B zs.length d] w fun e w' => e = .returned (.bool true) ∧ Below w.heap.size w w' := by
  unfold maxLen at hlen
  go_enter Try.func11, Try.ntmps11
  go_wp2
  go_loopw [5] (fun i wr => ∃ k : Nat, k ≤ zs.length ∧ i = .int .i64 k ∧ Row wr K1 A (zs.map intn) ∧ Row wr K2 B (zs.map intn) ∧ Below w.heap.size w wr) (fun i _ => zs.length - (intOf i).toNat)
  case atStart => exact ⟨0, Nat.zero_le _, rfl, h1, h2, Below.refl _ _⟩
  case round =>
    obtain ⟨k, hk, rfl, h1, h2, hbl⟩ := hrel
    by_cases hlt : k < zs.length
    · obtain ⟨ad, rfl, hbl1, hcell1⟩ := h1.map_at hlt
      obtain ⟨ae, rfl, hbl2, hcell2⟩ := h2.map_at hlt
      unfold intn at hcell1 hcell2
      have hI : (k : Int) < (zs.length : Int) := by omega
      have hI0 : (0 : Int) ≤ (k : Int) := by omega
      generalize zs[k] = z at *
      go_wp2_with fail
      go_quiet (fail)
      go_wp2
      go_roundw
      case rel => exact ⟨k + 1, by omega, by go_num, h1.drewN _, h2.drewN _, below_drewN hbl _⟩
      case measure => simp [intOf]; omega
    · go_wp2
      go_ret
      exact ⟨rfl, hbl⟩
end Go.Proofs.Ytbfhogldjojlgaa
