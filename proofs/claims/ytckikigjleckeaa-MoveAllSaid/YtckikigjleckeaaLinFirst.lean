/-
  Contracts of the document's own answers, layer 6: First.
-/
import Derived.Test.YtckikigjleckeaaLinSigns
namespace Go.Proofs.Ytckikigjleckeaa
open Go.RowKit

theorem firstL_of {S : List UInt8} {n : Int} {k j : Nat} (hk : broughtL S n = k) (hj : firstJ (signsL S k) = j) : firstL S n = begL S k + width ((signsL S k).take j) := by
  unfold firstL; rw [hk, hj]
theorem brought_lt (S : List UInt8) (n : Int) : broughtL S n < countL S := by have := countL_pos S; unfold broughtL; omega

set_option maxHeartbeats 2000000 in
theorem refFirst_any (S : List UInt8) (hs : S.length ≤ 1000000) (n : Int) (w : World) :
    Calls Try.prog 49 #[.string ⟨S.toArray⟩, .int .i64 n] w fun e w' => e = .returned (.int .i64 (firstL S n : Nat)) ∧ Below w.heap.size w w' := by
  have hb := brought_lt S n
  obtain ⟨q, hq⟩ : ∃ q, broughtL S n = q := ⟨_, rfl⟩
  have HQ := Lib.hid hq
  have hsl := startsL_len S (broughtL S n)
  rw [hq] at hb hsl
  have HN := Lib.hid (fun k (hk : k < (signsL S q).length) => startsL_nth hb hk)
  have HC := Lib.hid (startsL_count hb)
  have HL := Lib.hid (lastL_eq hb)
  have HS := Lib.hid (fun (k : Nat) (hk : k < (signsL S q).length) (i : Nat) hi => (sign_of hb hk (i := i) hi).1)
  go_enter Try.func49, Try.ntmps49
  go_upto_region 3 with (first
    | (go_at_call 73; refine (refBrought_any S hs n _).mono ?_; rintro e w1 ⟨rfl, b1⟩; rw [HQ.out])
    | (go_at_call 74; refine (refLStarts_any S hs q _).mono ?_; rintro e w2 ⟨A, c, rfl, hown, b2⟩))
  have z1 := b1.size
  have z2 := b2.size
  have HR := Lib.hid (Row.of_own hown)
  have B2 := Lib.hid (b1.trans (b2.mono z1))
  have HLL : Hid ((startsL S (q : Int)).length = (signsL S q).length) := HC.out
  generalize startsL S (q : Int) = l at *
  clear hown b1 b2
  go_wp2_with fail
  go_loopw [7] (fun j wr => ∃ k : Nat, k ≤ l.length ∧ j = .int .i64 k ∧ (∀ i (hi : i < (signsL S q).length), i < k → classL ((signsL S q)[i]).1 = 0) ∧ Below w2.heap.size w2 wr) (fun j _ => l.length - (intOf j).toNat)
  case atStart => exact ⟨0, Nat.zero_le _, rfl, fun i _ h => absurd h (by omega), Below.refl _ _⟩
  case round =>
    obtain ⟨k, hk, rfl, hcl, hb2⟩ := hrel
    have HCL := Lib.hid hcl
    clear hcl
    by_cases hlt : k < l.length
    · obtain ⟨ad, rfl, hbl, c0⟩ := (HR.out.below hb2).map_at hlt
      have hkB : k < (signsL S q).length := by rw [← HLL.out]; exact hlt
      have HX : Hid (l[k] = begL S q + width ((signsL S q).take k)) := by
        have := HN.out k hkB
        show l[k] = _
        rw [← this, List.getD_eq_getElem?_getD, List.getElem?_eq_getElem hlt]; rfl
      unfold intn at c0
      have HR2 := Lib.hid (HR.out.below hb2)
      have hr : ((signsL S q)[k]).1 ≤ 1114111 := (chars_bound (lineL S q) _ (List.getElem_mem hkB)).1
      generalize l[k] = x at *
      generalize hy : ((signsL S q)[k]).1 = y at *
      have HY := Lib.hid hy
      clear hy
      have hz := hb2.size
      by_cases hcy : classL y = 0
      · have hcy' : (((classL y : Nat) : Int) != 0) = false := by rw [hcy]; rfl
        go_wp2_with (first
          | (go_at_call 13; refine (refAt_any S hs (x : Int) _).mono ?_; rintro e w3 ⟨i, rfl, hi, b3⟩; rw [HX.out] at hi; rw [HS.out k hkB i hi, HY.out]; clear hi)
          | (go_at_call 75; refine (refClass_any y hr _).mono ?_; rintro e w4 ⟨rfl, rfl⟩))
        go_roundw
        case rel => exact ⟨k + 1, by omega, by go_num, fun i hi hik => by
          rcases Nat.lt_or_ge i k with h | h
          · exact HCL.out i hi h
          · obtain rfl : i = k := by omega
            rw [HY.out]; exact hcy, hb2.trans (b3.mono hz)⟩
        case measure => simp [intOf]; omega
      · have hcy' : (((classL y : Nat) : Int) != 0) = true := by simpa using hcy
        have HF : Hid (firstL S n = x) := by
          show firstL S n = x
          rw [HX.out]
          refine firstL_of HQ.out (firstJ_hit hkB (by rw [HY.out]; exact hcy) fun i hi => HCL.out i (by omega) hi)
        go_wp2_with (first
          | (go_at_call 13; refine (refAt_any S hs (x : Int) _).mono ?_; rintro e w3 ⟨i, rfl, hi, b3⟩; rw [HX.out] at hi; rw [HS.out k hkB i hi, HY.out]; clear hi; have c1 : w3.cell? (ad.add k) = some (.int .i64 (x : Int)) := (b3.cell (by rw [add_block]; omega)).trans c0)
          | (go_at_call 75; refine (refClass_any y hr _).mono ?_; rintro e w4 ⟨rfl, rfl⟩))
        go_ret
        exact ⟨by rw [HF.out]; rfl, B2.out.trans ((hb2.trans (b3.mono hz)).mono (Nat.le_trans z1 z2))⟩
    · have HF : Hid (firstL S n = lastL S (q : Int)) := by
        show firstL S n = lastL S (q : Int)
        have hlen := HLL.out
        rw [HL.out]
        exact firstL_of HQ.out (firstJ_none fun i hi => HCL.out i hi (by omega))
      have hz := hb2.size
      go_wp2_with (go_at_call 76; refine (refLast_any S hs (q : Int) _).mono ?_; rintro e w5 ⟨rfl, b5⟩)
      go_ret
      exact ⟨by rw [HF.out]; rfl, B2.out.trans ((hb2.trans (b5.mono hz)).mono (Nat.le_trans z1 z2))⟩
end Go.Proofs.Ytckikigjleckeaa
