/-
  The landed Cat: layer 3.
-/
import Derived.Test.YthdflibljngjiaaRunOwnSplice
namespace Go.Proofs.Ythdflibljngjiaa
open Go.RowKit

theorem cat_splice (a b : List RunP) : spliceOf a (totalOf a : Nat) (totalOf a : Nat) b = catOf a b := by
  by_cases ha : goodB a = true
  · have hw : withinB a (totalOf a : Nat) (totalOf a : Nat) = true := by unfold withinB; rw [ha]; simp
    have ht := totalOf_good ha
    by_cases hb : goodB b = true
    · by_cases hbig : (bytesOf a).length + (bytesOf b).length ≤ 4096
      · rw [catOf_ok ha hb hbig, spliceOf_ok hw hb (by omega), ht]
        simp
      · rw [catOf_big ha hb hbig, spliceOf_big hw hb (by omega)]
    · rw [catOf_bad (fun h => hb h.2), spliceOf_bad (fun h => hb h.2)]
  · have hw : ¬ withinB a (totalOf a : Nat) (totalOf a : Nat) = true := fun h => ha (within_of h).1
    rw [catOf_bad (fun h => ha h.1), spliceOf_bad (fun h => hw h.1)]

set_option maxHeartbeats 1000000 in
theorem runCat_any (A A2 : Option Addr) (c d B B2 : Nat) (a b : List RunP) (hfa : Fits a) (hfb : Fits b) (ha : a.length ≤ maxLen) (hb0 : b.length ≤ maxLen) (w : World) (hB : B ≤ w.heap.size) (hB2 : B2 ≤ w.heap.size) (h1 : Row w B A (flatR a)) (h2 : Row w B2 A2 (flatR b)) :
    Calls Try.prog 25 #[.slice A a.length c, .slice A2 b.length d] w (Gives w (catOf a b)) := by
  have HFA := Lib.hid hfa
  have HFB := Lib.hid hfb
  clear hfa hfb
  obtain ⟨p, hp⟩ : ∃ p, catOf a b = p := ⟨_, rfl⟩
  rw [hp]
  have HC := Lib.hid ((cat_splice a b).trans hp)
  clear hp
  go_enter Try.func25, Try.ntmps25
  go_wp2_with fail
  refine (runTotal_any A c B a HFA.out ha w hB h1).mono ?_
  rintro e w1 ⟨rfl, hb1⟩
  have z1 := hb1.size
  go_wp2_with fail
  refine (runTotal_any A c B a HFA.out ha w1 (by omega) (h1.below (hb1.mono hB))).mono ?_
  rintro e w2 ⟨rfl, hb2⟩
  have z2 := hb2.size
  have b2 := hb1.trans (hb2.mono z1)
  go_wp2_with fail
  refine (runSplice_any A A2 c d B B2 a b (totalOf a : Nat) (totalOf a : Nat) HFA.out HFB.out ha hb0 w2 (by omega) (by omega) (h1.below (b2.mono hB)) (h2.below (b2.mono hB2))).mono ?_
  rw [HC.out]
  rintro e w3 ⟨A3, c3, rfl, hown3, hb3⟩
  go_wp2
  go_ret2
  exact ⟨A3, c3, rfl, own_base hown3 (by omega), b2.trans (hb3.mono (by omega))⟩
end Go.Proofs.Ythdflibljngjiaa
