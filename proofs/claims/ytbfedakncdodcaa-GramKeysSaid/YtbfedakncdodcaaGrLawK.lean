/-
  Which keys are motions', which operators': layer 11.
-/
import Derived.Test.YtbfedakncdodcaaGrSays
namespace Go.Proofs.Ytbfedakncdodcaa
open Go.RowKit

set_option maxHeartbeats 2000000 in
theorem gramKeys_walk (KS : GramSays) (w : World) (k : Int) (hk : -2147483648 ≤ k ∧ k ≤ 2147483647) :
    Calls Try.prog 3 #[.int .i32 k] w fun e w' => e = .returned (.bool true) ∧ Below w.heap.size w w' := by
  have HK := Lib.hid KS
  clear KS
  obtain ⟨x, hx⟩ : ∃ x, motionG k = x := ⟨_, rfl⟩
  obtain ⟨y, hy⟩ : ∃ y, operG k = y := ⟨_, rfl⟩
  have HX := Lib.hid hx
  have HY := Lib.hid hy
  clear hx hy
  go_enter Try.func3, Try.ntmps3
  go_wp2_with (first
    | (go_at_call 7; refine (aliveG_any HK.out _).mono ?_; rintro e w1 ⟨rfl, b1⟩)
    | (go_at_call 8; refine (HK.out.motion k _ hk).mono ?_; rw [HX.out]; rintro e w2 ⟨rfl, b2⟩; replace b2 := b1.trans (b2.mono b1.size))
    | (go_at_call 9; refine (refGMotion_any k _).mono ?_; rw [HX.out]; rintro e w3 ⟨rfl, b3⟩; replace b3 := b2.trans (b3.mono b2.size))
    | (go_at_call 10; refine (HK.out.oper k _ hk).mono ?_; rw [HY.out]; rintro e w4 ⟨rfl, b4⟩; replace b4 := b3.trans (b4.mono b3.size))
    | (go_at_call 11; refine (refGOper_any k _).mono ?_; rw [HY.out]; rintro e w5 ⟨rfl, b5⟩; replace b5 := b4.trans (b5.mono b4.size)))
  go_ret
  exact ⟨by first | rfl | simp, b5⟩
end Go.Proofs.Ytbfedakncdodcaa
