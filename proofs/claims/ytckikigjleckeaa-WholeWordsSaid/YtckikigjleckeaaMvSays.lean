/-
  What package move answers (to be proved of the landed one); answers that the document fixes; where motions lead is a sign's beginning: layer 12.
-/
import Derived.Test.YtckikigjleckeaaM12r
namespace Go.Proofs.Ytckikigjleckeaa
open Go.RowKit

/-- in every world that only has more than w0 -/
structure MoveSays (w0 : World) : Prop where
  to_ : ∀ (S : List UInt8) (p k g c : Int) (w : World), Below w0.heap.size w0 w → S.length ≤ 4096 → (-9223372036854775808 ≤ p ∧ p ≤ 9223372036854775807) → (-2147483648 ≤ k ∧ k ≤ 2147483647) → (-2147483648 ≤ g ∧ g ≤ 2147483647) → (-9223372036854775808 ≤ c ∧ c ≤ 9223372036854775807) →
    Calls Try.prog 10 #[.string ⟨S.toArray⟩, .int .i64 p, .agg #[.int .i32 k, .int .i32 g, .int .i64 c]] w (GivesIIB w (toM S p k g c))
theorem MoveSays.at {w0 w : World} (KS : MoveSays w0) (h : Below w0.heap.size w0 w) : MoveSays w where
  to_ := fun S p k g c w' b => KS.to_ S p k g c w' (h.trans (b.mono h.size))

theorem aliveM_1 : toM [97, 98, 32, 99, 100, 46, 10, 10, 32, 32, 120] 0 119 0 3 = some (10, 0) := by decide +kernel
theorem aliveM_2 : toM [97, 98, 32, 99, 100, 46, 10, 10, 32, 32, 120] 1 101 0 0 = some (4, 1) := by decide +kernel
theorem aliveM_3 : toM [97, 98, 32, 99, 100, 46, 10, 10, 32, 32, 120] 4 106 0 2 = some (10, 2) := by decide +kernel
set_option maxHeartbeats 2000000 in
theorem aliveM_any (w : World) (KS : MoveSays w) : Calls Try.prog 9 #[] w fun e w' => e = .returned (.bool true) ∧ Below w.heap.size w w' := by
  have HK := Lib.hid KS
  clear KS
  have H1 : Hid (∀ wz, Below w.heap.size w wz → Calls Try.prog 10 #[.string ⟨#[97, 98, 32, 99, 100, 46, 10, 10, 32, 32, 120]⟩, .int .i64 0, .agg #[.int .i32 119, .int .i32 0, .int .i64 3]] wz fun e w' => e = .returned (.tuple #[.int .i64 10, .int .i64 0, .bool true]) ∧ Below wz.heap.size wz w') := fun wz hb => by
    have := HK.out.to_ [97, 98, 32, 99, 100, 46, 10, 10, 32, 32, 120] 0 119 0 3 wz hb (by decide) (by decide) (by decide) (by decide) (by decide)
    rw [aliveM_1] at this
    exact this
  have H2 : Hid (∀ wz, Below w.heap.size w wz → Calls Try.prog 10 #[.string ⟨#[97, 98, 32, 99, 100, 46, 10, 10, 32, 32, 120]⟩, .int .i64 1, .agg #[.int .i32 101, .int .i32 0, .int .i64 0]] wz fun e w' => e = .returned (.tuple #[.int .i64 4, .int .i64 1, .bool true]) ∧ Below wz.heap.size wz w') := fun wz hb => by
    have := HK.out.to_ [97, 98, 32, 99, 100, 46, 10, 10, 32, 32, 120] 1 101 0 0 wz hb (by decide) (by decide) (by decide) (by decide) (by decide)
    rw [aliveM_2] at this
    exact this
  have H3 : Hid (∀ wz, Below w.heap.size w wz → Calls Try.prog 10 #[.string ⟨#[97, 98, 32, 99, 100, 46, 10, 10, 32, 32, 120]⟩, .int .i64 4, .agg #[.int .i32 106, .int .i32 0, .int .i64 2]] wz fun e w' => e = .returned (.tuple #[.int .i64 10, .int .i64 2, .bool true]) ∧ Below wz.heap.size wz w') := fun wz hb => by
    have := HK.out.to_ [97, 98, 32, 99, 100, 46, 10, 10, 32, 32, 120] 4 106 0 2 wz hb (by decide) (by decide) (by decide) (by decide) (by decide)
    rw [aliveM_3] at this
    exact this
  go_enter Try.func9, Try.ntmps9
  go_wp2_with (first
    | (go_at_call 10; refine use_factM b2 ?_; intro _; refine (H3.out _ b2).mono ?_; rintro e w3 ⟨rfl, b3⟩; replace b3 := b2.trans (b3.mono b2.size))
    | (go_at_call 10; refine use_factM b1 ?_; intro _; refine (H2.out _ b1).mono ?_; rintro e w2 ⟨rfl, b2⟩; replace b2 := b1.trans (b2.mono b1.size))
    | (go_at_call 10; refine (H1.out _ (Below.refl _ _)).mono ?_; rintro e w1 ⟨rfl, b1⟩))
  go_ret
  exact ⟨rfl, b3⟩
end Go.Proofs.Ytckikigjleckeaa
