/-
  What package object answers (to be proved of the landed one); answers that the document fixes: layer 13.
-/
import Derived.Test.YtnkhlallnblfmaaM13r
namespace Go.Proofs.Ytnkhlallnblfmaa
open Go.RowKit

/-- in every world that only has more than w0 -/
structure ObjectSays (w0 : World) : Prop where
  find : ∀ (S : List UInt8) (p : Int) (around : Bool) (k : Int) (w : World), Below w0.heap.size w0 w → S.length ≤ 4096 → (-9223372036854775808 ≤ p ∧ p ≤ 9223372036854775807) → (-2147483648 ≤ k ∧ k ≤ 2147483647) →
    Calls Try.prog 8 #[.string ⟨S.toArray⟩, .int .i64 p, .bool around, .int .i32 k] w (GivesIIB w (findO S p around k))
theorem ObjectSays.at {w0 w : World} (KS : ObjectSays w0) (h : Below w0.heap.size w0 w) : ObjectSays w where
  find := fun S p around k w' b => KS.find S p around k w' (h.trans (b.mono h.size))

theorem aliveO_1 : findO [97, 98, 32, 32, 40, 99, 32, 91, 100, 93, 32, 34, 101, 34, 41, 32, 102] 0 true 119 = some (0, 4) := by decide +kernel
theorem aliveO_2 : findO [97, 98, 32, 32, 40, 99, 32, 91, 100, 93, 32, 34, 101, 34, 41, 32, 102] 8 false 98 = some (5, 14) := by decide +kernel
theorem aliveO_3 : findO [97, 98, 32, 32, 40, 99, 32, 91, 100, 93, 32, 34, 101, 34, 41, 32, 102] 5 false 34 = some (12, 13) := by decide +kernel
set_option maxHeartbeats 2000000 in
theorem aliveO_any (w : World) (KS : ObjectSays w) : Calls Try.prog 7 #[] w fun e w' => e = .returned (.bool true) ∧ Below w.heap.size w w' := by
  have HK := Lib.hid KS
  clear KS
  have H1 : Hid (∀ wz, Below w.heap.size w wz → Calls Try.prog 8 #[.string ⟨#[97, 98, 32, 32, 40, 99, 32, 91, 100, 93, 32, 34, 101, 34, 41, 32, 102]⟩, .int .i64 0, .bool true, .int .i32 119] wz fun e w' => e = .returned (.tuple #[.int .i64 0, .int .i64 4, .bool true]) ∧ Below wz.heap.size wz w') := fun wz hb => by
    have := HK.out.find [97, 98, 32, 32, 40, 99, 32, 91, 100, 93, 32, 34, 101, 34, 41, 32, 102] 0 true 119 wz hb (by decide) (by decide) (by decide)
    rw [aliveO_1] at this
    exact this
  have H2 : Hid (∀ wz, Below w.heap.size w wz → Calls Try.prog 8 #[.string ⟨#[97, 98, 32, 32, 40, 99, 32, 91, 100, 93, 32, 34, 101, 34, 41, 32, 102]⟩, .int .i64 8, .bool false, .int .i32 98] wz fun e w' => e = .returned (.tuple #[.int .i64 5, .int .i64 14, .bool true]) ∧ Below wz.heap.size wz w') := fun wz hb => by
    have := HK.out.find [97, 98, 32, 32, 40, 99, 32, 91, 100, 93, 32, 34, 101, 34, 41, 32, 102] 8 false 98 wz hb (by decide) (by decide) (by decide)
    rw [aliveO_2] at this
    exact this
  have H3 : Hid (∀ wz, Below w.heap.size w wz → Calls Try.prog 8 #[.string ⟨#[97, 98, 32, 32, 40, 99, 32, 91, 100, 93, 32, 34, 101, 34, 41, 32, 102]⟩, .int .i64 5, .bool false, .int .i32 34] wz fun e w' => e = .returned (.tuple #[.int .i64 12, .int .i64 13, .bool true]) ∧ Below wz.heap.size wz w') := fun wz hb => by
    have := HK.out.find [97, 98, 32, 32, 40, 99, 32, 91, 100, 93, 32, 34, 101, 34, 41, 32, 102] 5 false 34 wz hb (by decide) (by decide) (by decide)
    rw [aliveO_3] at this
    exact this
  go_enter Try.func7, Try.ntmps7
  go_wp2_with (first
    | (go_at_call 8; refine use_factM b2 ?_; intro _; refine (H3.out _ b2).mono ?_; rintro e w3 ⟨rfl, b3⟩; replace b3 := b2.trans (b3.mono b2.size))
    | (go_at_call 8; refine use_factM b1 ?_; intro _; refine (H2.out _ b1).mono ?_; rintro e w2 ⟨rfl, b2⟩; replace b2 := b1.trans (b2.mono b1.size))
    | (go_at_call 8; refine (H1.out _ (Below.refl _ _)).mono ?_; rintro e w1 ⟨rfl, b1⟩))
  go_ret
  exact ⟨rfl, b3⟩
end Go.Proofs.Ytnkhlallnblfmaa
