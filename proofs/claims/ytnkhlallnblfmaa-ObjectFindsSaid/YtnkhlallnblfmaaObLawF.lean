/-
  The bytes of any object are the document's: layer 13.
-/
import Derived.Test.YtnkhlallnblfmaaObSays
namespace Go.Proofs.Ytnkhlallnblfmaa
open Go.RowKit

set_option maxHeartbeats 4000000 in
theorem objectFinds_walk (w : World) (KS : ObjectSays w) (S : List UInt8) (hS : S.length ≤ maxLen) (p : Int) (hp : -9223372036854775808 ≤ p ∧ p ≤ 9223372036854775807) (k : Int) (hk : -2147483648 ≤ k ∧ k ≤ 2147483647) :
    Calls Try.prog 3 #[.string ⟨S.toArray⟩, .int .i64 p, .int .i32 k] w fun e w' => e = .returned (.bool true) ∧ Below w.heap.size w w' := by
  unfold maxLen at hS
  have HK := Lib.hid KS
  clear KS
  by_cases hs : S.length ≤ 2048
  · have hs' : ¬ (2048 : Int) < (S.length : Int) := by omega
    have HF := Lib.hid (fun ar wx hb => HK.out.find S p ar k wx hb (by omega) hp hk)
    have HR := Lib.hid (fun ar wx => refOFind_any S (by omega) p ar k wx)
    go_enter Try.func3, Try.ntmps3
    go_upto_region 6 with (go_at_call 7; refine (aliveO_any _ HK.out).mono ?_; rintro e w1 ⟨rfl, b1⟩)
    have B1 := Lib.hid (b1.alloc b1.size (.cells #[.bool false, .bool true] 4))
    have K1 := Lib.hid (Blk.new w1 4 #[.bool false, .bool true])
    have HG := Lib.hid b1.size
    clear b1
    generalize w1.heap.size = g at *
    generalize w1.alloc (.cells #[.bool false, .bool true] 4) = wa at *
    go_loopw [22] (fun i wr => ∃ n : Nat, i = .int .i64 n ∧ n ≤ 2 ∧ Hid (Blk wr g 4 #[.bool false, .bool true]) ∧ Hid (Below w.heap.size w wr)) (fun i _ => 2 - (intOf i).toNat)
    case atStart => exact ⟨0, rfl, by omega, K1, B1⟩
    case round =>
      obtain ⟨n, rfl, hn, HB, BB⟩ := hrel
      clear K1 B1
      by_cases hlt : n < 2
      · obtain ⟨ar, har⟩ : ∃ ar : Bool, wr.cell? ⟨g, n, none⟩ = some (.bool ar) := by
          rcases (show n = 0 ∨ n = 1 by omega) with rfl | rfl
          · exact ⟨false, HB.out.cell 0⟩
          · exact ⟨true, HB.out.cell 1⟩
        have HFa := Lib.hid (HF.out ar)
        have HRa := Lib.hid (HR.out ar)
        have hn2 : n ≤ 1 := by omega
        generalize findO S p ar k = r at *
        go_wp2_with (first
          | (go_at_call 8; refine (HFa.out _ BB.out).mono ?_; rintro e w2 ⟨rfl, b2⟩; have BB2 := Lib.hid (BB.out.trans (b2.mono BB.out.size)); have HB2 := Lib.hid (HB.out.below b2 HB.out.lt))
          | (go_at_call 9; refine (HRa.out _).mono ?_; rintro e w3 ⟨rfl, b3⟩; have BB3 := Lib.hid (BB2.out.trans (b3.mono BB2.out.size)); have HB3 := Lib.hid (HB2.out.below b3 HB2.out.lt)))
        go_roundw
        case rel => exact ⟨n + 1, by go_num, by omega, HB3, BB3⟩
        case measure => simp [intOf]; omega
      · obtain rfl : n = 2 := by omega
        go_wp2_with fail
        go_ret
        exact ⟨rfl, BB.out⟩
  · have hs' : (2048 : Int) < (S.length : Int) := by omega
    go_enter Try.func3, Try.ntmps3
    go_wp2_with (go_at_call 7; refine (aliveO_any _ HK.out).mono ?_; rintro e w1 ⟨rfl, b1⟩)
    go_ret
    exact ⟨rfl, b1⟩
end Go.Proofs.Ytnkhlallnblfmaa
