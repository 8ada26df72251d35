/-
  Which numbers are keys, how keys are written, what keys bytes tell: layer 10.
-/
import Derived.Test.YtfoncmgcdldkdaaDoorKeySays
namespace Go.Proofs.YtfoncmgcdldkdaaDoor
open Go.RowKit

/-- the same keys, told twice -/
theorem refKSame_same (A A2 : Option Addr) (c d : Nat) (l : List Nat) (hl : l.length ≤ 1000000) (w : World) (h : Row w w.heap.size A ((l.map fun x : Nat => (x : Int)).map runz)) (hh : Row w w.heap.size A2 ((l.map fun x : Nat => (x : Int)).map runz)) :
    Calls Tryd.prog 15 #[.slice A l.length c, .slice A2 l.length d] w fun e w' => e = .returned (.bool true) ∧ Below w.heap.size w w' := by
  have k := refKSame_any A A2 c d w.heap.size (l.map fun x : Nat => (x : Int)) (l.map fun x : Nat => (x : Int)) (by rw [List.length_map]; exact hl) (by rw [List.length_map]; exact hl) w (Nat.le_refl _) h hh
  rw [decide_eq_true rfl, List.length_map] at k
  exact k
set_option maxHeartbeats 1000000 in
theorem keysMay_walk (w : World) (KS : KeySays w) (r : Int) (hr : -2147483648 ≤ r ∧ r ≤ 2147483647) :
    Calls Tryd.prog 3 #[.int .i32 r] w fun e w' => e = .returned (.bool true) ∧ Below w.heap.size w w' := by
  have HK := Lib.hid KS
  clear KS
  obtain ⟨d, hd⟩ : ∃ d, decide (keyK r) = d := ⟨_, rfl⟩
  have hdd : (d == d) = true := by simp
  have HD := Lib.hid hd
  clear hd
  go_enter Tryd.func3, Tryd.ntmps3
  go_wp2_with (first
    | (go_at_call 8; refine (HK.out.may r _ (Below.refl _ _) hr).mono ?_; rw [HD.out]; rintro e w1 ⟨rfl, b1⟩)
    | (go_at_call 9; refine (refKMay_any r _).mono ?_; rw [HD.out]; rintro e w2 ⟨rfl, hw⟩; subst w2)
    | (go_at_call 10; refine (aliveK_any _ (HK.out.at b1)).mono ?_; rintro e w3 ⟨rfl, b3⟩))
  go_ret
  exact ⟨rfl, b1.trans (b3.mono b1.size)⟩
set_option maxHeartbeats 1000000 in
theorem keysPrints_walk (w : World) (KS : KeySays w) (A : Option Addr) (c : Nat) (zs : List Int) (hlen : zs.length ≤ maxLen) (hz : ∀ z ∈ zs, -2147483648 ≤ z ∧ z ≤ 2147483647) (row : Row w w.heap.size A (zs.map runz)) :
    Calls Tryd.prog 4 #[.slice A zs.length c] w fun e w' => e = .returned (.bool true) ∧ Below w.heap.size w w' := by
  have HK := Lib.hid KS
  have HZ := Lib.hid hz
  have hlen' := hlen
  unfold maxLen at hlen'
  clear KS hz
  by_cases hl : (4096 : Int) < (zs.length : Int)
  · go_enter Tryd.func4, Tryd.ntmps4
    go_wp2_with (go_at_call 10; refine (aliveK_any _ HK.out).mono ?_; rintro e w1 ⟨rfl, b1⟩)
    go_ret
    exact ⟨rfl, b1⟩
  · obtain ⟨v, hv⟩ : ∃ v, printA zs = v := ⟨_, rfl⟩
    have HV := Lib.hid hv
    clear hv
    have hnn : (((v.2 : Nat) : Int) == (v.2 : Nat)) = true := by simp
    go_enter Tryd.func4, Tryd.ntmps4
    go_wp2_with (first
      | (go_at_call 10; refine (aliveK_any _ HK.out).mono ?_; rintro e w1 ⟨rfl, b1⟩)
      | (go_at_call 11; refine (HK.out.print A c w.heap.size zs _ b1 b1.size HZ.out (by omega) (row.below b1)).mono ?_; rw [HV.out]; rintro e w2 ⟨rfl, b2⟩; replace b2 := b1.trans (b2.mono b1.size))
      | (go_at_call 12; refine (refKPrint_any A c w.heap.size zs HZ.out hlen _ b2.size (row.below b2)).mono ?_; rw [HV.out]; rintro e w3 ⟨rfl, b3⟩; replace b3 := b2.trans (b3.mono b2.size)))
    go_ret
    exact ⟨by first | rfl | simp, b3⟩
set_option maxHeartbeats 1000000 in
theorem keysParses_walk (w : World) (KS : KeySays w) (S : List UInt8) (hS : S.length ≤ maxLen) :
    Calls Tryd.prog 5 #[.string ⟨S.toArray⟩] w fun e w' => e = .returned (.bool true) ∧ Below w.heap.size w w' := by
  have HK := Lib.hid KS
  have hlen' := hS
  unfold maxLen at hlen'
  clear KS
  by_cases hl : (4096 : Int) < (S.length : Int)
  · go_enter Tryd.func5, Tryd.ntmps5
    go_wp2_with (go_at_call 10; refine (aliveK_any _ HK.out).mono ?_; rintro e w1 ⟨rfl, b1⟩)
    go_ret
    exact ⟨rfl, b1⟩
  · have hkl : (parseA S).1.length ≤ 1000000 := by
      unfold parseA
      split
      · simp
      · split
        · next h => exact Nat.le_trans h (by decide)
        · simp
    obtain ⟨v, hv⟩ : ∃ v, parseA S = v := ⟨_, rfl⟩
    rw [hv] at hkl
    have HV := Lib.hid hv
    clear hv
    obtain ⟨l, n⟩ := v
    dsimp only at hkl
    have hnn : (((n : Nat) : Int) == (n : Nat)) = true := by simp
    go_enter Tryd.func5, Tryd.ntmps5
    go_wp2_with (first
      | (go_at_call 10; refine (aliveK_any _ HK.out).mono ?_; rintro e w1 ⟨rfl, b1⟩)
      | (go_at_call 13; refine (HK.out.parse S _ b1 (by omega)).mono ?_; rw [HV.out]; rintro e w2 ⟨A2, c2, rfl, r2, b2⟩; have R2 := Lib.hid r2; have B2 := Lib.hid b2; clear r2 b2)
      | (go_at_call 14; refine (refKParse_any S (by omega) _).mono ?_; rw [HV.out]; rintro e w3 ⟨A3, c3, rfl, r3, b3⟩; have R3 := Lib.hid r3; have R2 := Lib.hid ((R2.out.below b3).more b3.size); have B3 := Lib.hid b3; clear r3 b3)
      | (go_at_call 15; refine (refKSame_same A2 A3 c2 c3 l hkl _ R2.out R3.out).mono ?_; rintro e w4 ⟨rfl, b4⟩; have B4 := Lib.hid b4; clear b4))
    go_ret
    have h1 := b1.trans (B2.out.mono b1.size)
    have h2 := h1.trans (B3.out.mono h1.size)
    exact ⟨by first | rfl | simp, h2.trans (B4.out.mono h2.size)⟩
end Go.Proofs.YtfoncmgcdldkdaaDoor
