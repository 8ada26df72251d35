/-
  Two motions of one kind: layer 12.
-/
import Derived.Test.YtckikigjleckeaaMvLawA
namespace Go.Proofs.Ytckikigjleckeaa
open Go.RowKit

set_option maxHeartbeats 4000000 in
theorem moveTwice_walk (w : World) (KS : MoveSays w) (S : List UInt8) (hS : S.length ≤ maxLen) (p : Int) (hp : -9223372036854775808 ≤ p ∧ p ≤ 9223372036854775807) (x y z : Int) (hx : 0 ≤ x ∧ x ≤ 65535) (hy : 0 ≤ y ∧ y ≤ 65535) (hz : 0 ≤ z ∧ z ≤ 65535) :
    Calls Try.prog 5 #[.string ⟨S.toArray⟩, .int .i64 p, .agg #[.int .u16 x, .int .u16 y, .int .u16 z]] w fun e w' => e = .returned (.bool true) ∧ Below w.heap.size w w' := by
  have HK := Lib.hid KS
  have hS' := hS
  unfold maxLen at hS'
  clear KS
  obtain ⟨w0, g0, e0, eg, k0, b0, hl0⟩ := boxed w 31 #[.int .u16 x, .int .u16 y, .int .u16 z]
  go_enter Try.func5, Try.ntmps5
  go_upto_region 1 with fail
  rw [← e0, ← eg]
  clear e0 eg
  go_upto_region 3 with (go_at_call 9; refine (aliveM_any _ (HK.out.at b0)).mono ?_; rintro e w1 ⟨rfl, b1⟩)
  have k1 := k0.below b1 hl0
  have hl1 := Nat.lt_of_lt_of_le hl0 b1.size
  have b1' := b0.trans (b1.mono b0.size)
  clear b1 k0 hl0 b0
  by_cases hl : (1024 : Int) < (S.length : Int)
  · go_wp2_with fail
    go_ret
    exact ⟨rfl, b1'⟩
  · go_upto_region 6 with fail
    obtain ⟨w2, g2, e2, eg2, k2, b2, hl2⟩ := boxed w1 21 #[.int .i32 104, .int .i32 108, .int .i32 119, .int .i32 98, .int .i32 101, .int .i32 123, .int .i32 125]
    rw [← e2, ← eg2]
    clear e2 eg2
    have k12 := k1.below b2 hl1
    have b2' := b1'.trans (b2.mono b1'.size)
    obtain ⟨q0, q1, q2⟩ := cells3 k12
    obtain ⟨kk, hkk, qk⟩ : ∃ kk : Int, (kk = 104 ∨ kk = 108 ∨ kk = 119 ∨ kk = 98 ∨ kk = 101 ∨ kk = 123 ∨ kk = 125) ∧ w2.cell? ⟨g2, (x % 7).toNat, none⟩ = some (.int .i32 kk) := by
      rw [k2.cell]
      have : (x % 7).toNat < 7 := by omega
      generalize (x % 7).toNat = j at this
      match j, this with
      | 0, _ => exact ⟨104, by omega, rfl⟩
      | 1, _ => exact ⟨108, by omega, rfl⟩
      | 2, _ => exact ⟨119, by omega, rfl⟩
      | 3, _ => exact ⟨98, by omega, rfl⟩
      | 4, _ => exact ⟨101, by omega, rfl⟩
      | 5, _ => exact ⟨123, by omega, rfl⟩
      | 6, _ => exact ⟨125, by omega, rfl⟩
    have q1d : ∀ n, (w2.drewN n).cell? ⟨g0, 1, none⟩ = some (.int .u16 y) := fun n => q1
    have q2d : ∀ n, (w2.drewN n).cell? ⟨g0, 2, none⟩ = some (.int .u16 z) := fun n => q2
    have HKK := Lib.hid hkk
    have hkb : -2147483648 ≤ kk ∧ kk ≤ 2147483647 := by omega
    clear b1' k1 b2 hkk
    go_upto_region 7 with fail
    go_quiet (fail)
    have b3 := below_drewN b2' nq
    generalize w2.drewN nq = w3 at *
    clear q1d q2d q1 q2 q0 qk k12 k2 b2'
    obtain ⟨n, hn⟩ : ∃ n : Nat, y % 400 + 1 = (n : Int) := ⟨(y % 400 + 1).toNat, by omega⟩
    obtain ⟨m, hm⟩ : ∃ m : Nat, z % 400 + 1 = (m : Int) := ⟨(z % 400 + 1).toNat, by omega⟩
    have hn1 : 1 ≤ n ∧ n ≤ 400 := by omega
    have hm1 : 1 ≤ m ∧ m ≤ 400 := by omega
    rw [hn, hm]
    clear hn hm
    generalize y % 400 = y4 at *
    generalize z % 400 = z4 at *
    have T1 : Hid (∀ wz, Below w.heap.size w wz → Calls Try.prog 10 #[.string ⟨S.toArray⟩, .int .i64 p, .agg #[.int .i32 kk, .int .i32 0, .int .i64 (n : Nat)]] wz (GivesIIB wz (toM S p kk 0 (n : Nat)))) := fun wz hb => HK.out.to_ S p kk 0 (n : Nat) wz hb (by omega) hp hkb (by decide) (by omega)
    have T2 : Hid (∀ (a : Nat), a ≤ S.length → ∀ wz, Below w.heap.size w wz → Calls Try.prog 10 #[.string ⟨S.toArray⟩, .int .i64 (a : Nat), .agg #[.int .i32 kk, .int .i32 0, .int .i64 (m : Nat)]] wz (GivesIIB wz (toM S (a : Nat) kk 0 (m : Nat)))) := fun a ha wz hb => HK.out.to_ S (a : Nat) kk 0 (m : Nat) wz hb (by omega) (by omega) hkb (by decide) (by omega)
    have T3 : Hid (∀ wz, Below w.heap.size w wz → Calls Try.prog 10 #[.string ⟨S.toArray⟩, .int .i64 p, .agg #[.int .i32 kk, .int .i32 0, .int .i64 ((n : Int) + (m : Int))]] wz (GivesIIB wz (toM S p kk 0 ((n + m : Nat) : Int)))) := fun wz hb => HK.out.to_ S p kk 0 ((n + m : Nat) : Int) wz hb (by omega) hp hkb (by decide) (by omega)
    have HW : Hid (∀ a b x y, toM S p kk 0 (n : Nat) = some (a, x) → toM S (a : Nat) kk 0 (m : Nat) = some (b, y) → toM S p kk 0 ((n + m : Nat) : Int) = some (b, y) ∧ x = y) := fun a b x y h1 h2 => toM_twice HKK.out hn1.1 hm1.1 (by omega) h1 h2
    have HL : Hid (∀ a x, toM S p kk 0 (n : Nat) = some (a, x) → a ≤ S.length) := fun a x h => (toM_within h).1.le
    clear HKK hkb
    generalize hr1 : toM S p kk 0 (n : Nat) = r1 at *
    rcases r1 with _ | ⟨a, xk⟩
    · replace T2 := Lib.hid (T2.out 0 (Nat.zero_le _))
      generalize toM S ((0 : Nat) : Int) kk 0 (m : Nat) = r2 at *
      clear T3 HW HL
      go_wp2_with (first
        | (go_at_call 10; refine use_factM b4 ?_; intro _; refine (T2.out _ b4).mono ?_; rintro e w5 ⟨rfl, b5⟩; replace b5 := b4.trans (b5.mono b4.size))
        | (go_at_call 10; refine (T1.out _ b3).mono ?_; rintro e w4 ⟨rfl, b4⟩; replace b4 := b3.trans (b4.mono b3.size)))
      go_ret
      exact ⟨rfl, b5⟩
    · replace T2 := Lib.hid (T2.out a (HL.out a xk rfl))
      generalize hr2 : toM S (a : Nat) kk 0 (m : Nat) = r2 at *
      rcases r2 with _ | ⟨b, yk⟩
      · clear T3 HW HL
        go_wp2_with (first
          | (go_at_call 10; refine use_factM b4 ?_; intro _; refine (T2.out _ b4).mono ?_; rintro e w5 ⟨rfl, b5⟩; replace b5 := b4.trans (b5.mono b4.size))
          | (go_at_call 10; refine (T1.out _ b3).mono ?_; rintro e w4 ⟨rfl, b4⟩; replace b4 := b3.trans (b4.mono b3.size)))
        go_ret
        exact ⟨rfl, b5⟩
      · obtain ⟨h3, rfl⟩ := HW.out a b xk yk rfl hr2
        rw [h3] at T3
        clear HW HL
        have ex : ((xk : Int) == (xk : Int)) = true := by simp
        have eb : ((b : Int) == (b : Int)) = true := by simp
        go_wp2_with (first
          | (go_at_call 10; refine use_factM b5 ?_; intro _; refine (T3.out _ b5).mono ?_; rintro e w6 ⟨rfl, b6⟩; replace b6 := b5.trans (b6.mono b5.size))
          | (go_at_call 10; refine use_factM b4 ?_; intro _; refine (T2.out _ b4).mono ?_; rintro e w5 ⟨rfl, b5⟩; replace b5 := b4.trans (b5.mono b4.size))
          | (go_at_call 10; refine (T1.out _ b3).mono ?_; rintro e w4 ⟨rfl, b4⟩; replace b4 := b3.trans (b4.mono b3.size)))
        go_ret
        exact ⟨by first | rfl | simp, b6⟩
end Go.Proofs.Ytckikigjleckeaa
