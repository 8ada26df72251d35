/-
  Where any motion leads; within the text: layer 12.
-/
import Derived.Test.YtckikigjleckeaaMvSays
import Derived.Test.YtckikigjleckeaaM12p
namespace Go.Proofs.Ytckikigjleckeaa
open Go.RowKit

theorem motion_size : (Try.prog.info? 23).map (·.size) = some 3 := by kernel_rfl
/-- an argument's own variable -/
theorem boxed (w : World) (t : TypeId) (cs : Array Value) : ∃ w0 g0, w0 = w.alloc (.cells cs t) ∧ g0 = w.heap.size ∧ Blk w0 g0 t cs ∧ Below w.heap.size w w0 ∧ g0 < w0.heap.size :=
  ⟨_, _, rfl, rfl, Blk.new _ _ _, (Below.refl _ _).alloc (Nat.le_refl _) _, by simp⟩
theorem cells3 {w : World} {g t : Nat} {a b c : Value} (h : Blk w g t #[a, b, c]) : w.cell? ⟨g, 0, none⟩ = some a ∧ w.cell? ⟨g, 1, none⟩ = some b ∧ w.cell? ⟨g, 2, none⟩ = some c := ⟨h.cell 0, h.cell 1, h.cell 2⟩
set_option maxHeartbeats 2000000 in
theorem moveAll_walk (w : World) (KS : MoveSays w) (S : List UInt8) (hS : S.length ≤ maxLen) (p : Int) (hp : -9223372036854775808 ≤ p ∧ p ≤ 9223372036854775807) (k g c : Int) (hk : -2147483648 ≤ k ∧ k ≤ 2147483647) (hg : -2147483648 ≤ g ∧ g ≤ 2147483647) (hc : -9223372036854775808 ≤ c ∧ c ≤ 9223372036854775807) :
    Calls Try.prog 3 #[.string ⟨S.toArray⟩, .int .i64 p, .agg #[.int .i32 k, .int .i32 g, .int .i64 c]] w fun e w' => e = .returned (.bool true) ∧ Below w.heap.size w w' := by
  have HK := Lib.hid KS
  have hS' := hS
  unfold maxLen at hS'
  clear KS
  obtain ⟨w0, g0, e0, eg, k0, b0, hl0⟩ := boxed w 23 #[.int .i32 k, .int .i32 g, .int .i64 c]
  go_enter Try.func3, Try.ntmps3
  go_upto_region 1 with fail
  rw [← e0, ← eg]
  clear e0 eg
  go_upto_region 3 with (go_at_call 9; refine (aliveM_any _ (HK.out.at b0)).mono ?_; rintro e w1 ⟨rfl, b1⟩)
  have k1 := k0.below b1 hl0
  have hl1 := Nat.lt_of_lt_of_le hl0 b1.size
  have b1' := b0.trans (b1.mono b0.size)
  clear b1 k0 hl0 b0
  by_cases hl : (1024 : Int) < (S.length : Int)
  · go_wp2_with fail
    go_ret
    exact ⟨rfl, b1'⟩
  · obtain ⟨r, hr⟩ : ∃ r, toM S p k g c = r := ⟨_, rfl⟩
    have HR := Lib.hid hr
    clear hr
    go_upto_region 6 with (first
      | ((with_reducible refine at_load 23 _ ?_); refine wpList_load_row rfl 23 _ rfl g0 rfl _ #[.int .i32 k, .int .i32 g, .int .i64 c] (0, 0) _ k1 Try.underlying23 rfl motion_size ?_)
      | (go_at_call 10; refine (HK.out.to_ S p k g c _ b1' (by omega) hp hk hg hc).mono ?_; rw [HR.out]; rintro e w2 ⟨rfl, b2⟩))
    have k2 := k1.below b2 hl1
    have b2' := b1'.trans (b2.mono b1'.size)
    obtain ⟨q0, q1, q2⟩ := cells3 k2
    clear b2 k1 hl1 b1'
    rcases r with _ | ⟨x, y⟩
    · go_wp2_with (go_at_call 11; refine (refMTo_any S (by omega) p k g c hc _).mono ?_; rw [HR.out]; rintro e w3 ⟨rfl, b3⟩)
      go_ret
      exact ⟨rfl, b2'.trans (b3.mono b2'.size)⟩
    · have ex : ((x : Int) == (x : Int)) = true := by simp
      have ey : ((y : Int) == (y : Int)) = true := by simp
      go_wp2_with (go_at_call 11; refine (refMTo_any S (by omega) p k g c hc _).mono ?_; rw [HR.out]; rintro e w3 ⟨rfl, b3⟩)
      go_ret
      exact ⟨by first | rfl | simp, b2'.trans (b3.mono b2'.size)⟩
set_option maxHeartbeats 4000000 in
theorem moveWithin_walk (w : World) (KS : MoveSays w) (S : List UInt8) (hS : S.length ≤ maxLen) (p : Int) (hp : -9223372036854775808 ≤ p ∧ p ≤ 9223372036854775807) (k g c : Int) (hk : -2147483648 ≤ k ∧ k ≤ 2147483647) (hg : -2147483648 ≤ g ∧ g ≤ 2147483647) (hc : -9223372036854775808 ≤ c ∧ c ≤ 9223372036854775807) :
    Calls Try.prog 4 #[.string ⟨S.toArray⟩, .int .i64 p, .agg #[.int .i32 k, .int .i32 g, .int .i64 c]] w fun e w' => e = .returned (.bool true) ∧ Below w.heap.size w w' := by
  have HK := Lib.hid KS
  have hS' := hS
  unfold maxLen at hS'
  clear KS
  obtain ⟨w0, g0, e0, eg, k0, b0, hl0⟩ := boxed w 23 #[.int .i32 k, .int .i32 g, .int .i64 c]
  go_enter Try.func4, Try.ntmps4
  go_upto_region 1 with fail
  rw [← e0, ← eg]
  clear e0 eg
  go_upto_region 3 with (go_at_call 9; refine (aliveM_any _ (HK.out.at b0)).mono ?_; rintro e w1 ⟨rfl, b1⟩)
  have k1 := k0.below b1 hl0
  have hl1 := Nat.lt_of_lt_of_le hl0 b1.size
  have b1' := b0.trans (b1.mono b0.size)
  clear b1 k0 hl0 b0
  by_cases hl : (1024 : Int) < (S.length : Int)
  · go_wp2_with fail
    go_ret
    exact ⟨rfl, b1'⟩
  · obtain ⟨r, hr⟩ : ∃ r, toM S p k g c = r := ⟨_, rfl⟩
    have HR := Lib.hid hr
    go_upto_region 6 with (first
      | ((with_reducible refine at_load 23 _ ?_); refine wpList_load_row rfl 23 _ rfl g0 rfl _ #[.int .i32 k, .int .i32 g, .int .i64 c] (0, 0) _ k1 Try.underlying23 rfl motion_size ?_)
      | (go_at_call 10; refine (HK.out.to_ S p k g c _ b1' (by omega) hp hk hg hc).mono ?_; rw [HR.out]; rintro e w2 ⟨rfl, b2⟩))
    have b2' := b1'.trans (b2.mono b1'.size)
    clear b2 k1 hl1 b1'
    rcases r with _ | ⟨x, y⟩
    · clear hr
      go_wp2_with fail
      go_ret
      exact ⟨rfl, b2'⟩
    · obtain ⟨hb, hy, hne⟩ := toM_within hr
      have hx := hb.le
      have HA := Lib.hid hb.align
      have HN := Lib.hid hne
      clear hr hb hne
      have hx0 : (0 : Int) ≤ (x : Int) := by omega
      have hxl : (x : Int) ≤ (S.length : Int) := by omega
      have ex : ((x : Int) == (x : Int)) = true := by simp
      rcases y with _ | _ | _ | y
      · have hq := HN.out rfl
        generalize hal : alignM S p = a at *
        have HAL := Lib.hid hal
        have en : ((x : Int) != (a : Int)) = true := by rw [bne_iff_ne]; omega
        clear hal hq
        go_wp2_with (first
          | (go_at_call 12; refine use_factM b3 ?_; intro _; refine (refMAlign S (by omega) p _).mono ?_; rw [HAL.out]; rintro e w4 ⟨rfl, b4⟩)
          | (go_at_call 12; refine (refMAlign S (by omega) (x : Nat) _).mono ?_; rw [HA.out]; rintro e w3 ⟨rfl, b3⟩))
        go_ret
        have b3' := b2'.trans (b3.mono b2'.size)
        exact ⟨by first | rfl | simp, b3'.trans (b4.mono b3'.size)⟩
      · go_wp2_with (go_at_call 12; refine (refMAlign S (by omega) (x : Nat) _).mono ?_; rw [HA.out]; rintro e w3 ⟨rfl, b3⟩)
        go_ret
        exact ⟨by first | rfl | simp, b2'.trans (b3.mono b2'.size)⟩
      · go_wp2_with (go_at_call 12; refine (refMAlign S (by omega) (x : Nat) _).mono ?_; rw [HA.out]; rintro e w3 ⟨rfl, b3⟩)
        go_ret
        exact ⟨by first | rfl | simp, b2'.trans (b3.mono b2'.size)⟩
      · omega
end Go.Proofs.Ytckikigjleckeaa
