/-
  The answers that the document fixes: layer 5.
-/
import Derived.Test.YtacpfkkbjibmgaaPieSays
namespace Go.Proofs.Ytacpfkkbjibmgaa
open Go.RowKit

theorem put_one (w : World) (O : Nat → Prop) (hO : ∀ k, O k → k < w.heap.size) (x : Nat) (n : Int) : RowF (w.alloc (.cells #[.int .u64 (x : Nat), .int .i64 n] 58)) O (some ⟨w.heap.size, 0, none⟩) (flatR [(x, n)]) := by
  refine .inr ⟨_, rfl, by simp, fun h => Nat.lt_irrefl _ (hO _ h), fun j u hj => ?_⟩
  have hb := Blk.new w 58 #[.int .u64 (x : Nat), .int .i64 n]
  obtain ⟨h0, h1⟩ := txt_cells hb
  match j, hj with
  | 0, hj => simp [flatR] at hj; subst hj; exact h0
  | 1, hj => simp [flatR] at hj; subst hj; exact h1
  | j + 2, hj => simp [flatR] at hj

theorem field_bytes (S : ByteArray) (A : Option Addr) (n c : Nat) (w : World) : (Instr.field 28 (.agg #[.string S, .slice A n c]) 0).run Try.prog w = .ok (.string S) w := by kernel_rfl
theorem alive_store : putE [] 5 0 0 [97, 98, 99] [(1, 3)] = 0 ∧ putS [] 5 0 0 [97, 98, 99] [(1, 3)] = [97, 98, 99] ∧ putB [] [] 5 0 0 [97, 98, 99] [(1, 3)] = [1, 1, 1] ∧
    putE [97, 98, 99] 5 1 2 [120, 121] [(2, 2)] = 0 ∧ putS [97, 98, 99] 5 1 2 [120, 121] [(2, 2)] = [97, 120, 121, 99] ∧ putB [97, 98, 99] [1, 1, 1] 5 1 2 [120, 121] [(2, 2)] = [1, 2, 2, 1] := by
  refine ⟨by decide +kernel, by decide +kernel, by decide +kernel, by decide +kernel, by decide +kernel, by decide +kernel⟩

set_option maxHeartbeats 1000000 in
theorem pieAlive_any (w : World) : Calls Try.prog 8 #[] w fun e w' => e = .returned (.bool true) ∧ Below w.heap.size w w' := by
  have HA := Lib.hid alive_store
  have F1 : Hid (Fits [(1, 3)]) := by intro r hr; simp at hr; subst hr; simp
  have F2 : Hid (Fits [(2, 2)]) := by intro r hr; simp at hr; subst hr; simp
  go_enter Try.func8, Try.ntmps8
  go_wp2_with fail
  refine (stoNew_any 5 (by omega) w).mono ?_
  rintro e w1 ⟨O, rfl, b1, s1, o1⟩
  have z1 := b1.size
  have S1 := Lib.hid (s1.fresh ((Below.refl w1.heap.size w1).alloc (Nat.le_refl _) (.cells #[.int .u64 1, .int .i64 3] 58)))
  have R1 := Lib.hid (put_one w1 O s1.lt 1 3)
  have B1 := Lib.hid (b1.alloc z1 (.cells #[.int .u64 1, .int .i64 3] 58))
  have hz : (w1.alloc (.cells #[.int .u64 1, .int .i64 3] 58)).heap.size = w1.heap.size + 1 := by simp
  have Z1 := Lib.hid hz
  clear s1 b1 hz
  go_wp2_with fail
  refine (stoPut_any S1.out (some ⟨w1.heap.size, 0, none⟩) 1 [97, 98, 99] [(1, 3)] 0 0 (by simp [maxLen]) F1.out (by simp [maxLen]) R1.out).mono ?_
  rw [HA.out.1, HA.out.2.1, HA.out.2.2.1]
  rintro e w2 ⟨O2, rfl, s2, p2, c2⟩
  rw [Z1.out] at p2
  have z2 : w1.heap.size + 1 ≤ w2.heap.size := by have := c2.size; rw [Z1.out] at this; exact this
  have b2 := B1.out.trans (c2.below (B := w.heap.size) (by rw [Z1.out]; omega) o1)
  have S2 := Lib.hid (s2.fresh ((Below.refl w2.heap.size w2).alloc (Nat.le_refl _) (.cells #[.int .u64 2, .int .i64 2] 58)))
  have R2 := Lib.hid (put_one w2 O2 s2.lt 2 2)
  have B2 := Lib.hid (b2.alloc (by omega) (.cells #[.int .u64 2, .int .i64 2] 58))
  have O2' : Hid (∀ k, O2 k → w.heap.size ≤ k) := fun k hk => (p2 k hk).elim (o1 k) (fun h => by omega)
  have hz : (w2.alloc (.cells #[.int .u64 2, .int .i64 2] 58)).heap.size = w2.heap.size + 1 := by simp
  have Z2 := Lib.hid hz
  clear s2 b2 hz S1 R1 B1 c2 p2
  go_wp2_with fail
  refine (stoPut_any S2.out (some ⟨w2.heap.size, 0, none⟩) 1 [120, 121] [(2, 2)] 1 2 (by simp [maxLen]) F2.out (by simp [maxLen]) R2.out).mono ?_
  rw [HA.out.2.2.2.1, HA.out.2.2.2.2.1, HA.out.2.2.2.2.2]
  rintro e w3 ⟨O3, rfl, s3, p3, c3⟩
  have z3 : w2.heap.size + 1 ≤ w3.heap.size := by have := c3.size; rw [Z2.out] at this; exact this
  have B3 := Lib.hid (B2.out.trans (c3.below (B := w.heap.size) (by rw [Z2.out]; omega) O2'.out))
  have S3 := Lib.hid s3
  clear s3 p3 c3 S2 R2 B2
  go_wp2_with fail
  refine (stoText_any S3.out).mono ?_
  rintro e w4 ⟨A4, c4, rfl, -, b4⟩
  have S4 := Lib.hid (S3.out.fresh b4)
  have z4 := b4.size
  have B4 := Lib.hid (B3.out.trans (b4.mono (by omega)))
  clear b4 S3 B3
  have hfd : ∀ w' : World, (Instr.field 28 (.agg #[.string ⟨#[97, 120, 121, 99]⟩, .slice A4 (pack [1, 2, 2, 1]).length c4]) 0).run Try.prog w' = .ok (.string ⟨#[97, 120, 121, 99]⟩) w' := fun w' => field_bytes _ _ _ _ w'
  go_wp2_with fail
  refine (stoRoom_any S4.out).mono ?_
  rintro e w5 ⟨rfl, b5⟩
  have z5 := b5.size
  have B5 := Lib.hid (B4.out.trans (b5.mono (by omega)))
  clear b5 S4 B4
  go_wp2_with fail
  go_ret
  exact ⟨rfl, B5.out⟩
end Go.Proofs.Ytacpfkkbjibmgaa
