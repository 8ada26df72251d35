/-
  The answers that the document fixes: layer 3.
-/
import Derived.Test.YthdflibljngjiaaRunEachN
import Derived.Test.YthdflibljngjiaaRunOwnAsk
import Derived.Test.YthdflibljngjiaaRunEachR
import Derived.Test.YthdflibljngjiaaRunOwnCat
import Derived.Test.YthdflibljngjiaaRunRefR
import Derived.Test.YthdflibljngjiaaRunLens
namespace Go.Proofs.Ythdflibljngjiaa
open Go.RowKit

theorem alive_normal : normalOf [(1, 2), (1, 3), (4, 0), (2, 1)] = ([(1, 5), (2, 1)], 0) ∧ goodB [(1, 5), (2, 1)] = true ∧ atOf [(1, 5), (2, 1)] 5 = (2, true) := by
  refine ⟨by decide +kernel, by decide +kernel, by decide +kernel⟩

theorem row_newR (w : World) (t : TypeId) (l : List RunP) : Row (w.alloc (.cells (flatR l).toArray t)) (w.heap.size + 1) (some ⟨w.heap.size, 0, none⟩) (flatR l) := row_newL w t (flatR l)

set_option maxHeartbeats 1000000 in
theorem runsAlive_any (w : World) : Calls Try.prog 11 #[] w fun e w' => e = .returned (.bool true) ∧ Below w.heap.size w w' := by
  have HN := Lib.hid alive_normal.1
  have HG := Lib.hid alive_normal.2.1
  have HA := Lib.hid alive_normal.2.2
  have R4 : Hid (Row (w.alloc (.cells #[.int .u64 1, .int .i64 2, .int .u64 1, .int .i64 3, .int .u64 4, .int .i64 0, .int .u64 2, .int .i64 1] 51)) (w.heap.size + 1) (some ⟨w.heap.size, 0, none⟩) (flatR [(1, 2), (1, 3), (4, 0), (2, 1)])) := row_newR w _ [(1, 2), (1, 3), (4, 0), (2, 1)]
  have F4 : Hid (Fits [(1, 2), (1, 3), (4, 0), (2, 1)]) := by intro r hr; simp at hr; rcases hr with rfl | rfl | rfl | rfl <;> simp
  have F2 : Hid (Fits [(1, 5), (2, 1)]) := by intro r hr; simp at hr; rcases hr with rfl | rfl <;> simp
  have S1 : Hid ((w.alloc (.cells #[.int .u64 1, .int .i64 2, .int .u64 1, .int .i64 3, .int .u64 4, .int .i64 0, .int .u64 2, .int .i64 1] 51)).heap.size = w.heap.size + 1) := by show _ = _; simp
  go_enter Try.func11, Try.ntmps11
  go_wp2_with fail
  refine (runNormal_any (some ⟨w.heap.size, 0, none⟩) 4 (w.heap.size + 1) [(1, 2), (1, 3), (4, 0), (2, 1)] F4.out (by simp [maxLen]) _ (by rw [S1.out]; omega) R4.out).mono ?_
  rintro e w1 ⟨A1, c1, rfl, hown1, hb1⟩
  rw [HN.out] at hown1 ⊢
  have r1 : Row w1 w1.heap.size A1 (flatR [(1, 5), (2, 1)]) := Row.of_own hown1
  have z1 := hb1.size
  rw [S1.out] at z1 hb1
  have B1 : Hid (Below w.heap.size w w1) := ((Below.refl _ w).alloc (Nat.le_refl _) _).trans (hb1.mono (by omega))
  clear hown1 hb1
  go_wp2_with fail
  refine (runAt_any A1 c1 w1.heap.size [(1, 5), (2, 1)] 5 (by omega) F2.out (by simp [maxLen]) w1 (Nat.le_refl _) r1).mono ?_
  rintro e w2 ⟨rfl, hb2⟩
  rw [HA.out]
  have z2 := hb2.size
  have r2 := r1.below hb2
  have R3 : Hid (Row (w2.alloc (.cells #[.int .u64 1, .int .i64 5, .int .u64 2, .int .i64 1] 51)) (w2.heap.size + 1) (some ⟨w2.heap.size, 0, none⟩) (flatR [(1, 5), (2, 1)])) := row_newR w2 _ [(1, 5), (2, 1)]
  have R2 : Hid (Row (w2.alloc (.cells #[.int .u64 1, .int .i64 5, .int .u64 2, .int .i64 1] 51)) w1.heap.size A1 (flatR [(1, 5), (2, 1)])) := r2.below ((Below.refl _ _).alloc z2 _)
  have S3 : Hid ((w2.alloc (.cells #[.int .u64 1, .int .i64 5, .int .u64 2, .int .i64 1] 51)).heap.size = w2.heap.size + 1) := by show _ = _; simp
  have B3 : Hid (Below w.heap.size w (w2.alloc (.cells #[.int .u64 1, .int .i64 5, .int .u64 2, .int .i64 1] 51))) := (B1.out.trans (hb2.mono (by omega))).alloc (by omega) _
  clear r1 r2 hb2
  go_wp2_with (first
    | (go_at_call 14; refine (refSame_any A1 (some ⟨w2.heap.size, 0, none⟩) c1 2 w1.heap.size (w2.heap.size + 1) [(1, 5), (2, 1)] [(1, 5), (2, 1)] (by simp [maxLen]) (by simp [maxLen]) _ (by rw [S3.out]; omega) (by rw [S3.out]; omega) R2.out R3.out).mono ?_; rintro e w3 ⟨rfl, hb3⟩; rw [decide_eq_true rfl]; have z3 := hb3.size; rw [S3.out] at z3)
    | (go_at_call 15; refine (runGood_any A1 c1 w1.heap.size [(1, 5), (2, 1)] F2.out (by simp [maxLen]) w3 (by omega) (R2.out.below (hb3.mono (by rw [S3.out]; omega)))).mono ?_; rintro e w4 ⟨rfl, hb4⟩; rw [HG.out]))
  go_ret
  exact ⟨rfl, (B3.out.trans (hb3.mono (by rw [S3.out]; omega))).trans (hb4.mono (by omega))⟩
end Go.Proofs.Ythdflibljngjiaa
