/-
  The answers that the document fixes: layer 7.
-/
import Derived.Test.YtmpliacojljchaaEdiRefs
import Derived.Test.YtmpliacojljchaaEdiFollow
import Derived.Test.YtmpliacojljchaaEdiJoin
namespace Go.Proofs.Ytmpliacojljchaa
open Go.RowKit

theorem alive_edit : ofE [97, 98, 99] [(1, 3)] 1 2 [120, 121] [(2, 2)] = (⟨1, [98], [(1, 1)], [120, 121], [(2, 2)]⟩, 0) ∧ applyE [97, 98, 99] [(1, 3)] 1 [98] [(1, 1)] [120, 121] [(2, 2)] = (([97, 120, 121, 99], [(1, 1), (2, 2), (1, 1)]), 0) ∧
    followE 1 [98] [(1, 1)] [120, 121] [(2, 2)] 3 = 4 ∧ (applyE [97, 120, 121, 99] [(1, 1), (2, 2), (1, 1)] 1 [98] [(1, 1)] [120, 121] [(2, 2)]).2 = 7 := by
  refine ⟨?_, by decide +kernel, by decide +kernel, by decide +kernel⟩
  unfold ofE
  rw [show cutOf [97, 98, 99] [(1, 3)] 1 2 = (([98], [(1, 1)]), 0) by decide +kernel, show spliceT [97, 98, 99] [(1, 3)] 1 2 [120, 121] [(2, 2)] = (([97, 120, 121, 99], [(1, 1), (2, 2), (1, 1)]), 0) by decide +kernel]
  rfl
theorem txu_new (w : World) (S : List UInt8) (l : List RunP) (hS : S.length ≤ 4096) (hl : l.length ≤ 4096) (hf : Fits l) : Txu (w.alloc (.cells (flatR l).toArray 57)) (some ⟨w.heap.size, 0, none⟩) S l :=
  ⟨by unfold maxLen; omega, hf, by unfold maxLen; omega, (row_newL w 57 (flatR l)).more (by simp)⟩
theorem field_new (a : Int) (S X : ByteArray) (A B : Option Addr) (n c m d : Nat) (w : World) : (Instr.field 29 (.agg #[.int .i64 a, .string S, .slice A n c, .string X, .slice B m d]) 2).run Try.prog w = .ok (.agg #[.string X, .slice B m d]) w := by kernel_rfl
theorem field_text (S : ByteArray) (A : Option Addr) (n c : Nat) (w : World) : (Instr.field 24 (.agg #[.string S, .slice A n c]) 0).run Try.prog w = .ok (.string S) w := by kernel_rfl

set_option maxHeartbeats 2000000 in
theorem ediAlive_any (w : World) : Calls Try.prog 9 #[] w fun e w' => e = .returned (.bool true) ∧ Below w.heap.size w w' := by
  have HA := Lib.hid alive_edit
  have F0 : Fits [(1, 3)] := by intro r hr; simp at hr; subst hr; simp
  have F1 : Fits [(2, 2)] := by intro r hr; simp at hr; subst hr; simp
  have F2 : Hid (Fits [(1, 1)]) := by intro r hr; simp at hr; subst hr; simp
  have F3 : Hid (Fits [(1, 1), (2, 2), (1, 1)]) := by intro r hr; simp at hr; rcases hr with rfl | rfl | rfl <;> simp
  have K : Hid (Grow (((w.alloc (.cells #[.int .u64 1, .int .i64 3] 57)).alloc (.cells #[.string ⟨#[97, 98, 99]⟩, .slice (some ⟨w.heap.size, 0, none⟩) 1 1] 24)).alloc (.cells #[.int .u64 2, .int .i64 2] 57))
      (fun w' => Blk w' (w.heap.size + 1) 24 #[.string ⟨#[97, 98, 99]⟩, .slice (some ⟨w.heap.size, 0, none⟩) 1 1] ∧ Below w.heap.size w w' ∧ Txu w' (some ⟨w.heap.size, 0, none⟩) [97, 98, 99] [(1, 3)] ∧ Txu w' (some ⟨w.heap.size + 1 + 1, 0, none⟩) [120, 121] [(2, 2)])) := by
    have e1 : (w.alloc (.cells #[.int .u64 1, .int .i64 3] 57)).heap.size = w.heap.size + 1 := by simp
    have e2 : ((w.alloc (.cells #[.int .u64 1, .int .i64 3] 57)).alloc (.cells #[.string ⟨#[97, 98, 99]⟩, .slice (some ⟨w.heap.size, 0, none⟩) 1 1] 24)).heap.size = w.heap.size + 1 + 1 := by simp
    have b : Below w.heap.size w (w.alloc (.cells #[.int .u64 1, .int .i64 3] 57)) := (Below.refl _ w).alloc (Nat.le_refl _) _
    have k1 := blk_box (w.alloc (.cells #[.int .u64 1, .int .i64 3] 57)) (T := 24) (cs := #[.string ⟨#[97, 98, 99]⟩, .slice (some ⟨w.heap.size, 0, none⟩) 1 1])
    rw [e1] at k1
    have k2 := txu_new ((w.alloc (.cells #[.int .u64 1, .int .i64 3] 57)).alloc (.cells #[.string ⟨#[97, 98, 99]⟩, .slice (some ⟨w.heap.size, 0, none⟩) 1 1] 24)) [120, 121] [(2, 2)] (by simp) (by simp) F1
    rw [e2] at k2
    exact (k1.alloc _).and ((((grow_bel b).alloc _).alloc _).and ((((grow_txu (txu_new w [97, 98, 99] [(1, 3)] (by simp) (by simp) F0)).alloc _).alloc _).and (grow_txu k2)))
  clear F0
  go_enter Try.func9, Try.ntmps9
  go_wp2_with fail
  refine (ediOf_any (some ⟨w.heap.size, 0, none⟩) (some ⟨w.heap.size + 1 + 1, 0, none⟩) 1 1 [97, 98, 99] [(1, 3)] 1 2 [120, 121] [(2, 2)] (by simp) _ K.out.now.2.2.1 K.out.now.2.2.2).mono ?_
  rw [HA.out.1]
  rintro e w1 ⟨A1, c1, A2, c2, rfl, r1, r2, bb⟩
  dsimp only at r1 r2 ⊢
  have K1 : Hid (Grow (w1.alloc (.cells #[.int .i64 1, .string ⟨#[98]⟩, .slice A1 1 c1, .string ⟨#[120, 121]⟩, .slice A2 1 c2] 29)) _) := (K.out.step bb).evar (a := 1) (V := [98]) (r := [(1, 1)]) (X := [120, 121]) (m := [(2, 2)]) (c := c1) (d := c2) (txt_small r1 (by simp) (by simp) F2.out) (txt_small r2 (by simp) (by simp) F1)
  obtain ⟨y0, y1⟩ := txt_cells K1.out.now.2.1
  obtain ⟨u0, u1, u2, u3, u4⟩ : (w1.alloc (.cells #[.int .i64 1, .string ⟨#[98]⟩, .slice A1 1 c1, .string ⟨#[120, 121]⟩, .slice A2 1 c2] 29)).cell? ⟨w1.heap.size, 0, none⟩ = some (.int .i64 1) ∧ _ ∧ (w1.alloc (.cells #[.int .i64 1, .string ⟨#[98]⟩, .slice A1 1 c1, .string ⟨#[120, 121]⟩, .slice A2 1 c2] 29)).cell? ⟨w1.heap.size, 2, none⟩ = some (.slice A1 1 c1) ∧ _ ∧ (w1.alloc (.cells #[.int .i64 1, .string ⟨#[98]⟩, .slice A1 1 c1, .string ⟨#[120, 121]⟩, .slice A2 1 c2] 29)).cell? ⟨w1.heap.size, 4, none⟩ = some (.slice A2 1 c2) := ed_cells K1.out.now.1.1
  clear K bb r1 r2
  go_wp2_with fail
  refine (ediApply_any (some ⟨w.heap.size, 0, none⟩) A1 A2 1 c1 c2 [97, 98, 99] [(1, 3)] 1 [98] [(1, 1)] [120, 121] [(2, 2)] _ K1.out.now.2.2.2.1 K1.out.now.1.2.1 K1.out.now.1.2.2).mono ?_
  rw [HA.out.2.1]
  rintro e w2 ⟨A3, c3, rfl, own, bb⟩
  dsimp only at own ⊢
  have K2 : Hid (Grow (w2.alloc (.cells #[.string ⟨#[97, 120, 121, 99]⟩, .slice A3 3 c3] 24)) (fun w' => (Blk w' w2.heap.size 24 #[.string ⟨#[97, 120, 121, 99]⟩, .slice A3 3 c3] ∧ Txu w' A3 [97, 120, 121, 99] [(1, 1), (2, 2), (1, 1)]) ∧
      (Blk w' w1.heap.size 29 #[.int .i64 1, .string ⟨#[98]⟩, .slice A1 1 c1, .string ⟨#[120, 121]⟩, .slice A2 1 c2] ∧ Txu w' A1 [98] [(1, 1)] ∧ Txu w' A2 [120, 121] [(2, 2)]) ∧
      Blk w' (w.heap.size + 1) 24 #[.string ⟨#[97, 98, 99]⟩, .slice (some ⟨w.heap.size, 0, none⟩) 1 1] ∧ Below w.heap.size w w' ∧ Txu w' (some ⟨w.heap.size, 0, none⟩) [97, 98, 99] [(1, 3)] ∧ Txu w' (some ⟨w.heap.size + 1 + 1, 0, none⟩) [120, 121] [(2, 2)])) :=
    (K1.out.step bb).var (V := [97, 120, 121, 99]) (r := [(1, 1), (2, 2), (1, 1)]) (c := c3) (txt_small (Row.of_own own) (by simp) (by simp) F3.out)
  clear y0 y1 u0 u1 u2 u3 u4 K1 bb own
  generalize w1.heap.size = g1 at *
  obtain ⟨y0, y1⟩ := txt_cells K2.out.now.1.1
  obtain ⟨u0, u1, u2, u3, u4⟩ := ed_cells K2.out.now.2.1.1
  have hfd2 : ∀ w' : World, (Instr.field 24 (.agg #[.string ⟨#[98]⟩, .slice A1 1 c1]) 0).run Try.prog w' = .ok (.string ⟨#[98]⟩) w' := fun w' => field_text _ _ _ _ w'
  go_wp2_with (first
    | (go_at_call 17; refine (ediFollow_any A1 A2 c1 c2 1 [98] [(1, 1)] [120, 121] [(2, 2)] 3 (by omega) _ K2.out.now.2.1.2.1 K2.out.now.2.1.2.2).mono ?_; rw [HA.out.2.2.1]; rintro e w3 ⟨rfl, bb⟩; replace K2 := Lib.hid (K2.out.step bb); clear bb y0 y1 u0 u1 u2 u3 u4; obtain ⟨y0, y1⟩ := txt_cells K2.out.now.1.1; obtain ⟨u0, u1, u2, u3, u4⟩ := ed_cells K2.out.now.2.1.1)
    | (go_at_call 25; refine (ediCheck_any A3 A1 A2 c3 c1 c2 [97, 120, 121, 99] [(1, 1), (2, 2), (1, 1)] 1 [98] [(1, 1)] [120, 121] [(2, 2)] _ K2.out.now.1.2 K2.out.now.2.1.2.1 K2.out.now.2.1.2.2).mono ?_; rw [HA.out.2.2.2]; rintro e w4 ⟨rfl, bb⟩; replace K2 := Lib.hid (K2.out.step bb); clear bb y0 y1 u0 u1 u2 u3 u4; obtain ⟨y0, y1⟩ := txt_cells K2.out.now.1.1; obtain ⟨u0, u1, u2, u3, u4⟩ := ed_cells K2.out.now.2.1.1)
    | (go_at_call 14; refine (ediInvert_any A1 A2 c1 c2 1 [98] [(1, 1)] [120, 121] [(2, 2)] (by simp) (by simp) _ K2.out.now.2.1.2.1 K2.out.now.2.1.2.2).mono ?_; rintro e w5 ⟨A6, c6, A7, c7, rfl, r6, r7, bb⟩; replace K2 := Lib.hid (K2.out.step bb); clear bb r6 r7 y0 y1 u0 u1 u2 u3 u4 hfd2; have hfd : ∀ w' : World, (Instr.field 29 (.agg #[.int .i64 1, .string ⟨#[120, 121]⟩, .slice A6 1 c6, .string ⟨#[98]⟩, .slice A7 1 c7]) 2).run Try.prog w' = .ok (.agg #[.string ⟨#[98]⟩, .slice A7 1 c7]) w' := fun w' => field_new _ _ _ _ _ _ _ _ _ w'; have hfd2 : ∀ w' : World, (Instr.field 24 (.agg #[.string ⟨#[98]⟩, .slice A7 1 c7]) 0).run Try.prog w' = .ok (.string ⟨#[98]⟩) w' := fun w' => field_text _ _ _ _ w'))
  go_ret
  exact ⟨rfl, K2.out.now.2.2.2.1⟩
end Go.Proofs.Ytmpliacojljchaa
