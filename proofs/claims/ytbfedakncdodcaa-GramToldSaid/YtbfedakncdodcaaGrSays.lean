/-
  What package gram answers (to be proved of the landed one); answers that the document fixes: layer 11.
-/
import Derived.Test.YtbfedakncdodcaaGrTell
namespace Go.Proofs.Ytbfedakncdodcaa
open Go.RowKit

/-- a command, the number of its keys, and whether it is whole -/
def GivesCG (w : World) (r : CmdG × Nat × Nat) (e : Ending) (w' : World) : Prop :=
  e = .returned (.tuple #[.agg #[.int .i32 r.1.reg, .int .i64 r.1.count, .int .i32 r.1.verb, .int .i32 r.1.move, .int .i32 r.1.arg], .int .i64 (r.2.1 : Nat), .int .i64 (r.2.2 : Nat)]) ∧ Below w.heap.size w w'
structure GramSays : Prop where
  motion : ∀ (k : Int) (w : World), (-2147483648 ≤ k ∧ k ≤ 2147483647) → Calls Try.prog 8 #[.int .i32 k] w fun e w' => e = .returned (.bool (motionG k)) ∧ Below w.heap.size w w'
  oper : ∀ (k : Int) (w : World), (-2147483648 ≤ k ∧ k ≤ 2147483647) → Calls Try.prog 10 #[.int .i32 k] w fun e w' => e = .returned (.bool (operG k)) ∧ Below w.heap.size w w'
  parse : ∀ (A : Option Addr) (c B : Nat) (zs : List Int) (v : Bool) (w : World), B ≤ w.heap.size → (∀ z ∈ zs, -2147483648 ≤ z ∧ z ≤ 2147483647) → zs.length ≤ 1000000 → Row w B A (zs.map runz) →
    Calls Try.prog 12 #[.slice A zs.length c, .bool v] w (GivesCG w (parseG zs v))

theorem aliveG_1 : parseG [34, 97, 50, 100, 51, 119, 120] false = (⟨97, 6, 100, 119, 0⟩, 6, 1) := by decide +kernel
theorem aliveG_2 : parseG [103, 120] false = (⟨0, 0, 0, 0, 0⟩, 2, 3) := by decide +kernel
theorem aliveG_3 : motionG 119 = true := by decide
theorem aliveG_4 : operG 100 = true := by decide
theorem aliveG_row (w : World) (zs : List Int) (cs : Array Value) (h : cs = (zs.map runz).toArray) : Row (w.alloc (.cells cs 21)) (w.alloc (.cells cs 21)).heap.size (some ⟨w.heap.size, 0, none⟩) (zs.map runz) := by
  subst h
  exact (row_newL w 21 (zs.map runz)).more (by simp)
theorem aliveG_one (KS : GramSays) (w : World) : Calls Try.prog 12 #[.slice (some ⟨w.heap.size, 0, none⟩) 7 7, .bool false] (w.alloc (.cells #[.int .i32 34, .int .i32 97, .int .i32 50, .int .i32 100, .int .i32 51, .int .i32 119, .int .i32 120] 21)) fun e w' => e = .returned (.tuple #[.agg #[.int .i32 97, .int .i64 6, .int .i32 100, .int .i32 119, .int .i32 0], .int .i64 6, .int .i64 1]) ∧ Below w.heap.size w w' := by
  have h := KS.parse (some ⟨w.heap.size, 0, none⟩) 7 _ [34, 97, 50, 100, 51, 119, 120] false (w.alloc (.cells #[.int .i32 34, .int .i32 97, .int .i32 50, .int .i32 100, .int .i32 51, .int .i32 119, .int .i32 120] 21)) (Nat.le_refl _) (by decide) (by decide) (aliveG_row w [34, 97, 50, 100, 51, 119, 120] _ rfl)
  rw [aliveG_1] at h
  have b0 : Below w.heap.size w (w.alloc (.cells #[.int .i32 34, .int .i32 97, .int .i32 50, .int .i32 100, .int .i32 51, .int .i32 119, .int .i32 120] 21)) := (Below.refl _ w).alloc (Nat.le_refl _) _
  refine h.mono ?_
  rintro e w' ⟨rfl, hb⟩
  exact ⟨rfl, b0.trans (hb.mono b0.size)⟩
theorem aliveG_two (KS : GramSays) (w : World) : Calls Try.prog 12 #[.slice (some ⟨w.heap.size, 0, none⟩) 2 2, .bool false] (w.alloc (.cells #[.int .i32 103, .int .i32 120] 21)) fun e w' => e = .returned (.tuple #[.agg #[.int .i32 0, .int .i64 0, .int .i32 0, .int .i32 0, .int .i32 0], .int .i64 2, .int .i64 3]) ∧ Below w.heap.size w w' := by
  have h := KS.parse (some ⟨w.heap.size, 0, none⟩) 2 _ [103, 120] false (w.alloc (.cells #[.int .i32 103, .int .i32 120] 21)) (Nat.le_refl _) (by decide) (by decide) (aliveG_row w [103, 120] _ rfl)
  rw [aliveG_2] at h
  have b0 : Below w.heap.size w (w.alloc (.cells #[.int .i32 103, .int .i32 120] 21)) := (Below.refl _ w).alloc (Nat.le_refl _) _
  refine h.mono ?_
  rintro e w' ⟨rfl, hb⟩
  exact ⟨rfl, b0.trans (hb.mono b0.size)⟩
set_option maxHeartbeats 2000000 in
theorem aliveG_any (KS : GramSays) (w : World) : Calls Try.prog 7 #[] w fun e w' => e = .returned (.bool true) ∧ Below w.heap.size w w' := by
  have HK := Lib.hid KS
  clear KS
  have H3 := Lib.hid aliveG_3
  have H4 := Lib.hid aliveG_4
  go_enter Try.func7, Try.ntmps7
  go_upto_region 2 with (first
    | (go_at_call 12; refine (aliveG_one HK.out w).mono ?_; rintro e w1 ⟨rfl, b1⟩))
  have HB : Hid (Blk (w1.alloc (.cells #[.int .i32 97, .int .i64 6, .int .i32 100, .int .i32 119, .int .i32 0] 27)) w1.heap.size 27 #[.int .i32 97, .int .i64 6, .int .i32 100, .int .i32 119, .int .i32 0]) := Blk.new _ _ _
  have ba : Below w.heap.size w (w1.alloc (.cells #[.int .i32 97, .int .i64 6, .int .i32 100, .int .i32 119, .int .i32 0] 27)) := b1.alloc b1.size _
  generalize w1.alloc (.cells #[.int .i32 97, .int .i64 6, .int .i32 100, .int .i32 119, .int .i32 0] 27) = wa at *
  go_upto_region 3 with (first
    | (go_at_call 12; refine (aliveG_two HK.out wa).mono ?_; rintro e w2 ⟨rfl, b2⟩))
  have HB2 := Lib.hid ((HB.out.below b2 HB.out.lt).alloc (.cells #[.int .i32 0, .int .i64 0, .int .i32 0, .int .i32 0, .int .i32 0] 27))
  have bb : Below w.heap.size w (w2.alloc (.cells #[.int .i32 0, .int .i64 0, .int .i32 0, .int .i32 0, .int .i32 0] 27)) := (ba.trans (b2.mono ba.size)).alloc (Nat.le_trans ba.size b2.size) _
  generalize w2.alloc (.cells #[.int .i32 0, .int .i64 0, .int .i32 0, .int .i32 0, .int .i32 0] 27) = wb at *
  obtain ⟨y0, y1, y2, y3, y4⟩ := (⟨HB2.out.cell 0, HB2.out.cell 1, HB2.out.cell 2, HB2.out.cell 3, HB2.out.cell 4⟩ : wb.cell? ⟨w1.heap.size, 0, none⟩ = some (.int .i32 97) ∧ wb.cell? ⟨w1.heap.size, 1, none⟩ = some (.int .i64 6) ∧ wb.cell? ⟨w1.heap.size, 2, none⟩ = some (.int .i32 100) ∧ wb.cell? ⟨w1.heap.size, 3, none⟩ = some (.int .i32 119) ∧ wb.cell? ⟨w1.heap.size, 4, none⟩ = some (.int .i32 0))
  go_wp2_with (first
    | (go_at_call 8; refine (HK.out.motion 119 _ (by decide)).mono ?_; rw [H3.out]; rintro e w5 ⟨rfl, b5⟩; have b6 := bb.trans (b5.mono bb.size))
    | (go_at_call 10; refine (HK.out.oper 100 _ (by decide)).mono ?_; rw [H4.out]; rintro e w7 ⟨rfl, b7⟩; have b8 := b6.trans (b7.mono b6.size)))
  go_ret
  exact ⟨rfl, b8⟩
end Go.Proofs.Ytbfedakncdodcaa
