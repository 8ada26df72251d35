/-
  Contracts of the document's own answers, layer 1: Marks, Label, Join, Meet, Below.
-/
import Derived.Test.YthdflibljngjiaaLabText
namespace Go.Proofs.Ythdflibljngjiaa
open Go.RowKit

/-- 64 marks -/
def marks (f : Nat → Bool) : Array Value := Array.ofFn (n := 64) (fun i => Value.bool (f i.val))
theorem marks_size (f : Nat → Bool) : (marks f).size = 64 := by simp [marks]
theorem marks_get (f : Nat → Bool) {i : Nat} (h : i < 64) : (marks f)[i]? = some (.bool (f i)) := by simp [marks, h]
theorem marks_set (f : Nat → Bool) (k : Nat) (b : Bool) : (marks f).setIfInBounds k (.bool b) = marks (fun i => if i = k then b else f i) := by
  apply Array.ext
  · simp [marks]
  · intro i h1 h2
    rw [Array.getElem_setIfInBounds]
    · by_cases h : k = i
      · subst h; simp [marks]
      · have h' : ¬ i = k := fun e => h e.symm
        simp [marks, h, h']
    · simpa using h1
theorem marks_congr {f g : Nat → Bool} (h : ∀ i, i < 64 → f i = g i) : marks f = marks g := by
  unfold marks; congr 1; funext i; rw [h i.val i.isLt]
theorem marks_one (f : Nat → Bool) : (marks f).all (·.oneCell') = true := by
  rw [Array.all_eq_true]; intro i hi; simp [marks, Value.oneCell']
theorem size_set : (Try.prog.info? 63).map (·.size) = some 64 := by kernel_rfl

theorem zero_marks : (#[.bool false, .bool false, .bool false, .bool false, .bool false, .bool false, .bool false, .bool false, .bool false, .bool false, .bool false, .bool false, .bool false, .bool false, .bool false, .bool false,
  .bool false, .bool false, .bool false, .bool false, .bool false, .bool false, .bool false, .bool false, .bool false, .bool false, .bool false, .bool false, .bool false, .bool false, .bool false, .bool false,
  .bool false, .bool false, .bool false, .bool false, .bool false, .bool false, .bool false, .bool false, .bool false, .bool false, .bool false, .bool false, .bool false, .bool false, .bool false, .bool false,
  .bool false, .bool false, .bool false, .bool false, .bool false, .bool false, .bool false, .bool false, .bool false, .bool false, .bool false, .bool false, .bool false, .bool false, .bool false, .bool false] : Array Value) = marks (fun _ => false) := by kernel_rfl

attribute [irreducible] marks
theorem zero_set : (Try.prog.info? 63).map (fun i => i.zero) = some (some (.agg (marks fun _ => false))) := by rw [← zero_marks]; kernel_rfl
theorem size_marks (f : Nat → Bool) : (Try.prog.info? 63).map (·.size) = some (marks f).size := by rw [marks_size]; exact size_set

theorem mark_eq (l k : Nat) : (((l / 2 ^ k : Nat) : Int) % 2 == 1) = l.testBit k := by
  rw [Nat.testBit_eq_decide_div_mod_eq, Bool.eq_iff_iff, beq_iff_eq, decide_eq_true_iff]
  omega
theorem half (l k : Nat) : ((l / 2 ^ k : Nat) : Int) / 2 = ((l / 2 ^ (k + 1) : Nat) : Int) := by
  rw [Nat.pow_succ, ← Nat.div_div_eq_div_mul]; omega

set_option maxHeartbeats 400000 in
theorem marks_any (l : Nat) (hl : l < 18446744073709551616) (w : World) :
    Calls Try.prog 47 #[.int .u64 l] w fun e w' => e = .returned (.agg (marks l.testBit)) ∧ Below w.heap.size w w' := by
  go_enter Try.func47, Try.ntmps47
  go_wp2
  go_loopw [4, 5] (fun n i wr => ∃ k : Nat, k ≤ 64 ∧ i = .int .i64 k ∧ n = .int .u64 ((l / 2 ^ k : Nat) : Int) ∧ Blk wr (w.heap.size + 1) 63 (marks fun i => decide (i < k) && l.testBit i) ∧ Blk wr w.heap.size 63 (marks fun _ => false) ∧ Below w.heap.size w wr) (fun _ i _ => 64 - (intOf i).toNat)
  case atStart =>
    refine ⟨0, by omega, rfl, by simp, ?_, ?_, ((Below.refl _ _).alloc (Nat.le_refl _) _).alloc (by simp) _⟩
    · rw [zero_marks]
      have h := Blk.new (w.alloc (.cells (marks fun _ => false) 63)) 63 (marks fun _ => false)
      simpa using h
    · rw [zero_marks]
      exact (Blk.new w _ _).alloc _
  case round =>
    obtain ⟨k, hk, rfl, rfl, hbs, hbr, hbl⟩ := hrel
    by_cases hlt : k < 64
    · have hc : wr.cell? ⟨w.heap.size + 1, k, none⟩ = some (.bool (decide (k < k) && l.testBit k)) := by rw [hbs.cell, marks_get _ hlt]
      have hf := hbs.frozen k
      have HM := Lib.hid (mark_eq l k)
      have HH := Lib.hid (half l k)
      have hq : l / 2 ^ k < 18446744073709551616 := Nat.lt_of_le_of_lt (Nat.div_le_self _ _) hl
      generalize l / 2 ^ k = q at *
      go_wp2
      go_roundw
      case rel =>
        refine ⟨k + 1, by omega, by go_num, by rw [HH.out], ?_, hbr.far (by simp) _, hbl.setCell (by simp) _⟩
        have h1 := hbs.set_ k (.bool ((q : Int) % 2 == 1))
        rw [HM.out, marks_set] at h1
        rw [HM.out]
        rw [marks_congr (g := fun i => decide (i < k + 1) && l.testBit i) (fun i _ => by
          by_cases h : i = k
          · subst h; simp
          · have h' : i < k + 1 ↔ i < k := by omega
            simp [h, h'])] at h1
        exact h1
      case measure => simp [intOf]; omega
    · obtain rfl : k = 64 := by omega
      rw [marks_congr (g := l.testBit) (fun i hi => by simp; omega)] at hbs
      go_wp2_with (first
        | (refine wpList_load_row rfl 63 (.tmp 3) rfl (w.heap.size + 1) rfl 63 (marks l.testBit) (0, 0) _ hbs Try.underlying63 rfl (size_marks _) ?_)
        | (refine wpList_store_row rfl 63 (.tmp 2) (.tmp 18) rfl w.heap.size (marks l.testBit) rfl rfl 63 _ hbr (size_marks _) ((marks_size _).trans (marks_size _).symm) (marks_one _) ?_))
      refine bodyPost_ret (results_cell_row rfl _ _ w.heap.size 63 (marks l.testBit) (0, 0) _ rfl (hbr.setRow _) Try.underlying63 rfl (size_marks _)) rfl ?_
      exact ⟨rfl, below_setRow hbl (Nat.le_refl _) _⟩
end Go.Proofs.Ythdflibljngjiaa
