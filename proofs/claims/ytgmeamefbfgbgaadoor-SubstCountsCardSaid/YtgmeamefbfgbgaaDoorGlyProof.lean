/-
  The landed package glyph answers what the document asks: one bundle.
-/
import Derived.Test.YtgmeamefbfgbgaaDoorGlyFirst
namespace Go.Proofs.YtgmeamefbfgbgaaDoor
open Go.RowKit

theorem elt_intG : Elt Tryd.prog 64 3 (.int .i64 0) 1 8 := ⟨Tryd.underlying64, by kernel_rfl, rfl, by decide⟩
theorem startsAt_snocG (a : Nat) (l : List (Nat × Nat)) (x : Nat × Nat) : startsAt a (l ++ [x]) = startsAt a l ++ [a + width l] := by
  rw [← offs_fst, offs_snoc, List.map_append, offs_fst]; rfl

theorem all_snoc (l : List (Nat × Nat)) (x : Nat × Nat) : ((l ++ [x]).all fun x => !broken x) = ((l.all fun x => !broken x) && !broken x) := by simp
theorem broken_one {x : Nat × Nat} (h : x.1 = 65533) : broken x = decide (x.2 = 1) := by unfold broken; simp [h]
theorem broken_not {x : Nat × Nat} (h : ¬ x.1 = 65533) : broken x = false := by unfold broken; simp [h]

end Go.Proofs.YtgmeamefbfgbgaaDoor
