/-
  The good list of the runs that are passed: layer 3.
-/
import Derived.Test.YthdflibljngjiaaRunPart
namespace Go.Proofs.Ythdflibljngjiaa
open Go.RowKit

/-- the closure that gathers into block g -/
def adder (g : Nat) : Value := .func (.func 46) #[] #[.pointer (some ⟨g, 0, none⟩)]

set_option maxHeartbeats 1000000 in
theorem runMerged_any (fn : Nat) (hent : ∀ (args : Array Value) (w : World), Sem.run Try.prog (callFunc fn args) w = .ok (.enter fn args) w) (cap : Array Value) (b : List Nat) (w : World)
    (hcall : ∀ w1, Gath w1 (w.heap.size + 1) w.heap.size [] → Below w.heap.size w w1 →
      Calls Try.prog fn (#[.func (.func 46) #[] #[.pointer (some ⟨w.heap.size, 0, none⟩)]] ++ cap) w1 fun e w' => e = .returned (.tuple #[]) ∧ Gath w' (w.heap.size + 1) w.heap.size b ∧ Below w.heap.size w1 w') :
    Calls Try.prog 31 #[.func (.func fn) #[] cap] w fun e w' => ∃ A c, e = .returned (.slice A (pack b).length c) ∧
      w'.ownsRow w.heap.size 51 2 (.slice A (pack b).length c) (pack b).length (flatR (pack b)) ∧ Below w.heap.size w w' := by
  have HC := Lib.hid (hcall (w.alloc (.cells #[.slice none 0 0] 22)) ⟨by omega, by simp, .slice none 0 0, Blk.new _ _ _, World.ownsRow_nil _ _ _ _⟩ ((Below.refl _ _).alloc (Nat.le_refl _) _))
  clear hcall
  go_enter Try.func31, Try.ntmps31
  go_wp2_with fail
  refine HC.out.mono ?_
  rintro e w2 ⟨rfl, ⟨g1, g2, v, hv, hown⟩, hb⟩
  obtain ⟨A, c, rfl⟩ := own_form hown
  have cv := hv.cell 0
  simp at cv
  go_wp2
  go_ret
  exact ⟨A, c, rfl, own_base hown (by omega), ((Below.refl _ _).alloc (Nat.le_refl _) _).trans hb⟩
end Go.Proofs.Ythdflibljngjiaa
