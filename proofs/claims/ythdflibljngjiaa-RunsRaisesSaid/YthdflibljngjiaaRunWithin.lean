/-
  Contracts of the document's own answers, layer 3: within, Slice.
-/
import Derived.Test.YthdflibljngjiaaRunSlice
namespace Go.Proofs.Ythdflibljngjiaa
open Go.RowKit

def withinB (l : List RunP) (f t : Int) : Bool := goodB l && (decide (0 ≤ f) && (decide (f ≤ t) && decide (t ≤ (totalOf l : Int))))

set_option maxHeartbeats 1000000 in
theorem refWithin_any (A : Option Addr) (c B : Nat) (l : List RunP) (f t : Int) (hf : Fits l) (hlen : l.length ≤ maxLen) (w : World) (hB : B ≤ w.heap.size) (h : Row w B A (flatR l)) :
    Calls Try.prog 40 #[.slice A l.length c, .int .i64 f, .int .i64 t] w fun e w' => e = .returned (.bool (withinB l f t)) ∧ Below w.heap.size w w' := by
  have HF := Lib.hid hf
  clear hf
  have hle := totalOf_le l
  go_enter Try.func40, Try.ntmps40
  go_wp2_with (first
    | (go_at_call 16; refine (refGood_any A c B l HF.out hlen _ hB h).mono ?_; rintro e w1 ⟨rfl, hb1⟩; have z1 := hb1.size)
    | (go_at_call 18; refine (refTotal_any A c B l HF.out hlen _ (by omega) (h.below (hb1.mono hB))).mono ?_; rintro e w2 ⟨rfl, hb2⟩; have z2 := hb2.size))
  all_goals go_ret
  all_goals refine ⟨?_, by first | exact hb1 | exact hb1.trans (hb2.mono z1)⟩
  all_goals show Ending.returned (Value.bool _) = _
  all_goals first | (simp [withinB, *]; done) | (simp [withinB, *]; omega)
end Go.Proofs.Ythdflibljngjiaa
