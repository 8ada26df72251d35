/-
  The landed Apply and Check: layer 7.
-/
import Derived.Test.YtfeaffabminpfaaEdiGood
import Derived.Test.YtfeaffabminpfaaEdiCopy
import Derived.Test.YtfeaffabminpfaaM04o
namespace Go.Proofs.Ytfeaffabminpfaa
open Go.RowKit

section
variable {w wx : World} {F : World → Prop}
/-- one variable more: a text that was just answered -/
theorem Grow.var {A : Option Addr} {c : Nat} {V : List UInt8} {r : List RunP} (K : Grow wx F) (h : Txu wx A V r) :
    Grow (wx.alloc (.cells #[.string ⟨V.toArray⟩, .slice A r.length c] 32)) (fun w' => (Blk w' wx.heap.size 32 #[.string ⟨V.toArray⟩, .slice A r.length c] ∧ Txu w' A V r) ∧ F w') :=
  ((blk_box wx).and ((grow_txu h).alloc _)).and (K.alloc _)
theorem Grow.evar {A B : Option Addr} {c d : Nat} {a : Int} {V X : List UInt8} {r m : List RunP} (K : Grow wx F) (h : Txu wx A V r) (hh : Txu wx B X m) :
    Grow (wx.alloc (.cells #[.int .i64 a, .string ⟨V.toArray⟩, .slice A r.length c, .string ⟨X.toArray⟩, .slice B m.length d] 34)) (fun w' => (Blk w' wx.heap.size 34 #[.int .i64 a, .string ⟨V.toArray⟩, .slice A r.length c, .string ⟨X.toArray⟩, .slice B m.length d] ∧ Txu w' A V r ∧ Txu w' B X m) ∧ F w') :=
  ((blk_box wx).and (((grow_txu h).and (grow_txu hh)).alloc _)).and (K.alloc _)
theorem boxesE2 (w : World) (T0 T1 : TypeId) (c0 c1 : Array Value) : Grow ((w.alloc (.cells c0 T0)).alloc (.cells c1 T1)) (fun w' => Blk w' w.heap.size T0 c0 ∧ Blk w' (w.heap.size + 1) T1 c1 ∧ Below w.heap.size w w') := by
  have e : (w.alloc (.cells c0 T0)).heap.size = w.heap.size + 1 := by simp
  refine ((blk_box w).alloc _).and (Grow.and ?_ (grow_bel (((Below.refl _ w).alloc (Nat.le_refl _) _).alloc (by omega) _)))
  rw [← e]; exact blk_box _
theorem boxesE3 (w : World) (T0 T1 T2 : TypeId) (c0 c1 c2 : Array Value) : Grow (((w.alloc (.cells c0 T0)).alloc (.cells c1 T1)).alloc (.cells c2 T2)) (fun w' => Blk w' w.heap.size T0 c0 ∧ Blk w' (w.heap.size + 1) T1 c1 ∧ Blk w' (w.heap.size + 1 + 1) T2 c2 ∧ Below w.heap.size w w') := by
  have e : ((w.alloc (.cells c0 T0)).alloc (.cells c1 T1)).heap.size = w.heap.size + 1 + 1 := by simp
  have h2 := (boxesE2 w T0 T1 c0 c1).alloc (.cells c2 T2)
  have h3 : Grow (((w.alloc (.cells c0 T0)).alloc (.cells c1 T1)).alloc (.cells c2 T2)) (fun w' => Blk w' (w.heap.size + 1 + 1) T2 c2) := by rw [← e]; exact blk_box _
  exact fun w' hb => ⟨(h2 w' hb).1, (h2 w' hb).2.1, h3 w' hb, (h2 w' hb).2.2⟩
end

end Go.Proofs.Ytfeaffabminpfaa
