/-
  The document's Same of two entries: layer 9.
-/
import Derived.Test.YtcpijnoabipefaaRgCheck
namespace Go.Proofs.Ytcpijnoabipefaa
open Go.RowKit

set_option maxHeartbeats 1000000 in
theorem refGSame_any (A A2 : Option Addr) (c d : Nat) (S T : List UInt8) (l m : List RunP) (b b2 : Bool) (w : World) (h : Txu w A S l) (hh : Txu w A2 T m) :
    Calls Try.prog 16 #[.agg #[.string ⟨S.toArray⟩, .slice A l.length c, .bool b], .agg #[.string ⟨T.toArray⟩, .slice A2 m.length d, .bool b2]] w fun e w' => e = .returned (.bool (decide (S = T ∧ l = m) && b == b2)) ∧ Below w.heap.size w w' := by
  have K := Lib.hid ((boxN (w.alloc (.cells #[.string ⟨S.toArray⟩, .slice A l.length c, .bool b] 33)) #[.string ⟨T.toArray⟩, .slice A2 m.length d, .bool b2] 33).and (((boxN w #[.string ⟨S.toArray⟩, .slice A l.length c, .bool b] 33).and (((grow_txu h).and (grow_txu hh)).alloc _)).alloc _))
  have hz : (w.alloc (.cells #[.string ⟨S.toArray⟩, .slice A l.length c, .bool b] 33)).heap.size = w.heap.size + 1 := by simp
  rw [hz] at K
  clear h hh hz
  go_enter Try.func16, Try.ntmps16
  go_upto_region 1 with fail
  generalize (w.alloc (.cells #[.string ⟨S.toArray⟩, .slice A l.length c, .bool b] 33)).alloc (.cells #[.string ⟨T.toArray⟩, .slice A2 m.length d, .bool b2] 33) = wb at *
  obtain ⟨y0, y1, y2⟩ := en_cells K.out.now.1.1
  obtain ⟨z0, z1, z2⟩ := en_cells K.out.now.2.1.1
  by_cases he : S = T ∧ l = m
  · have HE := Lib.hid (decide_eq_true he)
    clear he
    go_wp2_with (go_at_call 13; refine (refTSame_any A A2 c d _ _ S T l m _ (Nat.le_refl _) (Nat.le_refl _) K.out.now.2.2.1 K.out.now.2.2.2).mono ?_; rw [HE.out]; rintro e w1 ⟨rfl, bb⟩; replace K := Lib.hid (K.out.step bb); clear y0 y1 y2 z0 z1 z2 bb; obtain ⟨y0, y1, y2⟩ := en_cells K.out.now.1.1; obtain ⟨z0, z1, z2⟩ := en_cells K.out.now.2.1.1)
    go_ret
    exact ⟨by rw [HE.out]; first | rfl | simp, K.out.now.2.1.2⟩
  · have HE := Lib.hid (decide_eq_false he)
    clear he
    go_wp2_with (go_at_call 13; refine (refTSame_any A A2 c d _ _ S T l m _ (Nat.le_refl _) (Nat.le_refl _) K.out.now.2.2.1 K.out.now.2.2.2).mono ?_; rw [HE.out]; rintro e w1 ⟨rfl, bb⟩; replace K := Lib.hid (K.out.step bb); clear y0 y1 y2 z0 z1 z2 bb)
    go_ret
    exact ⟨by rw [HE.out]; first | rfl | simp, K.out.now.2.1.2⟩
end Go.Proofs.Ytcpijnoabipefaa
