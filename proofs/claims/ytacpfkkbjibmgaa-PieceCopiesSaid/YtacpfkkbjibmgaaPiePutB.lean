/-
  The landed store: Put: layer 5.
-/
import Derived.Test.YtacpfkkbjibmgaaPiePutA
import Derived.Test.YtacpfkkbjibmgaaM04o
namespace Go.Proofs.Ytacpfkkbjibmgaa
open Go.RowKit

/-- what is put, in which place -/
structure PutArg (P : Nat → Prop) (A : Option Addr) (X : List UInt8) (m : List RunP) (w : World) : Prop where
  hX : X.length ≤ maxLen
  hf : Fits m
  hl : m.length ≤ maxLen
  row : RowF w P A (flatR m)

/-- the first steps: the box of the text -/
theorem put_box {w : World} {P : Nat → Prop} {g most : Nat} {vb vp : Value} {bs X : List UInt8} {ps : List PieP} {A : Option Addr} {c : Nat} {m : List RunP} (h : StoW w P g most vb vp bs ps) (ha : PutArg P A X m w) :
    StoW (w.alloc (.cells #[.string ⟨X.toArray⟩, .slice A m.length c] 28)) P g most vb vp bs ps ∧ Txt (w.alloc (.cells #[.string ⟨X.toArray⟩, .slice A m.length c] 28)) w.heap.size A X m ∧
    Blk (w.alloc (.cells #[.string ⟨X.toArray⟩, .slice A m.length c] 28)) w.heap.size 28 #[.string ⟨X.toArray⟩, .slice A m.length c] ∧ Below w.heap.size w (w.alloc (.cells #[.string ⟨X.toArray⟩, .slice A m.length c] 28)) ∧
    (w.alloc (.cells #[.string ⟨X.toArray⟩, .slice A m.length c] 28)).heap.size = w.heap.size + 1 := by
  have hb := (Below.refl w.heap.size w).alloc (Nat.le_refl _) (.cells #[.string ⟨X.toArray⟩, .slice A m.length c] 28)
  exact ⟨h.fresh hb, ⟨ha.hX, ha.hf, ha.hl, ha.row.row.below hb⟩, Blk.new _ _ _, hb, by simp⟩

set_option maxHeartbeats 2000000 in
/-- refused: the text, or the place -/
theorem piePut_arg (P : Nat → Prop) (g most : Nat) (vb vp : Value) (bs X : List UInt8) (ps : List PieP) (A : Option Addr) (c : Nat) (m : List RunP) (f t : Int) (w : World) (h : StoW w P g most vb vp bs ps) (ha : PutArg P A X m w) (hno : ¬ (goodT X m = true ∧ 0 ≤ f ∧ f ≤ t ∧ t ≤ (lenP ps : Int))) :
    Calls Try.prog 15 #[.pointer (some ⟨g, 0, none⟩), .int .i64 f, .int .i64 t, .agg #[.string ⟨X.toArray⟩, .slice A m.length c]] w fun e w' => e = .returned (.int .i64 2) ∧ Below w.heap.size w w' := by
  have hl := h.len
  have h4 := h.most4
  have hm := h.max
  have Q := Lib.hid (put_box (c := c) h ha)
  obtain ⟨A0, c0, hvp⟩ := own_form h.pcs
  have HVP := Lib.hid hvp
  clear h ha hvp
  go_enter Try.func15, Try.ntmps15
  go_upto_region 1 with (fail)
  generalize w.alloc (.cells #[.string ⟨X.toArray⟩, .slice A m.length c] 28) = w0 at *
  have HB1 : Hid (Blk w0 g 54 #[.bool true, .int .i64 (most : Nat), vb, .slice A0 ps.length c0]) := by rw [← HVP.out]; exact Q.out.1.blk
  have HR1 : Hid (Row w0 w0.heap.size A0 (flatP ps)) := by have := Q.out.1.pcs; rw [HVP.out] at this; exact Row.of_own this
  obtain ⟨x0, _, _, x3⟩ := sto_cells HB1.out
  obtain ⟨y0, y1⟩ := txt_cells Q.out.2.2.1
  have hgl : g < w0.heap.size := HB1.out.lt
  by_cases hg : goodT X m = true
  · have HW := Lib.hid (decide_eq_false (fun h => hno ⟨hg, h⟩) : decide (0 ≤ f ∧ f ≤ t ∧ t ≤ (lenP ps : Int)) = false)
    have HG := Lib.hid hg
    clear hno hg
    go_wp2_with (first
      | (go_at_call 21; refine (pieUsable_yes g _ x0).mono ?_; rintro e w1 ⟨rfl, rfl⟩)
      | (go_at_call 30; refine (stpGood_any A c w.heap.size X m w0 (by rw [Q.out.2.2.2.2]; omega) Q.out.2.1).mono ?_; rw [HG.out]; rintro e w1 ⟨rfl, hb1⟩; have HB2 := Lib.hid (HB1.out.below hb1 hgl); have HR2 := Lib.hid (HR1.out.below hb1); have z1 := hb1.size; have B1 := Lib.hid hb1; clear hb1 x0 x3 y0 y1)
      | (go_at_call 22; refine (pieWithin_any g w0.heap.size A0 c0 _ _ ps f t w1 HB2.out z1 HR2.out (by omega) (by omega)).mono ?_; rw [HW.out]; rintro e w2 ⟨rfl, hb2⟩; have B2 : Hid (Below w0.heap.size w0 w2) := B1.out.trans (hb2.mono z1); clear hb2))
    go_ret
    exact ⟨rfl, Q.out.2.2.2.1.trans (B2.out.mono (by rw [Q.out.2.2.2.2]; omega))⟩
  · have hg' : goodT X m = false := by simpa using hg
    have HG := Lib.hid hg'
    clear hno hg hg'
    go_wp2_with (first
      | (go_at_call 21; refine (pieUsable_yes g _ x0).mono ?_; rintro e w1 ⟨rfl, rfl⟩)
      | (go_at_call 30; refine (stpGood_any A c w.heap.size X m w0 (by rw [Q.out.2.2.2.2]; omega) Q.out.2.1).mono ?_; rw [HG.out]; rintro e w1 ⟨rfl, hb1⟩; have B1 := Lib.hid hb1; clear hb1))
    go_ret
    exact ⟨rfl, Q.out.2.2.2.1.trans (B1.out.mono (by rw [Q.out.2.2.2.2]; omega))⟩
end Go.Proofs.Ytacpfkkbjibmgaa
