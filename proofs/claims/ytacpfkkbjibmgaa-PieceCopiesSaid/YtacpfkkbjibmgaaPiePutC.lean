/-
  The landed store: Put, full and done: layer 5.
-/
import Derived.Test.YtacpfkkbjibmgaaPiePutB
namespace Go.Proofs.Ytacpfkkbjibmgaa
open Go.RowKit

set_option maxHeartbeats 2000000 in
/-- refused: there is no room -/
theorem piePut_full (P : Nat → Prop) (g most : Nat) (vb vp : Value) (bs X : List UInt8) (ps : List PieP) (A : Option Addr) (c : Nat) (m : List RunP) (F T : Nat) (w : World) (h : StoW w P g most vb vp bs ps) (ha : PutArg P A X m w) (hg : goodT X m = true) (hFT : F ≤ T) (hT : T ≤ lenP ps) (hfull : most < lenP ps - (T - F) + X.length) :
    Calls Try.prog 15 #[.pointer (some ⟨g, 0, none⟩), .int .i64 (F : Nat), .int .i64 (T : Nat), .agg #[.string ⟨X.toArray⟩, .slice A m.length c]] w fun e w' => e = .returned (.int .i64 4) ∧ Below w.heap.size w w' := by
  have hl := h.len
  have h4 := h.most4
  have hm := h.max
  obtain ⟨gz1, _, _⟩ := goodT_size hg
  have Q := Lib.hid (put_box (c := c) h ha)
  obtain ⟨A0, c0, hvp⟩ := own_form h.pcs
  have HVP := Lib.hid hvp
  clear h ha hvp
  go_enter Try.func15, Try.ntmps15
  go_upto_region 1 with (fail)
  generalize w.alloc (.cells #[.string ⟨X.toArray⟩, .slice A m.length c] 28) = w0 at *
  have HB1 : Hid (Blk w0 g 54 #[.bool true, .int .i64 (most : Nat), vb, .slice A0 ps.length c0]) := by rw [← HVP.out]; exact Q.out.1.blk
  have HR1 : Hid (Row w0 w0.heap.size A0 (flatP ps)) := by have := Q.out.1.pcs; rw [HVP.out] at this; exact Row.of_own this
  obtain ⟨x0, _, _, x3⟩ := sto_cells HB1.out
  obtain ⟨y0, y1⟩ := txt_cells Q.out.2.2.1
  have hgl : g < w0.heap.size := HB1.out.lt
  have HW : Hid (decide (0 ≤ (F : Int) ∧ (F : Int) ≤ (T : Int) ∧ (T : Int) ≤ (lenP ps : Int)) = true) := decide_eq_true ⟨by omega, by omega, by omega⟩
  have HG := Lib.hid hg
  clear hg
  have hr0 : ((most - lenP ps : Nat) : Int) + ((T : Int) - (F : Int)) < (X.length : Int) := by omega
  have w1 := wrap_small ((T : Int) - (F : Int)) (by omega) (by omega)
  have w2 := wrap_small (((most - lenP ps : Nat) : Int) + ((T : Int) - (F : Int))) (by omega) (by omega)
  go_wp2_with (first
    | (go_at_call 21; refine (pieUsable_yes g _ x0).mono ?_; rintro e w1 ⟨rfl, rfl⟩)
    | (go_at_call 30; refine (stpGood_any A c w.heap.size X m w0 (by rw [Q.out.2.2.2.2]; omega) Q.out.2.1).mono ?_; rw [HG.out]; rintro e w1 ⟨rfl, hb1⟩; have HB2 := Lib.hid (HB1.out.below hb1 hgl); have HR2 := Lib.hid (HR1.out.below hb1); have z1 := hb1.size; have B1 := Lib.hid hb1; clear hb1 x0 x3 y0 y1)
    | (go_at_call 22; refine (pieWithin_any g w0.heap.size A0 c0 _ _ ps (F : Int) (T : Int) w1 HB2.out z1 HR2.out (by omega) (by omega)).mono ?_; rw [HW.out]; rintro e w2 ⟨rfl, hb2⟩; have B2 : Hid (Below w0.heap.size w0 w2) := B1.out.trans (hb2.mono z1); clear hb2))
  have HB3 := Lib.hid ((HB1.out.below B2.out hgl).drewN 1)
  have HR3 := Lib.hid ((HR1.out.below B2.out).drewN 1)
  have z2 := B2.out.size
  have hgt : w.heap.size < w0.heap.size := by rw [Q.out.2.2.2.2]; omega
  have T2 := Lib.hid (Q.out.2.2.1.below B2.out hgt)
  have K0 : Hid (w2.drew.cell? ⟨w.heap.size, 0, none⟩ = some (.string ⟨X.toArray⟩)) := (txt_cells T2.out).1
  have hX2 : ((X.length : Nat) : Int) = (X.length : Int) := rfl
  go_region_held3 (fun w' => w'.cell? ⟨w.heap.size, 0, none⟩ = some (.string ⟨X.toArray⟩))
    (first
      | exact K0.out
      | exact K1.out)
    (first
      | (go_at_call 18; refine (pieRoom_any g w0.heap.size A0 c0 most vb ps _ HB3.out z2 HR3.out (by omega) hm h4).mono ?_; rintro e w3 ⟨rfl, hb3⟩; have T3 := Lib.hid (T2.out.below (B := w2.heap.size) (w' := w3) (Below.trans (below_drewN (Below.refl _ w2) 1) hb3) (by omega)); have K1 : Hid (w3.cell? ⟨w.heap.size, 0, none⟩ = some (.string ⟨X.toArray⟩)) := (txt_cells T3.out).1; have B3 : Hid (Below w0.heap.size w0 w3) := B2.out.trans ((Below.trans (below_drewN (Below.refl w2.heap.size w2) 1) hb3).mono z2); clear hb3))
  go_wp2
  go_ret
  exact ⟨rfl, Q.out.2.2.2.1.trans (B3.out.mono (by omega))⟩
end Go.Proofs.Ytacpfkkbjibmgaa
