/-
  The landed store: Text, Cut: layer 5.
-/
import Derived.Test.YtacpfkkbjibmgaaPieSplit
namespace Go.Proofs.Ytacpfkkbjibmgaa
open Go.RowKit

/-- a store in memory: its four cells, its buffer, its pieces; P: the blocks that it may write -/
structure StoW (w : World) (P : Nat → Prop) (g most : Nat) (vb vp : Value) (bs : List UInt8) (ps : List PieP) : Prop where
  blk : Blk w g 54 #[.bool true, .int .i64 (most : Nat), vb, vp]
  gP : P g
  buf : Buf w P vb bs
  pcs : w.ownsRow 0 73 3 vp ps.length (flatP ps)
  pP : ∀ k, vp.ownBlock = some k → P k
  ok : OkP bs ps
  max : lenP ps ≤ most
  most4 : most ≤ 4096
  blen : bs.length ≤ 20000
theorem StoW.len {w : World} {P : Nat → Prop} {g most : Nat} {vb vp : Value} {bs : List UInt8} {ps : List PieP} (h : StoW w P g most vb vp bs ps) : ps.length ≤ 4096 := by
  have h1 := len_le h.ok
  have h2 := h.max
  have h3 := h.most4
  omega
theorem StoW.fresh {w w' : World} {P : Nat → Prop} {g most : Nat} {vb vp : Value} {bs : List UInt8} {ps : List PieP} (h : StoW w P g most vb vp bs ps) (hb : Below w.heap.size w w') : StoW w' P g most vb vp bs ps :=
  ⟨h.blk.below hb h.blk.lt, h.gP, h.buf.chg (Chg.of_fresh (P := fun _ => False) hb) (fun _ h => h.elim) (fun _ _ h => h), own_keep h.pcs hb (Nat.le_refl _), h.pP, h.ok, h.max, h.most4, h.blen⟩

set_option maxHeartbeats 1000000 in
theorem pieTextM_any (P : Nat → Prop) (g most : Nat) (vb vp : Value) (bs : List UInt8) (ps : List PieP) (w : World) (h : StoW w P g most vb vp bs ps) :
    Calls Try.prog 16 #[.pointer (some ⟨g, 0, none⟩)] w (GivesX w (bytesP bs ps) (pack (labsP ps))) := by
  have hl := h.len
  have h4 := h.most4
  have hm := h.max
  have hbl := h.blen
  have hgl := h.blk.lt
  have HK := Lib.hid h.ok
  have Q0 := Lib.hid (And.intro (Blk.new w 28 #[.string ⟨#[]⟩, .slice none 0 0]) ((Below.refl w.heap.size w).alloc (Nat.le_refl _) (.cells #[.string ⟨#[]⟩, .slice none 0 0] 28)))
  have hz0 : (w.alloc (.cells #[.string ⟨#[]⟩, .slice none 0 0] 28)).heap.size = w.heap.size + 1 := by simp
  have H1 := Lib.hid (h.fresh Q0.out.2)
  have HZ := Lib.hid hz0
  obtain ⟨A, c, hvp⟩ := own_form h.pcs
  obtain ⟨Ab, cb, hvb, hcb, _⟩ := h.buf.form
  have HVP := Lib.hid hvp
  have HVB := Lib.hid hvb
  clear h hz0 hvp hvb
  go_enter Try.func16, Try.ntmps16
  go_upto_region 1 with (fail)
  generalize w.alloc (.cells #[.string ⟨#[]⟩, .slice none 0 0] 28) = w0 at *
  have HB1 : Hid (Blk w0 g 54 #[.bool true, .int .i64 (most : Nat), .slice Ab bs.length cb, .slice A ps.length c]) := by rw [← HVB.out, ← HVP.out]; exact H1.out.blk
  have HR1 : Hid (Row w0 w0.heap.size A (flatP ps)) := by have := H1.out.pcs; rw [HVP.out] at this; exact Row.of_own this
  have HR2 : Hid (Row w0 w0.heap.size Ab (bs.map byt)) := by
    obtain ⟨Ab', cb', e, _, hr⟩ := H1.out.buf.form
    rw [HVB.out] at e
    injection e with e1 e2 e3
    subst e1
    exact hr
  obtain ⟨x0, _, _, x3⟩ := sto_cells HB1.out
  go_wp2_with (first
    | (go_at_call 21; refine (pieUsable_yes g _ x0).mono ?_; rintro e w1 ⟨rfl, rfl⟩)
    | (go_at_call 23; refine (pieText_any g w0.heap.size w0.heap.size Ab A cb c _ _ _ bs ps w0 HB1.out hcb (Nat.le_refl _) HR2.out (Nat.le_refl _) HR1.out HK.out (by omega) (by omega) (by omega)).mono ?_; rintro e w2 ⟨A2, c2, rfl, hown2, hb2⟩; have QT := Lib.hid (Q0.out.1.below hb2 (by rw [HZ.out]; omega)); have BW : Hid (Below w.heap.size w w2) := Q0.out.2.trans (hb2.mono (by rw [HZ.out]; omega)); have hown3 := own_base hown2 (base' := w.heap.size + 1) (by rw [HZ.out]; exact Nat.le_refl _); clear hb2 hown2 x0 x3; obtain ⟨y4, y5, y6, y7⟩ := txt_var QT.out))
  have E := givesX_end (bytesP bs ps) BW.out QT.out (Nat.le_refl _) (Nat.lt_succ_self _) hown3
  refine ret_text1 rfl _ _ w.heap.size _ _ rfl E.1 rfl ?_
  exact E.2

/-- some bytes of a text, with their labels -/
def cutS (S : List UInt8) (b : List Nat) (f t : Int) : (List UInt8 × List RunP) × Nat :=
  if 0 ≤ f ∧ f ≤ t ∧ t ≤ (S.length : Int) then (((S.drop f.toNat).take (t.toNat - f.toNat), pack ((b.drop f.toNat).take (t.toNat - f.toNat))), 0) else (([], []), 2)

set_option maxHeartbeats 1000000 in
theorem pieCut_any (P : Nat → Prop) (g most : Nat) (vb vp : Value) (bs : List UInt8) (ps : List PieP) (f t : Int) (w : World) (h : StoW w P g most vb vp bs ps) :
    Calls Try.prog 11 #[.pointer (some ⟨g, 0, none⟩), .int .i64 f, .int .i64 t] w (GivesT w (cutS (bytesP bs ps) (labsP ps) f t)) := by
  have hl := h.len
  have h4 := h.most4
  have hm := h.max
  have hbl := h.blen
  have hgl := h.blk.lt
  have HK := Lib.hid h.ok
  have HBL := Lib.hid (bytesP_len h.ok)
  have Q0 := Lib.hid (And.intro (Blk.new w 28 #[.string ⟨#[]⟩, .slice none 0 0]) ((Below.refl w.heap.size w).alloc (Nat.le_refl _) (.cells #[.string ⟨#[]⟩, .slice none 0 0] 28)))
  have hz0 : (w.alloc (.cells #[.string ⟨#[]⟩, .slice none 0 0] 28)).heap.size = w.heap.size + 1 := by simp
  have H1 := Lib.hid (h.fresh Q0.out.2)
  have HZ := Lib.hid hz0
  obtain ⟨A, c, hvp⟩ := own_form h.pcs
  obtain ⟨Ab, cb, hvb, hcb, _⟩ := h.buf.form
  have HVP := Lib.hid hvp
  have HVB := Lib.hid hvb
  clear h hz0 hvp hvb
  go_enter Try.func11, Try.ntmps11
  go_upto_region 1 with (fail)
  generalize w.alloc (.cells #[.string ⟨#[]⟩, .slice none 0 0] 28) = w0 at *
  have HB1 : Hid (Blk w0 g 54 #[.bool true, .int .i64 (most : Nat), .slice Ab bs.length cb, .slice A ps.length c]) := by rw [← HVB.out, ← HVP.out]; exact H1.out.blk
  have HR1 : Hid (Row w0 w0.heap.size A (flatP ps)) := by have := H1.out.pcs; rw [HVP.out] at this; exact Row.of_own this
  have HR2 : Hid (Row w0 w0.heap.size Ab (bs.map byt)) := by
    obtain ⟨Ab', cb', e, _, hr⟩ := H1.out.buf.form
    rw [HVB.out] at e
    injection e with e1 e2 e3
    subst e1
    exact hr
  obtain ⟨x0, _, _, x3⟩ := sto_cells HB1.out
  by_cases hw : 0 ≤ f ∧ f ≤ t ∧ t ≤ (lenP ps : Int)
  · obtain ⟨F, rfl⟩ : ∃ F : Nat, f = (F : Int) := ⟨f.toNat, by omega⟩
    obtain ⟨T, rfl⟩ : ∃ T : Nat, t = (T : Int) := ⟨t.toNat, by omega⟩
    have hF : F ≤ 4096 := by omega
    have hT : T ≤ 4096 := by omega
    have HR : Hid (cutS (bytesP bs ps) (labsP ps) (F : Int) (T : Int) = ((bytesP bs (partP ps F T ps.length), pack (labsP (partP ps F T ps.length))), 0)) := by
      show _ = _
      obtain ⟨_, e1, e2⟩ := partP_says HK.out F T ps.length (Nat.le_refl _)
      rw [List.take_length] at e1 e2
      unfold cutS
      rw [HBL.out, if_pos hw, e1, e2, Int.toNat_natCast, Int.toNat_natCast]
    have HPO := Lib.hid (partP_says HK.out F T ps.length (Nat.le_refl _))
    have hpl := partP_len ps F T ps.length
    have HPM : Hid (lenP (partP ps F T ps.length) ≤ 4096) := by
      show _ ≤ _
      have e := HPO.out.2.2
      rw [List.take_length] at e
      have := congrArg List.length e
      rw [labsP_len, List.length_take, List.length_drop, labsP_len] at this
      omega
    have HW := Lib.hid (decide_eq_true hw)
    clear hw
    go_wp2_with (first
      | (go_at_call 21; refine (pieUsable_yes g _ x0).mono ?_; rintro e w1 ⟨rfl, rfl⟩)
      | (go_at_call 22; refine (pieWithin_any g w0.heap.size A c _ _ ps (F : Int) (T : Int) w0 HB1.out (Nat.le_refl _) HR1.out (by omega) (by omega)).mono ?_; rw [HW.out]; rintro e w1 ⟨rfl, hb1⟩; have HB2 := Lib.hid (HB1.out.below hb1 (by rw [HZ.out]; omega)); have z1 := hb1.size; have B1 := Lib.hid hb1; clear hb1 x0 x3; obtain ⟨x0, _, _, x3⟩ := sto_cells HB2.out)
      | (go_at_call 24; refine (piePart_any bs w0.heap.size A c ps F T w1 z1 (HR1.out.below B1.out) HK.out (by omega) (by omega) (by omega) hF hT).mono ?_; rintro e w2 ⟨A2, c2, rfl, hown2, hb2⟩; have z2 := hb2.size; have B2 : Hid (Below w0.heap.size w0 w2) := B1.out.trans (hb2.mono z1); have HB3 := Lib.hid (HB2.out.below hb2 (by have := HZ.out; omega)); have HR3 := Lib.hid (Row.of_own hown2); clear hown2 hb2 x0 x3)
      | (go_at_call 23; refine (pieText_any g w0.heap.size w2.heap.size Ab A2 cb c2 _ _ _ bs (partP ps F T ps.length) w2 HB3.out hcb (by omega) (HR2.out.below B2.out) (Nat.le_refl _) HR3.out HPO.out.1 (by omega) HPM.out (by omega)).mono ?_; rintro e w3 ⟨A3, c3, rfl, hown3, hb3⟩; have B3 : Hid (Below w0.heap.size w0 w3) := B2.out.trans (hb3.mono (by omega)); have QT := Lib.hid (Q0.out.1.below B3.out (by rw [HZ.out]; omega)); have BW : Hid (Below w.heap.size w w3) := Q0.out.2.trans (B3.out.mono (by rw [HZ.out]; omega)); have hown4 := own_base hown3 (base' := w.heap.size + 1) (by have := HZ.out; omega); clear hb3 hown3; obtain ⟨y4, y5, y6, y7⟩ := txt_var QT.out))
    have E := givesT_end (bytesP bs (partP ps F T ps.length)) rfl 0 BW.out QT.out (Nat.le_refl _) (Nat.lt_succ_self _) hown4
    refine ret_text rfl _ _ w.heap.size _ _ rfl E.1 rfl ?_
    rw [HR.out]
    exact E.2
  · have HR : Hid (cutS (bytesP bs ps) (labsP ps) f t = (([], []), 2)) := by
      show _ = _
      unfold cutS
      rw [HBL.out, if_neg hw]
    have HW := Lib.hid (decide_eq_false hw)
    clear hw
    go_wp2_with (first
      | (go_at_call 21; refine (pieUsable_yes g _ x0).mono ?_; rintro e w1 ⟨rfl, rfl⟩)
      | (go_at_call 22; refine (pieWithin_any g w0.heap.size A c _ _ ps f t w0 HB1.out (Nat.le_refl _) HR1.out (by omega) (by omega)).mono ?_; rw [HW.out]; rintro e w1 ⟨rfl, hb1⟩; have QT := Lib.hid (Q0.out.1.below hb1 (by rw [HZ.out]; omega)); have BW : Hid (Below w.heap.size w w1) := Q0.out.2.trans (hb1.mono (by rw [HZ.out]; omega)); clear hb1 x0 x3; obtain ⟨y4, y5, y6, y7⟩ := txt_var QT.out))
    have E := givesT_end (l := []) [] rfl 2 BW.out QT.out (Nat.le_refl _) (Nat.lt_succ_self _) (World.ownsRow_nil _ _ _ _)
    refine ret_text rfl _ _ w.heap.size _ _ rfl E.1 rfl ?_
    rw [HR.out]
    exact E.2
end Go.Proofs.Ytacpfkkbjibmgaa
