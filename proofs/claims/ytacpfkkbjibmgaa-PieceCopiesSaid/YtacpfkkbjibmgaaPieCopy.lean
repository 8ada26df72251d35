/-
  The landed store: Copy: layer 5.
-/
import Derived.Test.YtacpfkkbjibmgaaPiePutD
namespace Go.Proofs.Ytacpfkkbjibmgaa
open Go.RowKit

/-- a full row is known whole -/
theorem own_blk {w : World} {b g n : Nat} {xs : List Value} (h : w.ownsRow b 73 3 (.slice (some ⟨g, 0, none⟩) n n) n xs) : Blk w g 73 xs.toArray := by
  rcases h.2 with ⟨h0, _⟩ | ⟨g1, c1, cur, h0, _, hh, _, _, hs, ht⟩
  · cases h0
  · injection h0 with a b c
    injection a with a
    injection a with a
    subst a c
    rw [List.take_of_length_le (by rw [Array.length_toList, hs]; exact Nat.le_refl _)] at ht
    rw [← ht, Array.toArray_toList]
    exact hh
/-- the copied pieces -/
theorem copy_pieces {w w1 : World} {ps : List PieP} {v : Value} {xs : List Value} (hown : w1.ownsRow w.heap.size 73 3 (.slice (some ⟨w.heap.size, 0, none⟩) ps.length ps.length) ps.length xs) (hg : w.grownBy w1 none) (hp : w.ownsRow 0 73 3 v ps.length (flatP ps)) :
    ∃ w2, (∀ ty dc, (Builtin.copy_ #[52, 52] ty #[.slice (some ⟨w.heap.size, 0, none⟩) ps.length dc, v]).run Try.prog w1 = .ok (goInt ps.length) w2) ∧ w2.ownsRow w.heap.size 73 3 (.slice (some ⟨w.heap.size, 0, none⟩) ps.length ps.length) ps.length (flatP ps) ∧ Below w.heap.size w w2 := by
  have hb : Below w.heap.size w w1 := ⟨hg.os, hg.tape, hg.output, hg.size, fun k hk => hg.block k hk (by simp)⟩
  have hk := own_blk hown
  have hl : xs.length = ps.length * 3 := hown.1
  have e : splice xs 0 (flatP ps) = flatP ps := by unfold splice; simp; rw [flatP_len]; omega
  refine ⟨w1.setRow w.heap.size (flatP ps).toArray, fun ty dc => ?_, ⟨flatP_len ps, .inr ⟨w.heap.size, ps.length, (flatP ps).toArray, rfl, Nat.le_refl _, hk.setRow _, Nat.le_refl _, ?_, ?_, ?_⟩⟩, below_setRow hb (Nat.le_refl _) _⟩
  · have := run_copy_own (ty := ty) (dCap := dc) (dLen := ps.length) (o := 0) (own_keep hp hb (Nat.le_refl _)) hk (Nat.le_refl _) (by omega) (flatP_cell ps)
    rw [e] at this
    exact this
  · rcases hown.2 with ⟨h0, _⟩ | ⟨g1, c1, cur, h0, _, _, _, hm, _, _⟩
    · cases h0
    · injection h0 with a b c
      omega
  · rw [List.size_toArray, flatP_len]
  · rw [List.toList_toArray, List.take_of_length_le (by rw [flatP_len]; exact Nat.le_refl _)]

set_option maxHeartbeats 2000000 in
theorem pieCopy_any (P : Nat → Prop) (g most : Nat) (vb vp : Value) (bs : List UInt8) (ps : List PieP) (w : World) (h : StoW w P g most vb vp bs ps) :
    Calls Try.prog 19 #[.pointer (some ⟨g, 0, none⟩)] w fun e w' => ∃ g', e = .returned (.pointer (some ⟨g', 0, none⟩)) ∧ w.heap.size ≤ g' ∧ Below w.heap.size w w' ∧
      ∃ vb' vp', StoW w' (fun k => w.heap.size ≤ k ∧ k < w'.heap.size) g' most vb' vp' bs ps := by
  have hl := h.len
  have HH := Lib.hid h
  obtain ⟨A0, c0, hvp⟩ := own_form h.pcs
  obtain ⟨Ab, cb, hvb, hcb, hrb⟩ := h.buf.form
  have hcap : ps.length ≤ c0 := by have := h.pcs; rw [hvp] at this; exact own_cap this
  have HBK : Hid (∀ k, (Value.slice Ab bs.length bs.length).ownBlock = some k → k < w.heap.size ∧ ∃ cs, Blk w k 5 cs) := fun k hk => by
    have hk' : vb.ownBlock = some k := by rw [hvb]; cases Ab <;> exact hk
    rcases h.buf with ⟨ho, _⟩ | ⟨A1, e1, _, hn⟩
    · exact ⟨(ho.lt k hk').2, own_tag ho hk'⟩
    · exact ⟨(hn k hk').1, (hn k hk').2.2⟩
  have HRB := Lib.hid hrb
  have hB1 : Blk w g 54 #[.bool true, .int .i64 (most : Nat), .slice Ab bs.length cb, .slice A0 ps.length c0] := by rw [← hvb, ← hvp]; exact h.blk
  have HB1 := Lib.hid hB1
  have HPO : Hid (w.ownsRow 0 73 3 (.slice A0 ps.length c0) ps.length (flatP ps)) := by rw [← hvp]; exact h.pcs
  obtain ⟨x0, x1, x2, x3⟩ := sto_cells hB1
  have hgl := hB1.lt
  have hbs := h.blen
  obtain ⟨i0, hi0, hz, hi1, hi2⟩ := info_parts elt_pie.hi
  clear h hvp hvb hrb hB1
  go_enter Try.func19, Try.ntmps19
  go_wp2_with (first
    | (go_at_call 21; refine (pieUsable_yes g _ x0).mono ?_; rintro e w1 ⟨rfl, rfl⟩)
    | (at_make; refine wpList_make_full _ rfl _ _ 52 rfl w.heap.size 73 i0 (.agg #[.int .i64 0, .int .i64 0, .int .u64 0]) 3 Try.underlying52 hi0 hz hi1 _ _ _ _ ps.length rfl rfl rfl rfl (by rw [hi2]; omega) (by unfold maxLen; omega) (Nat.le_refl _) ?_; intro w1 hown1 hgr1; obtain ⟨w2, hcp, hown2, hb2⟩ := copy_pieces hown1 hgr1 HPO.out; have HCP := Lib.hid hcp; have HO2 := Lib.hid hown2; have HB2 := Lib.hid hb2; have G1 : Blk w1 g 54 #[.bool true, .int .i64 (most : Nat), .slice Ab bs.length cb, .slice A0 ps.length c0] := (hgr1.block g hgl (by simp)).trans HB1.out; have G2 := Lib.hid (HB1.out.below hb2 hgl); clear hcp hown2 hb2 hown1 hgr1 x0 x1 x2 x3; have x3 := (sto_cells G1).2.2.2)
    | ((with_reducible refine at_copy (.tmp 14) (.tmp 18) 52 52 ?_); refine wpList_copy_eq rfl (.tmp 14) (.tmp 18) 52 52 rfl _ _ rfl rfl (HCP.out _ _) ?_; clear x3 G1; obtain ⟨_, x1, x2, _⟩ := sto_cells G2.out))
  have b1 : (0 : Int) ≤ (bs.length : Int) := by omega
  have b2 : (bs.length : Int) ≤ (bs.length : Int) := Int.le_refl _
  have b3 : (bs.length : Int) ≤ (cb : Int) := by omega
  refine wp_region_still_tail 13 (by kernel_rfl) (by kernel_rfl) ?_
  simp only [List.take_succ_cons, List.take_zero, List.drop_succ_cons, List.drop_zero]
  change wpStill _ _ (World.drew w2) (fun a' => wpList _ _ _ _ a' (World.drew w2)) _ _
  have hz2 : w2.drew.heap.size = w2.heap.size := rfl
  have x1' : w2.drew.cell? ⟨g, 1, none⟩ = some (.int .i64 (most : Nat)) := x1
  have x2' : w2.drew.cell? ⟨g, 2, none⟩ = some (.slice Ab bs.length cb) := x2
  have HO3 := Lib.hid (own_keep HO2.out (below_drewN (Below.refl _ w2) 1) (Nat.le_refl _))
  have HB3 : Hid (Below w.heap.size w w2.drew) := below_drewN HB2.out 1
  have HO4 : Hid (w2.drew.ownsRow w.heap.size 73 3 (.slice (some ⟨w.heap.size, 0, none⟩) ps.length ps.length) ps.length (flatP ps)) := HO3.out
  clear HO3 HO2 HB2 G2 x1 x2 HCP hz2
  generalize w2.drew = w3 at *
  repeat still_step
  refine wpStill_nil ?_
  go_wp2
  go_ret
  have hz3 := HB3.out.size
  have hb4 : Below w3.heap.size w3 (w3.alloc (.cells #[.bool true, .int .i64 (most : Nat), .slice Ab bs.length bs.length, .slice (some ⟨w.heap.size, 0, none⟩) ps.length ps.length] 54)) := (Below.refl _ _).alloc (Nat.le_refl _) _
  have hb5 := HB3.out.trans (hb4.mono hz3)
  have hw5 : (w3.alloc (.cells #[.bool true, .int .i64 (most : Nat), .slice Ab bs.length bs.length, .slice (some ⟨w.heap.size, 0, none⟩) ps.length ps.length] 54)).heap.size = w3.heap.size + 1 := by simp
  refine ⟨w3.heap.size, rfl, hz3, hb5, .slice Ab bs.length bs.length, .slice (some ⟨w.heap.size, 0, none⟩) ps.length ps.length, ⟨Blk.new _ _ _, ⟨hz3, by omega⟩, .inr ⟨Ab, rfl, ?_, fun k hk => ?_⟩, own_base (own_keep HO4.out hb4 (Nat.le_refl _)) (Nat.zero_le _), fun k hk => ?_, HH.out.ok, HH.out.max, HH.out.most4, HH.out.blen⟩⟩
  · exact RowF.of_row (HRB.out.below hb5) (by omega) (fun k hk h => by omega)
  · obtain ⟨h1, cs, h2⟩ := HBK.out k hk
    exact ⟨by omega, fun h => by omega, cs, h2.below hb5 h1⟩
  · have := HO4.out.lt k hk
    exact ⟨this.1, by omega⟩
end Go.Proofs.Ytacpfkkbjibmgaa
