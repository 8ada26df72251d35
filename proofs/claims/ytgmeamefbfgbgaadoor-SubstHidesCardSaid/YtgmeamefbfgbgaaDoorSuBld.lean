/-
  A strings.Builder of the call's own: what WriteString leaves alone: layer 15.
-/
import Derived.Test.YtgmeamefbfgbgaaDoorKeyBld
import Derived.Test.YtgmeamefbfgbgaaDoorM03o
namespace Go.Proofs.YtgmeamefbfgbgaaDoor
open Go.RowKit

set_option maxHeartbeats 1000000 in
set_option maxRecDepth 100000 in
theorem bldCheck2_any (B b : Nat) (l : List UInt8) (w : World) (h : BldIs B b l w) :
    Calls Tryd.prog 83 #[.pointer (some ⟨b, 0, none⟩)] w fun e w' => e = .returned (.tuple #[]) ∧ Lib.BuilderAt 103 5 B b (.pointer (some ⟨b, 0, none⟩)) (Lib.byteCells l) w' ∧ Below B w w' ∧ (∀ k, k ≠ b → w'.heap[k]? = w.heap[k]?) := by
  obtain ⟨j, hj, hjs⟩ := Option.map_eq_some_iff.1 bld_extra.sizeBuilder
  rcases h with h | h
  · have h0 := h.cell0
    have hsh := h.shape
    have hfz := h.frozen0
    have H := Lib.hid h
    clear h
    go_enter Tryd.func83, Tryd.ntmps83
    go_wp2
    rw [Lib.run_to_unsafe w ⟨b, 0, none⟩ Tryd.underlying101 Tryd.underlying135 hj (by rw [hjs]; decide) hsh (Nat.zero_lt_succ 1)]
    simp only [Result.andThen]
    rw [Oper.upon_value]
    go_wp2
    rw [run_callFunc_extern Tryd.func96 (by kernel_rfl) (by kernel_rfl) (by kernel_rfl) (e := Extern.AbiNoEscape.same) (by kernel_rfl)]
    rw [Lib.run_noEscape]
    simp only [Result.andThen]
    rw [Oper.upon_value]
    go_wp2
    rw [Lib.run_from_unsafe w ⟨b, 0, none⟩ Tryd.underlying135 Tryd.underlying101 hj hsh bld_extra.liesBuilder]
    simp only [Result.andThen]
    rw [Oper.upon_value]
    go_wp2
    go_end0
    exact ⟨rfl, H.out.used _, (Below.refl B w).setCell (p := ⟨b, 0, none⟩) H.out.1 _, fun k hk => heap_setCell_other _ ⟨b, 0, none⟩ k _ hk⟩
  · have h0 := h.cell0
    have H := Lib.hid h
    clear h
    go_enter Tryd.func83, Tryd.ntmps83
    go_wp2
    rw [Lib.run_neq_ptr_same w _ Tryd.underlying101 hj]
    go_wp2
    go_end0
    exact ⟨rfl, H.out, Below.refl B _, fun _ _ => rfl⟩
set_option maxHeartbeats 2000000 in
set_option maxRecDepth 100000 in
theorem bldWrite2_any (B b : Nat) (l s : List UInt8) (w : World) (h : BldIs B b l w) (hlen : l.length + s.length ≤ 140737488355328) (hBw : B ≤ w.heap.size) :
    Calls Tryd.prog 62 #[.pointer (some ⟨b, 0, none⟩), .string ⟨s.toArray⟩] w fun e w' => (∃ n : Nat, e = .returned (.tuple #[.int .i64 n, .nilIface])) ∧ BldIs B b (l ++ s) w' ∧ Below B w w' ∧ (∀ k T cs, Blk w k T cs → k ≠ b → T ≠ 5 → Blk w' k T cs) := by
  obtain ⟨i0, hi, hz0, hz1, hz2⟩ := info_parts bld_extra.infoByte
  go_enter Tryd.func62, Tryd.ntmps62
  go_wp2_with (go_at_call 83; refine (bldCheck2_any B b l _ h).mono ?_)
  rintro e w1 ⟨rfl, h1, hb1, hk1⟩
  obtain ⟨hB, v, hbk, hown, hne⟩ := h1
  have HK1 := Lib.hid hk1
  clear hk1
  have HOW := Lib.hid hown
  have hsz := hb1.size
  have hlen2 : (Lib.byteCells l).length = l.length := Lib.byteCells_length l
  have c1 : w1.cell? ⟨b, 1, none⟩ = some v := by rw [Lib.cell_of_heap hbk]; rfl
  have hlt : b < w1.heap.size := by
    rcases Nat.lt_or_ge b w1.heap.size with h' | h'
    · exact h'
    · simp [Array.getElem?_eq_none h'] at hbk
  have hss : ({ data := s.toArray } : ByteArray).size = s.length := rfl
  rw [hlen2] at hown
  go_wp2_with (at_builtin; refine Lib.wpList_append_own_string _ rfl _ _ 85 9 rfl B 5 i0 Tryd.underlying85 Tryd.underlying9 hi hz0 hz1 hz2 _ _ _ rfl hown ⟨s.toArray⟩ rfl (by rw [hss]; unfold maxLen; omega) (by rw [hss]; omega) (by omega) ?_)
  intro v' w2 hown' hgrow _
  have hb2 : w2.heap[b]? = some (.cells #[.pointer (some ⟨b, 0, none⟩), v] 103 (0, 0)) := by
    rw [hgrow.block b hlt (fun e => hne e.symm)]
    exact hbk
  have d1 : w2.cell? ⟨b, 1, none⟩ = some v := by rw [Lib.cell_of_heap hb2]; rfl
  have f1 : w2.frozen? ⟨b, 1, none⟩ = false := Lib.frozen_of_heap hb2 1
  obtain ⟨ao, n', cap, rfl⟩ : ∃ ao n' cap, v' = .slice ao n' cap := by
    rcases hown'.2 with ⟨hv, _⟩ | ⟨g, cap, cur, hv, _⟩
    · exact ⟨_, _, _, hv⟩
    · exact ⟨_, _, _, hv⟩
  have H2 := Lib.hid hown'
  have G2 := Lib.hid hgrow
  clear hown' hgrow
  go_wp2
  go_ret2
  refine ⟨⟨_, rfl⟩, .inr ?_, ?_, ?_⟩
  · have hc : Lib.byteCells (l ++ s) = Lib.byteCells l ++ Lib.strCells ⟨s.toArray⟩ := Lib.byteCells_append l s
    rw [hc]
    exact Lib.BuilderAt.put (T := 103) (e := 5) hB hb2 (by have h5 := H2.out; rw [← hc] at h5 ⊢; rwa [Lib.byteCells_length, List.length_append]) (by decide)
  · exact (hb1.grown G2.out (by omega) (fun k hk => (hown.lt k hk).1)).setCell (p := ⟨b, 1, none⟩) hB _
  · intro k T cs hk hkb hT
    have e1 : Blk w1 k T cs := (HK1.out k hkb).trans hk
    have e2 : Blk w2 k T cs := (G2.out.block k e1.lt (own_notBlk HOW.out e1 hT).symm).trans e1
    exact e2.far hkb _
/-- all blocks are kept but those of two types -/
def KeptT (T1 T2 : Nat) (w w' : World) : Prop := ∀ k T cs, Blk w k T cs → T ≠ T1 → T ≠ T2 → Blk w' k T cs
theorem keptT_below {T1 T2 : Nat} {w w' : World} (h : Below w.heap.size w w') : KeptT T1 T2 w w' := fun _ _ _ hb _ _ => hb.below h hb.lt
theorem kept_freeze {w : World} {g : Nat} {cur : Array Value} (hg : Blk w g 5 cur) (n : Nat) : KeptT 5 5 w (w.drew.freeze ⟨g, 0, none⟩ n) := fun k T cs hb h1 _ => by
  have hk : k ≠ g := by
    rintro rfl
    have := hb.symm.trans hg
    simp at this
    exact h1 this.2
  show (w.drew.freeze ⟨g, 0, none⟩ n).heap[k]? = _
  unfold World.freeze
  split
  · exact hb
  · simp only [Array.getElem?_modify]
    rw [if_neg (fun e => hk e.symm)]
    exact hb
set_option maxHeartbeats 1000000 in
set_option maxRecDepth 100000 in
theorem bldString2_any (B b : Nat) (l : List UInt8) (w : World) (h : BldIs B b l w) (hBw : B ≤ w.heap.size) :
    Calls Tryd.prog 64 #[.pointer (some ⟨b, 0, none⟩)] w fun e w' => e = .returned (.string ⟨l.toArray⟩) ∧ Below B w w' ∧ KeptT 5 5 w w' := by
  obtain ⟨p, hB, v, hbk, hown, hne⟩ : ∃ p, Lib.BuilderAt 103 5 B b p (Lib.byteCells l) w := by
    rcases h with h | h
    · exact ⟨_, h⟩
    · exact ⟨_, h⟩
  by_cases h0 : l = []
  · subst h0
    have hfin : ∀ {e : Ending} {w' : World}, e = .returned (.string ⟨#[]⟩) ∧ Below w.heap.size w w' → e = .returned (.string ⟨([] : List UInt8).toArray⟩) ∧ Below B w w' ∧ KeptT 5 5 w w' := fun h => ⟨h.1, h.2.mono hBw, keptT_below h.2⟩
    rcases hown.2 with ⟨rfl, _⟩ | ⟨g, cap, cur, rfl, hbg, hg, _, _, _, _⟩
    · exact (Any.Builder_String_nil bldString bld_extra w.heap.size b p w hbk).mono fun _ _ h => hfin h
    · by_cases hc0 : cap = 0
      · subst hc0
        exact (Any.Builder_String_noroom bldString bld_extra w.heap.size b g p cur w (Nat.le_refl _) hbk hg).mono fun _ _ h => hfin h
      · exact (Any.Builder_String_room bldString bld_extra w.heap.size b g cap p w hc0 hbk).mono fun _ _ h => hfin h
  · have hl0 : l.length ≠ 0 := by simpa using h0
    rw [Lib.byteCells_length] at hown
    obtain ⟨g, cap, cur, rfl, hbg, hg, hnc, hcm, hcs, htake⟩ : ∃ g cap cur, v = .slice (some ⟨g, 0, none⟩) l.length cap ∧ B ≤ g ∧ w.heap[g]? = some (.cells cur 5 (0, 0)) ∧ l.length ≤ cap ∧ cap ≤ maxLen ∧ cur.size = cap * 1 ∧ cur.toList.take (l.length * 1) = Lib.byteCells l := by
      rcases hown.2 with ⟨_, hz⟩ | ⟨g, cap, cur, hv, r⟩
      · exact absurd hz hl0
      · exact ⟨g, cap, cur, hv, r⟩
    have c1 : w.drew.cell? ⟨b, 1, none⟩ = some (.slice (some ⟨g, 0, none⟩) l.length cap) := by
      have : w.drew.heap[b]? = some (.cells #[p, .slice (some ⟨g, 0, none⟩) l.length cap] 103 (0, 0)) := hbk
      rw [Lib.cell_of_heap this]; rfl
    have hSD : (Builtin.unsafeSliceData_ #[85] 128 #[.slice (some ⟨g, 0, none⟩) l.length cap]).run Tryd.prog w.drew = .ok (.pointer (some ⟨g, 0, none⟩)) w.drew :=
      Lib.run_unsafeSliceData_row _ _ _ _ _ _ (by omega)
    have hUS : (Builtin.unsafeString_ #[128, 3] 9 #[.pointer (some ⟨g, 0, none⟩), .int .i64 l.length]).run Tryd.prog w.drew = .ok (.string ⟨l.toArray⟩) (w.drew.freeze ⟨g, 0, none⟩ l.length) := by
      refine Lib.run_unsafeString_row w.drew 128 3 9 5 Tryd.underlying128 bld_extra.cellsByte g cur.size (by have hg' : w.drew.heap[g]? = some (.cells cur 5 (0, 0)) := hg; simp [World.shape?, hg']) l h0 (by omega) (by unfold maxLen at hcm; omega) ?_
      intro j x hx
      have := hown.cells (g := g) rfl j (.int .u8 x.toNat) (by simp [Lib.byteCells, hx])
      exact this
    have HK := Lib.hid (kept_freeze (w := w) (g := g) (cur := cur) hg l.length)
    have HBG := Lib.hid hbg
    clear hg hown hbk htake hbg
    have mixed := bldString.mixed
    go_enter Tryd.func64, Tryd.ntmps64
    go_wp2
    go_region_o
    all_goals (go_wp2; go_ret; exact ⟨rfl, Lib.below_freeze (Below.drew (Below.refl B w)) (p := ⟨g, 0, none⟩) HBG.out _, HK.out⟩)
end Go.Proofs.YtgmeamefbfgbgaaDoor
