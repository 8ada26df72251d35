/-
  The landed copied: layer 7.
-/
import Derived.Test.YtfeaffabminpfaaEdiWords
import Derived.Test.YtfeaffabminpfaaPieMem
import Derived.Lib.SliceRun
namespace Go.Proofs.Ytfeaffabminpfaa
open Go.RowKit

theorem flatR_cell (l : List RunP) : ∀ u ∈ flatR l, u.oneCell' = true := by
  intro u hu
  unfold flatR at hu
  obtain ⟨r, _, hr⟩ := List.mem_flatMap.1 hu
  simp at hr
  rcases hr with rfl | rfl <;> rfl
/-- the row that an append to nothing makes -/
theorem clone_row (w : World) (A : Option Addr) (c : Nat) (l : List RunP) (hl : l.length ≤ 1000000) (h0 : l ≠ []) (h : Row w w.heap.size A (flatR l)) :
    ∃ v' w', (∀ ty, (Builtin.append_ #[30, 30] ty #[.slice (some ⟨w.heap.size, 0, none⟩) 0 0, .slice A l.length c]).run Try.prog (w.alloc (.cells #[] 71)) = .ok v' w') ∧ w'.ownsRow w.heap.size 71 2 v' l.length (flatR l) ∧ Below w.heap.size w w' := by
  obtain ⟨i, hi, hz, h1, h2⟩ := info_parts elt_run.hi
  have hr : Row (w.alloc (.cells #[] 71)) w.heap.size A (flatR l) := h.alloc (Nat.le_refl _) _
  have hs : Src Try.prog 2 30 (.slice A l.length c) l.length (flatR l) (w.alloc (.cells #[] 71)) := Src.ofRow elt_run.ht (flatR_len l) (by decide) hr (flatR_cell l)
  have hpos : 0 < l.length := List.length_pos_iff.2 h0
  obtain ⟨v', w', e, ho, hg⟩ := run_append_full (P := Try.prog) 30 30 30 71 i _ 2 16 elt_run.ht hi hz h1 h2 elt_run.hz (by decide) 0 0 (some ⟨w.heap.size, 0, none⟩) [] rfl (.inl rfl) (.slice A l.length c) l.length hpos (flatR l) hs (by unfold maxLen; omega) (by omega)
  rw [Nat.zero_add, List.nil_append] at ho
  refine ⟨v', w', fun ty => ?_, own_base ho (by simp), ((Below.refl _ w).alloc (Nat.le_refl _) _).trans ⟨hg.os, hg.tape, hg.output, by have := hg.size; simp at this ⊢; omega, fun k hk => hg.block k (by simp; omega) (by simp)⟩⟩
  exact e

set_option maxHeartbeats 1000000 in
theorem ediClone_any (A : Option Addr) (c : Nat) (l : List RunP) (hl : l.length ≤ 1000000) (w : World) (h : Row w w.heap.size A (flatR l)) :
    Calls Try.prog 51 #[.slice A l.length c] w fun e w' => ∃ A' c', e = .returned (.slice A' l.length c') ∧
      w'.ownsRow w.heap.size 71 2 (.slice A' l.length c') l.length (flatR l) ∧ Below w.heap.size w w' := by
  have HH := Lib.hid h
  clear h
  have qT : ∀ (w : World) (a : Option Addr) (n c n' c' : Nat), (binOp .eql 30 (.slice a n c) (.slice none n' c')).run Try.prog w = .ok (.bool a.isNone) w := fun w a n c n' c' => Lib.run_eql_slice_nil w _ _ a n c n' c' Try.underlying30
  rcases A with _ | ad
  · obtain rfl : l = [] := by
      rcases HH.out with h | ⟨ad, h, _⟩
      · have := congrArg List.length h
        rw [flatR_len] at this
        exact List.eq_nil_of_length_eq_zero (by simp at this; omega)
      · cases h
    go_enter Try.func51, Try.ntmps51
    go_wp2_with fail
    go_ret
    exact ⟨none, 0, rfl, World.ownsRow_nil _ _ _ _, Below.refl _ _⟩
  · by_cases h0 : l = []
    · subst h0
      go_enter Try.func51, Try.ntmps51
      go_wp2_with fail
      go_ret
      exact ⟨_, _, rfl, ⟨rfl, .inr ⟨w.heap.size, 0, #[], rfl, Nat.le_refl _, heap_alloc_new w _, Nat.le_refl _, Nat.zero_le _, rfl, rfl⟩⟩, (Below.refl _ w).alloc (Nat.le_refl _) _⟩
    · obtain ⟨v', w', e, ho, hb⟩ := clone_row w (some ad) c l hl h0 HH.out
      obtain ⟨A', c', rfl⟩ := own_form ho
      have HE := Lib.hid e
      clear e
      go_enter Try.func51, Try.ntmps51
      go_wp2_with (at_builtin; refine wpList_append_eq rfl (.tmp 5) (.tmp 6) 30 30 rfl _ _ rfl rfl (HE.out _) ?_)
      go_ret
      exact ⟨A', c', rfl, ho, hb⟩

theorem two_text (w : World) (s v : Value) : Blk ((w.alloc (.cells #[s, v] 32)).alloc (.cells #[.string ⟨#[]⟩, .slice none 0 0] 32)) (w.heap.size + 1) 32 #[.string ⟨#[]⟩, .slice none 0 0] := by
  have := Blk.new (w.alloc (.cells #[s, v] 32)) 32 #[.string ⟨#[]⟩, .slice none 0 0]
  simpa using this
set_option maxHeartbeats 1000000 in
theorem ediCopied_any (A : Option Addr) (c : Nat) (S : List UInt8) (l : List RunP) (hl : l.length ≤ 1000000) (w : World) (h : Txu w A S l) :
    Calls Try.prog 50 #[.agg #[.string ⟨S.toArray⟩, .slice A l.length c]] w (GivesT1 w S l) := by
  have K := Lib.hid (((blk_box (T := 32) (cs := #[.string ⟨S.toArray⟩, .slice A l.length c]) w).alloc (.cells #[.string ⟨#[]⟩, .slice none 0 0] 32)).and ((grow_blk (two_text w (.string ⟨S.toArray⟩) (.slice A l.length c))).and (((bel_box (Below.refl w.heap.size w) (.cells #[.string ⟨S.toArray⟩, .slice A l.length c] 32)).alloc (.cells #[.string ⟨#[]⟩, .slice none 0 0] 32)).and (((grow_txu h).alloc (.cells #[.string ⟨S.toArray⟩, .slice A l.length c] 32)).alloc (.cells #[.string ⟨#[]⟩, .slice none 0 0] 32)))))
  clear h
  go_enter Try.func50, Try.ntmps50
  go_wp2_with fail
  generalize (w.alloc (.cells #[.string ⟨S.toArray⟩, .slice A l.length c] 32)).alloc (.cells #[.string ⟨#[]⟩, .slice none 0 0] 32) = wb at *
  have K0 : Hid (wb.cell? ⟨w.heap.size, 0, none⟩ = some (.string ⟨S.toArray⟩) ∧ wb.cell? ⟨w.heap.size, 1, none⟩ = some (.slice A l.length c)) := txt_cells K.out.now.1
  have KD : Hid (Grow wb.drew _) := K.out.drewN 1
  have Z : Hid (w.heap.size + 1 < wb.heap.size) := K.out.now.2.1.lt
  go_region_held3 (fun w' => w'.cell? ⟨w.heap.size, 0, none⟩ = some (.string ⟨S.toArray⟩) ∧ w'.cell? ⟨w.heap.size, 1, none⟩ = some (.slice A l.length c))
    (first
      | exact K0.out
      | exact K3.out
      | exact K4.out)
    (first | (go_at_call 51; refine (ediClone_any A c l hl wb.drew KD.out.now.2.2.2.row).mono ?_; rintro e w3 ⟨A3, c3, rfl, own3, bb⟩; have KE := Lib.hid (KD.out.step bb); have K3 : Hid (w3.cell? ⟨w.heap.size, 0, none⟩ = some (.string ⟨S.toArray⟩) ∧ w3.cell? ⟨w.heap.size, 1, none⟩ = some (.slice A l.length c)) := txt_cells KE.out.now.1; obtain ⟨y0, y1, y2, y3⟩ := txt_var KE.out.now.2.1; have own4 : w3.ownsRow wb.heap.size 71 2 (.slice A3 l.length c3) l.length (flatR l) := own3; have HO := Lib.hid own4; have K4 : Hid (((w3.setCell ⟨w.heap.size + 1, 0, none⟩ (.string ⟨S.toArray⟩)).setCell ⟨w.heap.size + 1, 1, none⟩ (.slice A3 l.length c3)).cell? ⟨w.heap.size, 0, none⟩ = some (.string ⟨S.toArray⟩) ∧ ((w3.setCell ⟨w.heap.size + 1, 0, none⟩ (.string ⟨S.toArray⟩)).setCell ⟨w.heap.size + 1, 1, none⟩ (.slice A3 l.length c3)).cell? ⟨w.heap.size, 1, none⟩ = some (.slice A l.length c)) := txt_cells ((KE.out.now.1.far (p := ⟨w.heap.size + 1, 0, none⟩) (by show w.heap.size ≠ w.heap.size + 1; omega) _).far (p := ⟨w.heap.size + 1, 1, none⟩) (by show w.heap.size ≠ w.heap.size + 1; omega) _); clear own3 own4 bb))
  go_wp2
  refine ret_text1 rfl _ _ (w.heap.size + 1) _ _ rfl (blk_two KE.out.now.2.1 _ _) rfl ?_
  have z := Z.out
  have hk : w.heap.size + 1 < wb.heap.size := z
  refine ⟨A3, c3, rfl, own_base (own_away (own_away HO.out (p := ⟨w.heap.size + 1, 0, none⟩) hk _) (p := ⟨w.heap.size + 1, 1, none⟩) hk _) (by omega), (KE.out.now.2.2.1.setCell (by show w.heap.size ≤ w.heap.size + 1; omega) _).setCell (by show w.heap.size ≤ w.heap.size + 1; omega) _⟩
end Go.Proofs.Ytfeaffabminpfaa
