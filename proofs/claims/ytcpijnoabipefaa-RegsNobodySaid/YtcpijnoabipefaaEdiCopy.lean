/-
  The landed copied: layer 7.
-/
import Derived.Test.YtcpijnoabipefaaEdiWords
import Derived.Test.YtcpijnoabipefaaPieMem
import Derived.Lib.SliceRun
namespace Go.Proofs.Ytcpijnoabipefaa
open Go.RowKit

theorem flatR_cell (l : List RunP) : ∀ u ∈ flatR l, u.oneCell' = true := by
  intro u hu
  unfold flatR at hu
  obtain ⟨r, _, hr⟩ := List.mem_flatMap.1 hu
  simp at hr
  rcases hr with rfl | rfl <;> rfl
/-- the row that an append to nothing makes -/
theorem clone_row (w : World) (A : Option Addr) (c : Nat) (l : List RunP) (hl : l.length ≤ 1000000) (h0 : l ≠ []) (h : Row w w.heap.size A (flatR l)) :
    ∃ v' w', (∀ ty, (Builtin.append_ #[27, 27] ty #[.slice (some ⟨w.heap.size, 0, none⟩) 0 0, .slice A l.length c]).run Try.prog (w.alloc (.cells #[] 58)) = .ok v' w') ∧ w'.ownsRow w.heap.size 58 2 v' l.length (flatR l) ∧ Below w.heap.size w w' := by
  obtain ⟨i, hi, hz, h1, h2⟩ := info_parts elt_run.hi
  have hr : Row (w.alloc (.cells #[] 58)) w.heap.size A (flatR l) := h.alloc (Nat.le_refl _) _
  have hs : Src Try.prog 2 27 (.slice A l.length c) l.length (flatR l) (w.alloc (.cells #[] 58)) := Src.ofRow elt_run.ht (flatR_len l) (by decide) hr (flatR_cell l)
  have hpos : 0 < l.length := List.length_pos_iff.2 h0
  obtain ⟨v', w', e, ho, hg⟩ := run_append_full (P := Try.prog) 27 27 27 58 i _ 2 16 elt_run.ht hi hz h1 h2 elt_run.hz (by decide) 0 0 (some ⟨w.heap.size, 0, none⟩) [] rfl (.inl rfl) (.slice A l.length c) l.length hpos (flatR l) hs (by unfold maxLen; omega) (by omega)
  rw [Nat.zero_add, List.nil_append] at ho
  refine ⟨v', w', fun ty => ?_, own_base ho (by simp), ((Below.refl _ w).alloc (Nat.le_refl _) _).trans ⟨hg.os, hg.tape, hg.output, by have := hg.size; simp at this ⊢; omega, fun k hk => hg.block k (by simp; omega) (by simp)⟩⟩
  exact e

set_option maxHeartbeats 1000000 in
theorem ediClone_any (A : Option Addr) (c : Nat) (l : List RunP) (hl : l.length ≤ 1000000) (w : World) (h : Row w w.heap.size A (flatR l)) :
    Calls Try.prog 38 #[.slice A l.length c] w fun e w' => ∃ A' c', e = .returned (.slice A' l.length c') ∧
      w'.ownsRow w.heap.size 58 2 (.slice A' l.length c') l.length (flatR l) ∧ Below w.heap.size w w' := by
  have HH := Lib.hid h
  clear h
  have qT : ∀ (w : World) (a : Option Addr) (n c n' c' : Nat), (binOp .eql 27 (.slice a n c) (.slice none n' c')).run Try.prog w = .ok (.bool a.isNone) w := fun w a n c n' c' => Lib.run_eql_slice_nil w _ _ a n c n' c' Try.underlying27
  rcases A with _ | ad
  · obtain rfl : l = [] := by
      rcases HH.out with h | ⟨ad, h, _⟩
      · have := congrArg List.length h
        rw [flatR_len] at this
        exact List.eq_nil_of_length_eq_zero (by simp at this; omega)
      · cases h
    go_enter Try.func38, Try.ntmps38
    go_wp2_with fail
    go_ret
    exact ⟨none, 0, rfl, World.ownsRow_nil _ _ _ _, Below.refl _ _⟩
  · by_cases h0 : l = []
    · subst h0
      go_enter Try.func38, Try.ntmps38
      go_wp2_with fail
      go_ret
      exact ⟨_, _, rfl, ⟨rfl, .inr ⟨w.heap.size, 0, #[], rfl, Nat.le_refl _, heap_alloc_new w _, Nat.le_refl _, Nat.zero_le _, rfl, rfl⟩⟩, (Below.refl _ w).alloc (Nat.le_refl _) _⟩
    · obtain ⟨v', w', e, ho, hb⟩ := clone_row w (some ad) c l hl h0 HH.out
      obtain ⟨A', c', rfl⟩ := own_form ho
      have HE := Lib.hid e
      clear e
      go_enter Try.func38, Try.ntmps38
      go_wp2_with (at_builtin; refine wpList_append_eq rfl (.tmp 5) (.tmp 6) 27 27 rfl _ _ rfl rfl (HE.out _) ?_)
      go_ret
      exact ⟨A', c', rfl, ho, hb⟩

theorem two_text (w : World) (s v : Value) : Blk ((w.alloc (.cells #[s, v] 29)).alloc (.cells #[.string ⟨#[]⟩, .slice none 0 0] 29)) (w.heap.size + 1) 29 #[.string ⟨#[]⟩, .slice none 0 0] := by
  have := Blk.new (w.alloc (.cells #[s, v] 29)) 29 #[.string ⟨#[]⟩, .slice none 0 0]
  simpa using this
end Go.Proofs.Ytcpijnoabipefaa
