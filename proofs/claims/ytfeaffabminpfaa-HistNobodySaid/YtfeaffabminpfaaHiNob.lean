/-
  A history that no call made: what it answers: layer 8.
-/
import Derived.Test.YtfeaffabminpfaaHiHx
namespace Go.Proofs.Ytfeaffabminpfaa
open Go.RowKit

/-- no history: nil, or a history that no call made -/
def NobH (w : World) (v : Value) : Prop := v = .pointer none ∨ ∃ g, v = .pointer (some ⟨g, 0, none⟩) ∧ Blk w g 67 #[.int .i64 0, .int .i64 0, .int .i64 0, .map none]
theorem grow_nobH {w : World} {v : Value} (h : NobH w v) : Grow w (fun w' => NobH w' v) := fun _ hb => by
  rcases h with h | ⟨g, e, hg⟩
  · exact .inl h
  · exact .inr ⟨g, e, hg.below hb hg.lt⟩
theorem nobHUsable_any {w : World} {v : Value} (h : NobH w v) : Calls Try.prog 31 #[v] w fun e w' => e = .returned (.bool false) ∧ w' = w := by
  rcases h with rfl | ⟨g, rfl, hg⟩
  · exact hiUsable_nil w
  · exact hiUsable_zero hg
theorem nobHNow_any {w : World} {v : Value} (h : NobH w v) : Calls Try.prog 19 #[v] w fun e w' => e = .returned (.int .i64 0) ∧ w' = w := by
  have H := Lib.hid h
  clear h
  go_enter Try.func19, Try.ntmps19
  go_wp2_with (go_at_call 31; refine (nobHUsable_any H.out).mono ?_; rintro e w1 ⟨rfl, rfl⟩)
  go_ret
  exact ⟨rfl, rfl⟩
theorem nobHStates_any {w : World} {v : Value} (h : NobH w v) : Calls Try.prog 21 #[v] w fun e w' => e = .returned (.slice none 0 0) ∧ w' = w := by
  have H := Lib.hid h
  clear h
  go_enter Try.func21, Try.ntmps21
  go_wp2_with (go_at_call 31; refine (nobHUsable_any H.out).mono ?_; rintro e w1 ⟨rfl, rfl⟩)
  go_ret
  exact ⟨rfl, rfl⟩
theorem nobHPath_any {w : World} {v : Value} (h : NobH w v) : Calls Try.prog 23 #[v] w fun e w' => e = .returned (.slice none 0 0) ∧ w' = w := by
  have H := Lib.hid h
  clear h
  go_enter Try.func23, Try.ntmps23
  go_wp2_with (go_at_call 31; refine (nobHUsable_any H.out).mono ?_; rintro e w1 ⟨rfl, rfl⟩)
  go_ret
  exact ⟨rfl, rfl⟩
theorem nobHCopy_any {w : World} {v : Value} (h : NobH w v) : Calls Try.prog 29 #[v] w fun e w' => e = .returned (.pointer none) ∧ w' = w := by
  have H := Lib.hid h
  clear h
  go_enter Try.func29, Try.ntmps29
  go_wp2_with (go_at_call 31; refine (nobHUsable_any H.out).mono ?_; rintro e w1 ⟨rfl, rfl⟩)
  go_ret
  exact ⟨rfl, rfl⟩
set_option maxHeartbeats 1000000 in
theorem nobHAdd_any {w : World} {v : Value} (h : NobH w v) (a : Int) (s x : ByteArray) (A B : Option Addr) (n c m d : Nat) :
    Calls Try.prog 17 #[v, .agg #[.int .i64 a, .string s, .slice A n c, .string x, .slice B m d]] w fun e w' => e = .returned (.tuple #[.int .i64 0, .int .i64 1]) ∧ Below w.heap.size w w' := by
  have K := Lib.hid ((bel_box (Below.refl w.heap.size w) (.cells #[.int .i64 a, .string s, .slice A n c, .string x, .slice B m d] 34)).and ((grow_nobH h).alloc _))
  clear h
  go_enter Try.func17, Try.ntmps17
  go_wp2_with (go_at_call 31; refine (nobHUsable_any K.out.now.2).mono ?_; rintro e w1 ⟨rfl, rfl⟩)
  go_ret2
  exact ⟨rfl, K.out.now.1⟩
set_option maxHeartbeats 1000000 in
theorem nobHUndo_any {w : World} {v : Value} (h : NobH w v) : Calls Try.prog 12 #[v] w (NoneE w 1) := by
  have K := Lib.hid ((blk_box (T := 34) (cs := #[.int .i64 0, .string ⟨#[]⟩, .slice none 0 0, .string ⟨#[]⟩, .slice none 0 0]) w).and ((bel_box (Below.refl w.heap.size w) _).and ((grow_nobH h).alloc _)))
  clear h
  go_enter Try.func12, Try.ntmps12
  go_upto_region 1 with fail
  generalize w.alloc (.cells #[.int .i64 0, .string ⟨#[]⟩, .slice none 0 0, .string ⟨#[]⟩, .slice none 0 0] 34) = wb at *
  obtain ⟨⟨u0, u1, u2, u3, u4⟩, u5, u6, u7, u8, u9⟩ := ed_var K.out.now.1
  go_wp2_with (go_at_call 31; refine (nobHUsable_any K.out.now.2.2).mono ?_; rintro e w1 ⟨rfl, rfl⟩)
  have E := blk_five K.out.now.1 (.int .i64 0) (.string ⟨#[]⟩) (.slice none 0 0) (.string ⟨#[]⟩) (.slice none 0 0)
  refine ret_edit rfl _ _ w.heap.size _ _ _ _ _ rfl E rfl ?_
  exact ⟨rfl, below_five K.out.now.2.1 (Nat.le_refl _) _ _ _ _ _⟩
set_option maxHeartbeats 1000000 in
theorem nobHRedo_any {w : World} {v : Value} (h : NobH w v) : Calls Try.prog 15 #[v] w (NoneE w 1) := by
  have K := Lib.hid ((blk_box (T := 34) (cs := #[.int .i64 0, .string ⟨#[]⟩, .slice none 0 0, .string ⟨#[]⟩, .slice none 0 0]) w).and ((bel_box (Below.refl w.heap.size w) _).and ((grow_nobH h).alloc _)))
  clear h
  go_enter Try.func15, Try.ntmps15
  go_upto_region 1 with fail
  generalize w.alloc (.cells #[.int .i64 0, .string ⟨#[]⟩, .slice none 0 0, .string ⟨#[]⟩, .slice none 0 0] 34) = wb at *
  obtain ⟨⟨u0, u1, u2, u3, u4⟩, u5, u6, u7, u8, u9⟩ := ed_var K.out.now.1
  go_wp2_with (go_at_call 31; refine (nobHUsable_any K.out.now.2.2).mono ?_; rintro e w1 ⟨rfl, rfl⟩)
  have E := blk_five K.out.now.1 (.int .i64 0) (.string ⟨#[]⟩) (.slice none 0 0) (.string ⟨#[]⟩) (.slice none 0 0)
  refine ret_edit rfl _ _ w.heap.size _ _ _ _ _ rfl E rfl ?_
  exact ⟨rfl, below_five K.out.now.2.1 (Nat.le_refl _) _ _ _ _ _⟩
end Go.Proofs.Ytfeaffabminpfaa
