/-
  A store that no call made: what it answers: layer 5.
-/
import Derived.Test.YtacpfkkbjibmgaaPieSays
namespace Go.Proofs.Ytacpfkkbjibmgaa
open Go.RowKit

/-- no store: nil, or a store that no call made -/
def Nob (w : World) (v : Value) : Prop := v = .pointer none ∨ ∃ g, v = .pointer (some ⟨g, 0, none⟩) ∧ Blk w g 54 #[.bool false, .int .i64 0, .slice none 0 0, .slice none 0 0]
theorem Nob.below {w w' : World} {v : Value} {B : Nat} (h : Nob w v) (hb : Below B w w') (hB : w.heap.size ≤ B) : Nob w' v := by
  rcases h with h | ⟨g, e, hg⟩
  · exact .inl h
  · exact .inr ⟨g, e, hg.below hb (Nat.lt_of_lt_of_le hg.lt hB)⟩
theorem Nob.alloc {w : World} {v : Value} (h : Nob w v) (o : Obj) : Nob (w.alloc o) v := by
  rcases h with h | ⟨g, e, hg⟩
  · exact .inl h
  · exact .inr ⟨g, e, hg.alloc o⟩
theorem nobUsable_any {w : World} {v : Value} (h : Nob w v) : Calls Try.prog 21 #[v] w fun e w' => e = .returned (.bool false) ∧ w = w' := by
  rcases h with rfl | ⟨g, rfl, hg⟩
  · exact pieUsable_nil w
  · exact pieUsable_zero g w (sto_cells hg).1

theorem nobLen_any {w : World} {v : Value} (h : Nob w v) : Calls Try.prog 17 #[v] w fun e w' => e = .returned (.int .i64 0) ∧ w = w' := by
  have H := Lib.hid h
  clear h
  go_enter Try.func17, Try.ntmps17
  go_wp2_with (go_at_call 21; refine (nobUsable_any H.out).mono ?_; rintro e w1 ⟨rfl, rfl⟩)
  go_ret
  exact ⟨rfl, rfl⟩
theorem nobRoom_any {w : World} {v : Value} (h : Nob w v) : Calls Try.prog 18 #[v] w fun e w' => e = .returned (.int .i64 0) ∧ w = w' := by
  have H := Lib.hid h
  clear h
  go_enter Try.func18, Try.ntmps18
  go_wp2_with (go_at_call 21; refine (nobUsable_any H.out).mono ?_; rintro e w1 ⟨rfl, rfl⟩)
  go_ret
  exact ⟨rfl, rfl⟩
theorem nobCopy_any {w : World} {v : Value} (h : Nob w v) : Calls Try.prog 19 #[v] w fun e w' => e = .returned (.pointer none) ∧ w = w' := by
  have H := Lib.hid h
  clear h
  go_enter Try.func19, Try.ntmps19
  go_wp2_with (go_at_call 21; refine (nobUsable_any H.out).mono ?_; rintro e w1 ⟨rfl, rfl⟩)
  go_ret
  exact ⟨rfl, rfl⟩
theorem nobPut_any {w : World} {v : Value} (h : Nob w v) (f t : Int) (s r : Value) : Calls Try.prog 15 #[v, .int .i64 f, .int .i64 t, .agg #[s, r]] w fun e w' => e = .returned (.int .i64 1) ∧ Below w.heap.size w w' := by
  have H := Lib.hid (h.alloc (.cells #[s, r] 28))
  clear h
  go_enter Try.func15, Try.ntmps15
  go_wp2_with (go_at_call 21; refine (nobUsable_any H.out).mono ?_; rintro e w1 ⟨rfl, rfl⟩)
  go_ret
  exact ⟨rfl, (Below.refl _ _).alloc (Nat.le_refl _) _⟩
theorem nobText_any {w : World} {v : Value} (h : Nob w v) : Calls Try.prog 16 #[v] w (GivesX w [] []) := by
  have H := Lib.hid (h.alloc (.cells #[.string ⟨#[]⟩, .slice none 0 0] 28))
  have Q := Lib.hid (Blk.new w 28 #[.string ⟨#[]⟩, .slice none 0 0])
  obtain ⟨y0, y1, y2, y3⟩ := txt_var Q.out
  clear h
  go_enter Try.func16, Try.ntmps16
  go_wp2_with (go_at_call 21; refine (nobUsable_any H.out).mono ?_; rintro e w1 ⟨rfl, rfl⟩)
  exact ret_text1 rfl _ _ w.heap.size _ _ rfl Q.out rfl ⟨none, 0, rfl, World.ownsRow_nil _ _ _ _, (Below.refl _ _).alloc (Nat.le_refl _) _⟩
theorem nobCut_any {w : World} {v : Value} (h : Nob w v) (f t : Int) : Calls Try.prog 11 #[v, .int .i64 f, .int .i64 t] w (GivesT w (([], []), 1)) := by
  have H := Lib.hid (h.alloc (.cells #[.string ⟨#[]⟩, .slice none 0 0] 28))
  have Q := Lib.hid (Blk.new w 28 #[.string ⟨#[]⟩, .slice none 0 0])
  obtain ⟨y0, y1, y2, y3⟩ := txt_var Q.out
  clear h
  go_enter Try.func11, Try.ntmps11
  go_wp2_with (go_at_call 21; refine (nobUsable_any H.out).mono ?_; rintro e w1 ⟨rfl, rfl⟩)
  exact ret_text rfl _ _ w.heap.size _ _ rfl Q.out rfl (givesT_nil (n := 1) ((Below.refl _ _).alloc (Nat.le_refl _) _))
end Go.Proofs.Ytacpfkkbjibmgaa
