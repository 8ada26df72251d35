/-
  Registers that no call made: what they answer: layer 9.
-/
import Derived.Test.YtcpijnoabipefaaRgDelete
namespace Go.Proofs.Ytcpijnoabipefaa
open Go.RowKit

/-- no registers: nil, or registers that no call made -/
def NobG (w : World) (v : Value) : Prop := v = .pointer none ∨ ∃ g, v = .pointer (some ⟨g, 0, none⟩) ∧ g < w.heap.size ∧ w.cell? ⟨g, 0, none⟩ = some (.bool false)
theorem grow_nobG {w : World} {v : Value} (h : NobG w v) : Grow w (fun w' => NobG w' v) := fun _ hb => by
  rcases h with h | ⟨g, e, hl, hg⟩
  · exact .inl h
  · exact .inr ⟨g, e, Nat.lt_of_lt_of_le hl hb.size, (hb.cell hl).trans hg⟩
theorem nobGUsable_any {w : World} {v : Value} (h : NobG w v) : Calls Try.prog 26 #[v] w fun e w' => e = .returned (.bool false) ∧ w' = w := by
  rcases h with rfl | ⟨g, rfl, _, hg⟩
  · exact rgUsable_nil w
  · exact rgUsable_zero hg
theorem nobGCopy_any {w : World} {v : Value} (h : NobG w v) : Calls Try.prog 15 #[v] w fun e w' => e = .returned (.pointer none) ∧ w' = w := by
  have H := Lib.hid h
  clear h
  go_enter Try.func15, Try.ntmps15
  go_wp2_with (go_at_call 26; refine (nobGUsable_any H.out).mono ?_; rintro e w1 ⟨rfl, hw⟩; subst w1)
  go_ret
  exact ⟨rfl, rfl⟩
set_option maxHeartbeats 1000000 in
theorem nobGCheck_any {w : World} {v : Value} (h : NobG w v) (n : Int) (s : ByteArray) (A : Option Addr) (k c : Nat) (b : Bool) :
    Calls Try.prog 22 #[v, .int .i32 n, .agg #[.string s, .slice A k c, .bool b]] w fun e w' => e = .returned (.int .i64 1) ∧ Below w.heap.size w w' := by
  have K := Lib.hid ((bel_box (Below.refl w.heap.size w) (.cells #[.string s, .slice A k c, .bool b] 33)).and ((grow_nobG h).alloc _))
  clear h
  go_enter Try.func22, Try.ntmps22
  go_wp2_with (go_at_call 26; refine (nobGUsable_any K.out.now.2).mono ?_; rintro e w1 ⟨rfl, hw⟩; subst w1)
  go_ret
  exact ⟨rfl, K.out.now.1⟩
set_option maxHeartbeats 1000000 in
theorem nobGYank_any {w : World} {v : Value} (h : NobG w v) (n : Int) (s : ByteArray) (A : Option Addr) (k c : Nat) (b : Bool) :
    Calls Try.prog 19 #[v, .int .i32 n, .agg #[.string s, .slice A k c, .bool b]] w fun e w' => e = .returned (.int .i64 1) ∧ Below w.heap.size w w' := by
  have K := Lib.hid ((boxN w #[.string s, .slice A k c, .bool b] 33).and ((grow_nobG h).alloc _))
  clear h
  go_enter Try.func19, Try.ntmps19
  go_upto_region 1 with fail
  generalize w.alloc (.cells #[.string s, .slice A k c, .bool b] 33) = wb at *
  obtain ⟨y0, y1, y2⟩ := en_cells K.out.now.1.1
  go_wp2_with (go_at_call 22; refine (nobGCheck_any K.out.now.2 n s A k c b).mono ?_; rintro e w1 ⟨rfl, bb⟩)
  go_ret
  exact ⟨rfl, (K.out.step bb).now.1.2⟩
set_option maxHeartbeats 1000000 in
theorem nobGDelete_any {w : World} {v : Value} (h : NobG w v) (n : Int) (s : ByteArray) (A : Option Addr) (k c : Nat) (b wide : Bool) :
    Calls Try.prog 10 #[v, .int .i32 n, .agg #[.string s, .slice A k c, .bool b], .bool wide] w fun e w' => e = .returned (.int .i64 1) ∧ Below w.heap.size w w' := by
  have K := Lib.hid ((boxN w #[.string s, .slice A k c, .bool b] 33).and ((grow_nobG h).alloc _))
  clear h
  go_enter Try.func10, Try.ntmps10
  go_upto_region 1 with fail
  generalize w.alloc (.cells #[.string s, .slice A k c, .bool b] 33) = wb at *
  obtain ⟨y0, y1, y2⟩ := en_cells K.out.now.1.1
  by_cases hu : unN n = true
  · go_wp2_with (first
      | (go_at_call 21; refine (rgUnnamed_any n _).mono ?_; rw [hu]; rintro e w' ⟨rfl, hw⟩; subst w')
      | (go_at_call 22; refine (nobGCheck_any K.out.now.2 n s A k c b).mono ?_; rintro e w1 ⟨rfl, bb⟩))
    go_ret
    exact ⟨rfl, (K.out.step bb).now.1.2⟩
  · rw [Bool.not_eq_true] at hu
    go_wp2_with (first
      | (go_at_call 21; refine (rgUnnamed_any n _).mono ?_; rw [hu]; rintro e w' ⟨rfl, hw⟩; subst w')
      | (go_at_call 19; refine (nobGYank_any K.out.now.2 n s A k c b).mono ?_; rintro e w1 ⟨rfl, bb⟩))
    go_ret
    exact ⟨rfl, (K.out.step bb).now.1.2⟩
set_option maxHeartbeats 1000000 in
theorem nobGGet_any {w : World} {v : Value} (h : NobG w v) (n : Int) :
    Calls Try.prog 12 #[v, .int .i32 n] w fun e w' => e = .returned (.tuple #[.agg #[.string ⟨#[]⟩, .slice none 0 0, .bool false], .int .i64 1]) ∧ Below w.heap.size w w' := by
  have K := Lib.hid ((boxN w #[.string ⟨#[]⟩, .slice none 0 0, .bool false] 33).and ((grow_nobG h).alloc _))
  clear h
  go_enter Try.func12, Try.ntmps12
  go_upto_region 1 with fail
  generalize w.alloc (.cells #[.string ⟨#[]⟩, .slice none 0 0, .bool false] 33) = wb at *
  obtain ⟨⟨y0, y1, y2⟩, f0, f1, f2⟩ := en_var K.out.now.1.1
  go_wp2_with (go_at_call 26; refine (nobGUsable_any K.out.now.2).mono ?_; rintro e w' ⟨rfl, hw⟩; subst w')
  refine ret_entry rfl _ _ w.heap.size _ _ _ rfl (blk_three K.out.now.1.1 _ _ _) rfl ?_
  exact ⟨rfl, below_three K.out.now.1.2 (Nat.le_refl _) _ _ _⟩
end Go.Proofs.Ytcpijnoabipefaa
