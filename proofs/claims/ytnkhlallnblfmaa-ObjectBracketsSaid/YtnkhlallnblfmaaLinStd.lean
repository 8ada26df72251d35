/-
  strings.Count and strings.Index of the one byte 10.
-/
import Derived.Test.YtnkhlallnblfmaaLinLines
import Derived.Laws.Externs
import Derived.Lib.Bytealg
import Derived.Lib.IndexLaws
namespace Go.Proofs.Ytnkhlallnblfmaa
open Go.RowKit

set_option maxRecDepth 100000 in
theorem stdCount_any (S : List UInt8) (w : World) :
    Calls Try.prog 49 #[.string ⟨S.toArray⟩, .string ⟨#[10]⟩] w fun e w' => e = .returned (.int .i64 (S.count 10 : Nat)) ∧ w = w' := by
  go_enter Try.func49, Try.ntmps49
  go_wp2
  rw [run_callFunc_extern Try.func53 (by kernel_rfl) (by kernel_rfl) (by kernel_rfl) (e := Extern.BytealgCount.count) (by kernel_rfl), Lib.run_countString]
  simp only [Result.andThen]
  rw [Oper.upon_value]
  go_wp2
  go_ret
  exact ⟨rfl, rfl⟩
set_option maxRecDepth 100000 in
theorem stdIndexByte_any (S : List UInt8) (w : World) :
    Calls Try.prog 55 #[.string ⟨S.toArray⟩, .int .u8 10] w fun e w' => e = .returned (.int .i64 (Lib.indexByte S 10)) ∧ w = w' := by
  go_enter Try.func55, Try.ntmps55
  go_wp2
  rw [run_callFunc_extern Try.func59 (by kernel_rfl) (by kernel_rfl) (by kernel_rfl) (e := Extern.BytealgIndexByte.indexByte) (by kernel_rfl), Lib.run_indexByteString]
  simp only [Result.andThen]
  rw [Oper.upon_value]
  go_wp2
  go_ret
  exact ⟨rfl, rfl⟩
set_option maxRecDepth 100000 in
theorem stdIndex2_any (S : List UInt8) (w : World) :
    Calls Try.prog 54 #[.string ⟨S.toArray⟩, .string ⟨#[10]⟩] w fun e w' => e = .returned (.int .i64 (Lib.indexByte S 10)) ∧ w = w' := by
  by_cases hS : S = [10]
  · subst hS
    go_enter Try.func54, Try.ntmps54
    go_wp2_with fail
    go_ret
    exact ⟨rfl, rfl⟩
  · have h1 : (([10] : List UInt8) == S) = false := by simpa using fun h => hS h.symm
    go_enter Try.func54, Try.ntmps54
    go_wp2_with (go_at_call 55; refine (stdIndexByte_any S _).mono ?_; rintro e w1 ⟨rfl, rfl⟩)
    go_ret
    exact ⟨rfl, rfl⟩
set_option maxRecDepth 100000 in
theorem stdIndex_any (S : List UInt8) (w : World) :
    Calls Try.prog 51 #[.string ⟨S.toArray⟩, .string ⟨#[10]⟩] w fun e w' => e = .returned (.int .i64 (Lib.indexByte S 10)) ∧ w = w' := by
  go_enter Try.func51, Try.ntmps51
  go_wp2_with (go_at_call 54; refine (stdIndex2_any S _).mono ?_; rintro e w1 ⟨rfl, rfl⟩)
  go_ret
  exact ⟨rfl, rfl⟩
end Go.Proofs.Ytnkhlallnblfmaa
