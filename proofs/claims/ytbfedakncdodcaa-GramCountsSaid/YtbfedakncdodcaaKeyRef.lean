/-
  Contracts of the document's own answers, layer 10: May, Written, begins, Same, Print.
-/
import Derived.Test.YtbfedakncdodcaaKeyMath
import Derived.Test.YtbfedakncdodcaaGlyList
import Derived.Test.YtbfedakncdodcaaGlyEncode
import Derived.BigQuiet
import Derived.Deep.QuietTactic
import Derived.Deep.DeepCutAuto
namespace Go.Proofs.Ytbfedakncdodcaa
open Go.RowKit

theorem text_front (s : List UInt8) (k : Nat) : ({ data := s.toArray } : ByteArray).extract 0 k = ⟨(s.take k).toArray⟩ := by
  apply ByteArray.ext
  rw [ByteArray.data_extract]
  apply Array.ext'
  simp
/-- runes that lie in a row -/
theorem runz_at {w : World} {B k : Nat} {A : Option Addr} {zs : List Int} (h : Row w B A (zs.map runz)) (hk : k < zs.length) : ∃ ad, A = some ad ∧ ad.block < B ∧ w.cell? (ad.add k) = some (.int .i32 zs[k]) := h.map_at hk
end Go.Proofs.Ytbfedakncdodcaa
