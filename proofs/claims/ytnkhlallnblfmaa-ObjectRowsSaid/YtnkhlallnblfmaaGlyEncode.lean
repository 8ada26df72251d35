/-
  The contract of the document's own answer, layer 2: Encode.
-/
import Derived.Test.YtnkhlallnblfmaaGlyOne
import Derived.Lib.AppendStr
namespace Go.Proofs.Ytnkhlallnblfmaa
open Go.RowKit

/-- the bytes of any number -/
def encB (r : Int) : List UInt8 := if mayB r = true then enc r.toNat else enc 0xFFFD
def encAll (l : List Int) : List UInt8 := l.flatMap encB
theorem encAll_snoc (l : List Int) (r : Int) : encAll (l ++ [r]) = encAll l ++ encB r := by simp [encAll]
theorem encB_len (r : Int) : 1 ≤ (encB r).length ∧ (encB r).length ≤ 4 := by unfold encB; split <;> exact enc_len _
theorem encAll_len (l : List Int) : (encAll l).length ≤ 4 * l.length := by
  induction l with
  | nil => simp [encAll]
  | cons r l ih =>
    have := encB_len r
    simp only [encAll, List.flatMap_cons, List.length_append, List.length_cons] at *
    omega
def runz (n : Int) : Value := .int .i32 n
theorem strCells_list (bs : List UInt8) : Lib.strCells ⟨bs.toArray⟩ = bs.map byt := by
  simp [Lib.strCells, byt]
theorem byte_info : (Try.prog.info? 5).map (fun i => (i.zero, i.size, i.bytes)) = some (some (.int .u8 0), 1, 1) := by kernel_rfl

end Go.Proofs.Ytnkhlallnblfmaa
