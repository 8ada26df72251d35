/-
  The contract of the document's own answer, layer 2: number.
-/
import Derived.Test.YtbfedakncdodcaaGlyOne
namespace Go.Proofs.Ytbfedakncdodcaa
open Go.RowKit

theorem numStep_le {n : Nat} {b : UInt8} {k : Nat} (h : n ≤ k) : numStep n b ≤ k * 64 + 63 := by
  unfold numStep; have : b.toNat % 64 < 64 := Nat.mod_lt _ (by decide); omega
theorem headOf_le (n : Nat) (a : UInt8) : headOf n a ≤ 255 := by
  have := a.toNat_lt
  unfold headOf; split <;> (try split) <;> (try split) <;> omega

/-- the number of the first k of up to four bytes -/
def numTo (a : UInt8) (t : List UInt8) (k : Nat) : Nat := (t.take k).foldl numStep (headOf (t.length + 1) a)
theorem numTo_succ (a : UInt8) (t : List UInt8) (k : Nat) (h : k < t.length) : numTo a t (k + 1) = numStep (numTo a t k) t[k] := by
  unfold numTo
  rw [List.take_succ_eq_append_getElem h, List.foldl_append]; rfl
theorem numTo_le (a : UInt8) (t : List UInt8) (k : Nat) (hk : k ≤ t.length) (h3 : t.length ≤ 3) : numTo a t k ≤ 67108863 := by
  have h0 : numTo a t 0 ≤ 255 := headOf_le _ _
  match k, hk with
  | 0, _ => omega
  | 1, hk => rw [numTo_succ a t 0 (by omega)]; have := numStep_le (b := t[0]'(by omega)) h0; omega
  | 2, hk =>
    rw [numTo_succ a t 1 (by omega), numTo_succ a t 0 (by omega)]
    have h1 := numStep_le (b := t[0]'(by omega)) h0
    have := numStep_le (b := t[1]'(by omega)) h1; omega
  | 3, hk =>
    rw [numTo_succ a t 2 (by omega), numTo_succ a t 1 (by omega), numTo_succ a t 0 (by omega)]
    have h1 := numStep_le (b := t[0]'(by omega)) h0
    have h2 := numStep_le (b := t[1]'(by omega)) h1
    have := numStep_le (b := t[2]'(by omega)) h2; omega
  | k + 4, hk => omega
theorem num_numTo (a : UInt8) (t : List UInt8) : num (a :: t) = numTo a t t.length := by unfold num numTo; rw [List.take_length]; rfl

theorem byte_at (S : List UInt8) (k : Nat) (h : k < S.length) : ({ data := S.toArray } : ByteArray)[k]'(by simpa [ByteArray.size] using h) = S[k] := rfl

end Go.Proofs.Ytbfedakncdodcaa
