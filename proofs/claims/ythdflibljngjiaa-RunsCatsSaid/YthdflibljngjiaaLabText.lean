/-
  Contracts for package label: appendNumber, Print.
-/
import Derived.Test.YthdflibljngjiaaLabBase
namespace Go.Proofs.Ythdflibljngjiaa
open Go.RowKit

def digs (c : Nat) : List UInt8 := if 10 ≤ c then [UInt8.ofNat (48 + c / 10), UInt8.ofNat (48 + c % 10)] else [UInt8.ofNat (48 + c % 10)]

theorem byt_of (n : Nat) {i : Int} (hi : i = n) (h : n < 256) : .int .u8 i = byt (UInt8.ofNat n) := by
  unfold byt
  rw [UInt8.toNat_ofNat', Nat.mod_eq_of_lt h, hi]

theorem own_snoc {w : World} {base e n : Nat} {v : Value} {xs : List UInt8} {u : Value} {b : UInt8} (h : w.ownsRow base e 1 v n (xs.map byt ++ [u])) (hn : n = xs.length + 1) (hu : u = byt b) : w.ownsRow base e 1 v (xs ++ [b]).length ((xs ++ [b]).map byt) := by
  subst hu hn
  simpa using h

/-- categories one behind the other, dots between them -/
def dotStep (t : List UInt8) (c : Nat) : List UInt8 := (if 0 < t.length then t ++ [46] else t) ++ digs c
def dots (cs : List Nat) : List UInt8 := cs.foldl dotStep []
theorem dots_snoc (cs : List Nat) (c : Nat) : dots (cs ++ [c]) = dotStep (dots cs) c := by unfold dots; rw [List.foldl_append]; rfl
theorem digs_len (c : Nat) : 1 ≤ (digs c).length ∧ (digs c).length ≤ 2 := by unfold digs; split <;> simp
theorem dots_len (cs : List Nat) (k : Nat) : (dots (cs.take k)).length ≤ 3 * k := by
  induction k with
  | zero => simp [dots]
  | succ k ih =>
    by_cases hk : k < cs.length
    · rw [take_snoc cs k hk, dots_snoc]
      unfold dotStep
      have := digs_len cs[k]
      split <;> simp <;> omega
    · rw [List.take_of_length_le (by omega)] at ih ⊢
      omega
def printN (l : Nat) : List UInt8 := if l = 0 then [45] else dots (catsTo l 64)

theorem zero_beq {l : Nat} (h : l = 0) : ((l : Int) == 0) = true := by simp [h]
theorem zero_bne {l : Nat} (h : ¬ l = 0) : ((l : Int) == 0) = false := by simp; omega

end Go.Proofs.Ythdflibljngjiaa
