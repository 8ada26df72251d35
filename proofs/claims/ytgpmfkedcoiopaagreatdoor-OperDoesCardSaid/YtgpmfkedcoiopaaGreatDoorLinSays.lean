/-
  What package line's functions are to answer, as one bundle; its proof lies with the landed code's contracts. The law package's alive.
-/
import Derived.Test.YtgpmfkedcoiopaaGreatDoorM06r
import Derived.Test.YtgpmfkedcoiopaaGreatDoorLinRows
namespace Go.Proofs.YtgpmfkedcoiopaaGreatDoor
open Go.RowKit

structure LineSays : Prop where
  count : ∀ (S : List UInt8) (w : World), S.length ≤ 1000000 → Calls Tryz.prog 162 #[.string ⟨S.toArray⟩] w fun e w' => e = .returned (.int .i64 (countL S : Nat)) ∧ Below w.heap.size w w'
  of : ∀ (S : List UInt8) (p : Int) (w : World), S.length ≤ 1000000 → Calls Tryz.prog 41 #[.string ⟨S.toArray⟩, .int .i64 p] w fun e w' => e = .returned (.int .i64 (ofL S p : Nat)) ∧ Below w.heap.size w w'
  bounds : ∀ (S : List UInt8) (n : Int) (w : World), S.length ≤ 1000000 → Calls Tryz.prog 64 #[.string ⟨S.toArray⟩, .int .i64 n] w (Gives3 w (boundsL S n))
  col : ∀ (S : List UInt8) (p : Int) (w : World), S.length ≤ 1000000 → Calls Tryz.prog 179 #[.string ⟨S.toArray⟩, .int .i64 p] w fun e w' => ∃ i : Nat, e = .returned (.int .i64 (colAt S (width ((chars S).take i)) : Nat)) ∧ Which (chars S) p i ∧ Below w.heap.size w w'
  place : ∀ (S : List UInt8) (n col : Int) (w : World), S.length ≤ 1000000 → Calls Tryz.prog 178 #[.string ⟨S.toArray⟩, .int .i64 n, .int .i64 col] w fun e w' => e = .returned (.int .i64 (placeL S n col : Nat)) ∧ Below w.heap.size w w'
  first : ∀ (S : List UInt8) (n : Int) (w : World), S.length ≤ 1000000 → Calls Tryz.prog 103 #[.string ⟨S.toArray⟩, .int .i64 n] w fun e w' => e = .returned (.int .i64 (firstL S n : Nat)) ∧ Below w.heap.size w w'
  whole : ∀ (S : List UInt8) (a b : Int) (w : World), S.length ≤ 1000000 → Calls Tryz.prog 101 #[.string ⟨S.toArray⟩, .int .i64 a, .int .i64 b] w (Gives3 w (wholeL S a b))

end Go.Proofs.YtgpmfkedcoiopaaGreatDoor
