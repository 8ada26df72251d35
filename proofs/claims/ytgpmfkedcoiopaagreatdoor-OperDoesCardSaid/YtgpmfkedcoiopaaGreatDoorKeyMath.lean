/-
  Keys and how they are written, as plain lists: layer 10.
-/
import Derived.Test.YtgpmfkedcoiopaaGreatDoorM02u
namespace Go.Proofs.YtgpmfkedcoiopaaGreatDoor

/-- which numbers are keys -/
def keyK (r : Int) : Prop := (1 ≤ r ∧ r ≤ 27) ∨ (32 ≤ r ∧ r ≠ 127 ∧ r ≤ 1114111 ∧ (r < 55296 ∨ 57343 < r))
instance (r : Int) : Decidable (keyK r) := by unfold keyK; infer_instance
/-- a key, as it is written -/
def writK (r : Nat) : List UInt8 :=
  if r = 27 then [60, 69, 115, 99, 62] else if r = 13 then [60, 67, 82, 62] else if r = 8 then [60, 66, 83, 62] else if r = 9 then [60, 84, 97, 98, 62] else if r = 60 then [60, 108, 116, 62]
  else if r < 32 then [60, 67, 45, byteOf (96 + r), 62] else enc r
/-- the keys that are written with an angle -/
def angK (r : Nat) : Bool := decide ((1 ≤ r ∧ r ≤ 27) ∨ r = 60)
/-- the key with which bytes begin -/
def oneK (S : List UInt8) : Option Nat :=
  match ((List.range 61).filter fun r => angK r && (writK r).isPrefixOf S).head? with
  | some r => some r
  | none => if S = [] ∨ S.head? = some 60 ∨ broken (dec S) = true ∨ ¬ keyK (dec S).1 ∨ (dec S).1 < 32 then none else some (dec S).1
/-- the keys of bytes -/
def keysF : Nat → List UInt8 → Option (List Nat)
  | _, [] => some []
  | 0, _ :: _ => none
  | n + 1, a :: b => match oneK (a :: b) with
    | none => none
    | some r => (keysF n ((a :: b).drop (writK r).length)).map (r :: ·)
def keysK (S : List UInt8) : Option (List Nat) := keysF S.length S
def wordsK (l : List Nat) : List UInt8 := l.flatMap writK
/-! What is printed, what is read. -/
def printA (zs : List Int) : List UInt8 × Nat := if zs.length ≤ 256 then (if ∀ z ∈ zs, keyK z then (wordsK (zs.map Int.toNat), 0) else ([], 2)) else ([], 3)
def parseA (S : List UInt8) : List Nat × Nat :=
  match keysK S with
  | none => ([], 5)
  | some l => if l.length ≤ 256 then (l, 0) else ([], 3)
end Go.Proofs.YtgpmfkedcoiopaaGreatDoor
