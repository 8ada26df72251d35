/-
  Merged: MvMath, MvFind, MvWord, MvBegs, MvEnds, MvEmpt, MvLine, MvKind, MvPlain, MvSide, MvWrds, MvFnds, MvLns, MvTo.
-/
import Derived.Test.YtgpmfkedcoiopaaGreatDoorWords
import Derived.Test.YtgpmfkedcoiopaaGreatDoorM02u
import Derived.Test.YtgpmfkedcoiopaaGreatDoorM06r
import Derived.Deep.DeepCutAuto
/-
  The nth of a list behind a place, or ahead of it: layer 12, as plain lists.
-/
namespace Go.Proofs.YtgpmfkedcoiopaaGreatDoor

/-- the nth place behind one; none: there are not so many -/
def behindM (l : List Nat) (a n : Nat) : Option Nat := (l.filter fun x => decide (a < x))[n - 1]?
/-- the nth place ahead of one, nearest first -/
def aheadM (l : List Nat) (a n : Nat) : Option Nat := (l.filter fun x => decide (x < a)).reverse[n - 1]?
theorem behindM_mem {l : List Nat} {a n x : Nat} (h : behindM l a n = some x) : x ∈ l ∧ a < x := by
  have := List.mem_of_getElem? h
  rw [List.mem_filter] at this
  exact ⟨this.1, of_decide_eq_true this.2⟩
theorem aheadM_mem {l : List Nat} {a n x : Nat} (h : aheadM l a n = some x) : x ∈ l ∧ x < a := by
  have := List.mem_of_getElem? h
  rw [List.mem_reverse, List.mem_filter] at this
  exact ⟨this.1, of_decide_eq_true this.2⟩
end Go.Proofs.YtgpmfkedcoiopaaGreatDoor

/-
  The document's behind, ahead, or: layer 12.
-/
namespace Go.Proofs.YtgpmfkedcoiopaaGreatDoor
open Go.RowKit

/-- a place, or none -/
def GivesIB (w : World) (r : Option Nat) (e : Ending) (w' : World) : Prop := e = .returned (.tuple #[.int .i64 ((r.getD 0 : Nat) : Int), .bool r.isSome]) ∧ Below w.heap.size w w'
end Go.Proofs.YtgpmfkedcoiopaaGreatDoor

/-
  The document's class, word, Beginnings: layer 12.
-/
namespace Go.Proofs.YtgpmfkedcoiopaaGreatDoor
open Go.RowKit

def clsM (L : List (Nat × Nat)) (i : Nat) : Nat := classL (L.getD i (0, 0)).1
def wordM (L : List (Nat × Nat)) (i : Nat) : Bool := decide (clsM L i = 1) || decide (clsM L i = 2)
end Go.Proofs.YtgpmfkedcoiopaaGreatDoor

/-
  The document's Beginnings, Ends: layer 12.
-/
namespace Go.Proofs.YtgpmfkedcoiopaaGreatDoor
open Go.RowKit

def begQ (L : List (Nat × Nat)) (i : Nat) : Bool := wordM L i && (decide (i = 0) || decide (clsM L (i - 1) ≠ clsM L i))
/-- where signs of a kind begin, among the first so many -/
def placesTo (L : List (Nat × Nat)) (q : Nat → Bool) (k : Nat) : List Nat := ((List.range k).filter q).map fun i => width (L.take i)
/-- where words begin -/
def begsM (L : List (Nat × Nat)) : List Nat := placesTo L (begQ L) L.length

end Go.Proofs.YtgpmfkedcoiopaaGreatDoor

/-
  The document's Ends: layer 12.
-/
namespace Go.Proofs.YtgpmfkedcoiopaaGreatDoor
open Go.RowKit

def endQ (L : List (Nat × Nat)) (i : Nat) : Bool := wordM L i && (decide (i + 1 = L.length) || decide (clsM L (i + 1) ≠ clsM L i))
/-- where the last signs of words begin -/
def endsM (L : List (Nat × Nat)) : List Nat := placesTo L (endQ L) L.length

end Go.Proofs.YtgpmfkedcoiopaaGreatDoor

/-
  The document's empties: layer 12.
-/
namespace Go.Proofs.YtgpmfkedcoiopaaGreatDoor
open Go.RowKit

/-- f of those numbers below k that q takes -/
def pickTo (f : Nat → Nat) (q : Nat → Bool) (k : Nat) : List Nat := ((List.range k).filter q).map f
/-- where empty lines begin, among the first so many -/
def emptTo (S : List UInt8) (k : Nat) : List Nat := pickTo (fun n => (boundsL S (n : Int)).1.1) (fun n => decide ((boundsL S (n : Int)).1.1 = (boundsL S (n : Int)).1.2)) k
def emptM (S : List UInt8) : List Nat := emptTo S (countL S)

end Go.Proofs.YtgpmfkedcoiopaaGreatDoor

/-
  The document's inLine: layer 12.
-/
namespace Go.Proofs.YtgpmfkedcoiopaaGreatDoor
open Go.RowKit

def lineQ (L : List (Nat × Nat)) (f t : Nat) (r : Int) (i : Nat) : Bool := decide (f ≤ width (L.take i)) && decide (width (L.take i) < t) && (decide (r < 0) || decide (((L.getD i (0, 0)).1 : Int) = r))
/-- where the signs of a line begin, of a rune, if one is named -/
def inLineM (S : List UInt8) (n r : Int) : List Nat := placesTo (chars S) (lineQ (chars S) (boundsL S n).1.1 (boundsL S n).1.2 r) (chars S).length

end Go.Proofs.YtgpmfkedcoiopaaGreatDoor

/-
  The document's exclusive, inclusive: layer 12.
-/
namespace Go.Proofs.YtgpmfkedcoiopaaGreatDoor
open Go.RowKit

/-- where a motion leads, and what it goes over; or it doesn't lead anywhere -/
def GivesIIB (w : World) (r : Option (Nat × Nat)) (e : Ending) (w' : World) : Prop := e = .returned (.tuple #[.int .i64 (((r.getD (0, 0)).1 : Nat) : Int), .int .i64 (((r.getD (0, 0)).2 : Nat) : Int), .bool r.isSome]) ∧ Below w.heap.size w w'
def exclM (a : Nat) (r : Option Nat) : Option (Nat × Nat) := r.bind fun x => if x = a then none else some (x, 0)
def inclM (r : Option Nat) : Option (Nat × Nat) := r.map fun x => (x, 1)
end Go.Proofs.YtgpmfkedcoiopaaGreatDoor

/-
  Where motions lead, as plain functions: layer 12.
-/
namespace Go.Proofs.YtgpmfkedcoiopaaGreatDoor
open Go.RowKit

/-- the number of the sign in which a place lies -/
def whichM (L : List (Nat × Nat)) (p : Int) : Nat := (List.range L.length).findIdx fun j => decide (p < ((width (L.take (j + 1)) : Nat) : Int))
theorem which_is (L : List (Nat × Nat)) (p : Int) : Which L p (whichM L p) := by
  have hle : whichM L p ≤ L.length := by
    have := List.findIdx_le_length (xs := List.range L.length) (p := fun j => decide (p < ((width (L.take (j + 1)) : Nat) : Int)))
    rwa [List.length_range] at this
  refine ⟨hle, fun j hj => ?_, fun hi => ?_⟩
  · have := List.not_of_lt_findIdx (p := fun j => decide (p < ((width (L.take (j + 1)) : Nat) : Int))) (xs := List.range L.length) hj
    simp only [List.getElem_range, decide_eq_false_iff_not] at this
    omega
  · have h2 : (List.range L.length).findIdx (fun j => decide (p < ((width (L.take (j + 1)) : Nat) : Int))) < (List.range L.length).length := by rw [List.length_range]; exact hi
    have := List.findIdx_getElem (w := h2)
    simp only [List.getElem_range, decide_eq_true_eq] at this
    exact this
def alignM (S : List UInt8) (p : Int) : Nat := width ((chars S).take (whichM (chars S) p))
def nextM (S : List UInt8) (p : Int) : Nat := width ((chars S).take (whichM (chars S) p + 1))
def prevM (S : List UInt8) (p : Int) : Nat := width ((chars S).take (whichM (chars S) p - 1))
theorem alignM_le (S : List UInt8) (p : Int) : alignM S p ≤ S.length := by
  have := width_le_take (chars S) (whichM (chars S) p)
  rwa [width_chars] at this
/-- the column of a place -/
def colM (S : List UInt8) (p : Int) : Nat := colAt S (alignM S p)
theorem ofL_le (S : List UInt8) (p : Int) : ofL S p < countL S := by
  unfold ofL countL
  have := endsTo_mono S (show min S.length p.toNat ≤ S.length by omega)
  omega
/-- h, l, 0, ^ and $ -/
def sideM (S : List UInt8) (a n : Nat) (key : Int) : Option Nat :=
  if key = 104 then some ((aheadM (inLineM S (ofL S a : Nat) (-1)) a n).getD (boundsL S (ofL S a : Nat)).1.1)
  else if key = 108 then some ((behindM (inLineM S (ofL S a : Nat) (-1)) a n).getD (boundsL S (ofL S a : Nat)).1.2)
  else if key = 48 then some (boundsL S (ofL S a : Nat)).1.1
  else if key = 94 then some (firstL S (ofL S a : Nat))
  else if (ofL S a : Int) + n - 1 < (countL S : Int) then some (boundsL S ((ofL S a : Nat) + (n : Nat) - 1 : Int)).1.2 else none
/-- w, b, { and } -/
def wordsM (S : List UInt8) (a n : Nat) (key : Int) : Nat :=
  if key = 119 then (behindM (begsM (chars S)) a n).getD S.length
  else if key = 98 then (aheadM (begsM (chars S)) a n).getD 0
  else if key = 125 then (behindM (emptM S) (boundsL S (ofL S a : Nat)).1.2 n).getD S.length
  else (aheadM (emptM S) (boundsL S (ofL S a : Nat)).1.1 n).getD 0
/-- f, t, F and T -/
def findsM (S : List UInt8) (a n : Nat) (key arg : Int) : Option Nat :=
  if arg < 0 then none
  else if key = 102 then behindM (inLineM S (ofL S a : Nat) arg) a n
  else if key = 116 then (behindM (inLineM S (ofL S a : Nat) arg) a n).map fun x => prevM S (x : Nat)
  else if key = 84 then (aheadM (inLineM S (ofL S a : Nat) arg) a n).map fun x => nextM S (x : Nat)
  else aheadM (inLineM S (ofL S a : Nat) arg) a n
/-- to which line j, k, G and g lead -/
def lineM (S : List UInt8) (a n : Nat) (key count : Int) : Int :=
  if key = 106 then (ofL S a : Int) + n else if key = 107 then (ofL S a : Int) - n else if count < 1 ∧ key = 103 then 0 else if count < 1 ∨ (countL S : Int) < count then (countL S : Int) - 1 else count - 1
def linesM (S : List UInt8) (a n : Nat) (key count : Int) : Option Nat :=
  if 0 ≤ lineM S a n key count ∧ lineM S a n key count < (countL S : Int) then some (if key = 106 ∨ key = 107 then placeL S (lineM S a n key count) (colM S (a : Nat) : Nat) else firstL S (lineM S a n key count)) else none
def manyM (count : Int) : Nat := (min (max count 1) 999).toNat
/-- where a motion leads, and what it goes over -/
def toM (S : List UInt8) (at_ key arg count : Int) : Option (Nat × Nat) :=
  let a := alignM S at_
  let n := manyM count
  if key = 104 ∨ key = 108 ∨ key = 48 ∨ key = 94 ∨ key = 36 then exclM a (sideM S a n key)
  else if key = 119 ∨ key = 98 ∨ key = 123 ∨ key = 125 then exclM a (some (wordsM S a n key))
  else if key = 101 then (let x := (behindM (endsM (chars S)) a n).getD (prevM S (S.length : Nat)); if a < x then some (x, 1) else none)
  else if key = 102 ∨ key = 116 then inclM (findsM S a n key arg)
  else if key = 70 ∨ key = 84 then exclM a (findsM S a n key arg)
  else if key = 106 ∨ key = 107 ∨ key = 71 ∨ key = 103 then (linesM S a n key count).map fun x => (x, 2)
  else none
end Go.Proofs.YtgpmfkedcoiopaaGreatDoor

/-
  The document's sideways: h, l, 0, ^ and $.
-/
namespace Go.Proofs.YtgpmfkedcoiopaaGreatDoor
open Go.RowKit

end Go.Proofs.YtgpmfkedcoiopaaGreatDoor

/-
  The document's words: w, b, { and }.
-/
namespace Go.Proofs.YtgpmfkedcoiopaaGreatDoor
open Go.RowKit

end Go.Proofs.YtgpmfkedcoiopaaGreatDoor

/-
  The document's finds: f, t, F and T.
-/
namespace Go.Proofs.YtgpmfkedcoiopaaGreatDoor
open Go.RowKit

end Go.Proofs.YtgpmfkedcoiopaaGreatDoor

/-
  The document's lines: j, k, G and g.
-/
namespace Go.Proofs.YtgpmfkedcoiopaaGreatDoor
open Go.RowKit

end Go.Proofs.YtgpmfkedcoiopaaGreatDoor

/-
  The document's To.
-/
namespace Go.Proofs.YtgpmfkedcoiopaaGreatDoor
open Go.RowKit

theorem manyM_bounds (count : Int) : 1 ≤ manyM count ∧ manyM count ≤ 999 := by unfold manyM; omega
/-- the walks' spelling -/
theorem manyM_if (count : Int) : (if 999 < (if count < 1 then 1 else count) then 999 else (if count < 1 then 1 else count)) = ((manyM count : Nat) : Int) := by unfold manyM; omega
end Go.Proofs.YtgpmfkedcoiopaaGreatDoor
