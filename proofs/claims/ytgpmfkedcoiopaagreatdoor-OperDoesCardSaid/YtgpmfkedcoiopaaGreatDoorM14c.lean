/-
  Merged: OpSwpM, OpSwap, OpPutM, OpPutl, OpPut.
-/
import Derived.Test.YtgpmfkedcoiopaaGreatDoorM14b
import Derived.Test.YtgpmfkedcoiopaaGreatDoorM12p
import Derived.Test.YtgpmfkedcoiopaaGreatDoorKeyMath
import Derived.Test.YtgpmfkedcoiopaaGreatDoorM14a
import Derived.Test.YtgpmfkedcoiopaaGreatDoorKeyRef
import Derived.Test.YtgpmfkedcoiopaaGreatDoorKeyPrint
/-
  Signs in place of signs, as plain lists: layer 14.
-/
namespace Go.Proofs.YtgpmfkedcoiopaaGreatDoor
open Go.RowKit

/-- a sign, so many times -/
def swapS (k : Int) (m : Nat) : List UInt8 := (List.replicate m (enc k.toNat)).flatten
theorem swapS_succ (k : Int) (m : Nat) : swapS k (m + 1) = swapS k m ++ enc k.toNat := by unfold swapS; rw [List.replicate_succ', List.flatten_append]; simp
theorem swapS_len (k : Int) (m : Nat) : (swapS k m).length = m * (enc k.toNat).length := by
  induction m with
  | zero => simp [swapS]
  | succ m ih => rw [swapS_succ, List.length_append, ih, Nat.succ_mul]
theorem swapS_le (k : Int) (m : Nat) : (swapS k m).length ≤ 4 * m := by
  have h := (enc_len k.toNat).2
  rw [swapS_len, Nat.mul_comm 4 m]
  exact Nat.mul_le_mul_left m h
/-- where the sign lies at which a place is, the end of its line -/
def lineTo (V : List UInt8) (a : Nat) : Nat := (boundsL V (ofL V (a : Nat) : Nat)).1.2
def swapM (S : List UInt8) (l : List RunP) (y : Nat) (p n k : Int) : OutP × Nat :=
  if (viewOf S l y).2 ≠ 0 ∨ ¬ keyK k ∨ k < 32 then (out0, 2)
  else if lineTo (viewOf S l y).1 (alignM (viewOf S l y).1 p) ≤ atM (viewOf S l y).1 (whichM (chars (viewOf S l y).1) p + (manyM n - 1)) then (out0, 6)
  else if (turnedM S l y (alignM (viewOf S l y).1 p : Nat) (atM (viewOf S l y).1 (whichM (chars (viewOf S l y).1) p + manyM n) : Nat) (swapS k (manyM n)) (pack (List.replicate (swapS k (manyM n)).length y)) true).2 = 0 then
    (⟨(turnedM S l y (alignM (viewOf S l y).1 p : Nat) (atM (viewOf S l y).1 (whichM (chars (viewOf S l y).1) p + manyM n) : Nat) (swapS k (manyM n)) (pack (List.replicate (swapS k (manyM n)).length y)) true).1.1, [], [], false, false, ((alignM (viewOf S l y).1 p : Nat) : Int) + ((swapS k (manyM n)).length : Nat) - ((enc k.toNat).length : Nat)⟩, 0)
  else (out0, (turnedM S l y (alignM (viewOf S l y).1 p : Nat) (atM (viewOf S l y).1 (whichM (chars (viewOf S l y).1) p + manyM n) : Nat) (swapS k (manyM n)) (pack (List.replicate (swapS k (manyM n)).length y)) true).2)
end Go.Proofs.YtgpmfkedcoiopaaGreatDoor

/-
  The document's Swap: layer 14.
-/
namespace Go.Proofs.YtgpmfkedcoiopaaGreatDoor
open Go.RowKit
set_option maxRecDepth 100000

/-- what is kept where a text and an answer lie in boxes -/
structure SwpK (w wr : World) (A : Option Addr) (c : Nat) (S : List UInt8) (l : List RunP) : Prop where
  t5 : Blk wr w.heap.size 32 #[.string ⟨S.toArray⟩, .slice A l.length c]
  res : Blk wr (w.heap.size + 1) 47 #[.int .i64 0, .string ⟨#[]⟩, .slice none 0 0, .string ⟨#[]⟩, .slice none 0 0, .string ⟨#[]⟩, .slice none 0 0, .bool false, .bool false, .int .i64 0]
  bel : Below w.heap.size w wr
  tS : Txu wr A S l
theorem SwpK.step {w wr w' : World} {A : Option Addr} {c : Nat} {S : List UInt8} {l : List RunP} (h : SwpK w wr A c S l) (hb : Below wr.heap.size wr w') : SwpK w w' A c S l :=
  ⟨h.t5.below hb h.t5.lt, h.res.below hb h.res.lt, h.bel.trans (hb.mono h.bel.size), grow_txu h.tS _ hb⟩
theorem wrapP_near (x : Int) (h0 : -9223372036854775808 ≤ x) (h1 : x ≤ 9223372036854775807) : IntKind.i64.wrap x = x := by rw [IntKind.wrap_i64]; omega
/-- an edit is stored into a box of its own, beside what is kept -/
theorem SwpK.edit {w wr : World} {A : Option Addr} {c : Nat} {S : List UInt8} {l : List RunP} (h : SwpK w wr A c S l) {g : Nat} {cs : Array Value} (hg : Blk wr g 41 cs) (h5 : cs.size = 5) (hn : NoLab cs) (hlow : w.heap.size + 1 < g) {A4 B4 : Option Addr} {el em : List RunP} (rA : Row wr wr.heap.size A4 (flatR el)) (rB : Row wr wr.heap.size B4 (flatR em)) (u0 u1 u2 u3 u4 : Value) :
    Blk (setMany wr g [(0, u0), (1, u1), (2, u2), (3, u3), (4, u4)]) g 41 #[u0, u1, u2, u3, u4] ∧ Row (setMany wr g [(0, u0), (1, u1), (2, u2), (3, u3), (4, u4)]) (setMany wr g [(0, u0), (1, u1), (2, u2), (3, u3), (4, u4)]).heap.size A4 (flatR el) ∧ Row (setMany wr g [(0, u0), (1, u1), (2, u2), (3, u3), (4, u4)]) (setMany wr g [(0, u0), (1, u1), (2, u2), (3, u3), (4, u4)]).heap.size B4 (flatR em) ∧ SwpK w (setMany wr g [(0, u0), (1, u1), (2, u2), (3, u3), (4, u4)]) A c S l := by
  refine ⟨?_, row_many rA hg hn _, row_many rB hg hn _, setMany_far h.t5 (by omega) _, setMany_far h.res (by omega) _, setMany_below h.bel (by omega) _, setMany_txu h.tS hg hn _⟩
  have := setMany_blk hg [(0, u0), (1, u1), (2, u2), (3, u3), (4, u4)]
  obtain ⟨v, hv⟩ : ∃ v, cs = v := ⟨cs, rfl⟩
  have e : cs = #[cs[0]'(by omega), cs[1]'(by omega), cs[2]'(by omega), cs[3]'(by omega), cs[4]'(by omega)] := by
    apply Array.ext
    · simp [h5]
    · intro i h1 h2
      have : i = 0 ∨ i = 1 ∨ i = 2 ∨ i = 3 ∨ i = 4 := by omega
      rcases this with rfl | rfl | rfl | rfl | rfl <;> rfl
  rw [e] at this
  simpa using this
end Go.Proofs.YtgpmfkedcoiopaaGreatDoor

/-
  Entries that are put, as plain lists: layer 14.
-/
namespace Go.Proofs.YtgpmfkedcoiopaaGreatDoor
open Go.RowKit

/-- a line end of a level -/
def nlT (y : Nat) : TP := ([10], pack (List.replicate 1 y))
/-- where whole lines are put -/
def putAt (V : List UInt8) (q : Nat) (ah : Bool) : Nat := if ah = true then (boundsL V (q : Nat)).1.1 else if q + 1 < countL V then (boundsL V ((q + 1 : Nat) : Int)).1.1 else V.length
def putLst (V : List UInt8) (q : Nat) (ah : Bool) (X : List UInt8) (m : List RunP) (y : Nat) : List TP := if ah = true ∨ q + 1 < countL V then [(X, m), nlT y] else [nlT y, (X, m)]
def putLine (q : Nat) (ah : Bool) : Nat := if ah = true then q else q + 1
/-- an edit that lays a pile at a place -/
def layM (S : List UInt8) (l : List RunP) (y p : Nat) (r : Option TP) : (EdP × List UInt8) × Nat := turnedM S l y (p : Nat) (p : Nat) (r.getD ([], [])).1 (r.getD ([], [])).2 r.isSome
def putLM (S : List UInt8) (l : List RunP) (V : List UInt8) (y a : Nat) (X : List UInt8) (m : List RunP) (ah : Bool) (n : Nat) : OutP × Nat :=
  if (layM S l y (putAt V (ofL V (a : Nat)) ah) (timesM (putLst V (ofL V (a : Nat)) ah X m y) n)).2 = 0 then
    (⟨(layM S l y (putAt V (ofL V (a : Nat)) ah) (timesM (putLst V (ofL V (a : Nat)) ah X m y) n)).1.1, [], [], false, false, (firstL (layM S l y (putAt V (ofL V (a : Nat)) ah) (timesM (putLst V (ofL V (a : Nat)) ah X m y) n)).1.2 (putLine (ofL V (a : Nat)) ah : Nat) : Nat)⟩, 0)
  else (out0, (layM S l y (putAt V (ofL V (a : Nat)) ah) (timesM (putLst V (ofL V (a : Nat)) ah X m y) n)).2)
/-- where an entry without lines is put -/
def putTo (V : List UInt8) (a : Nat) (ah : Bool) : Nat := if ah = false ∧ a < V.length ∧ V[a]? ≠ some 10 then nextM V (a : Nat) else a
def putM (S : List UInt8) (l : List RunP) (y : Nat) (p : Int) (X : List UInt8) (m : List RunP) (b ah : Bool) (n : Int) : OutP × Nat :=
  if (viewOf S l y).2 ≠ 0 ∨ goodT X m = false then (out0, 2)
  else if b = true then putLM S l (viewOf S l y).1 y (alignM (viewOf S l y).1 p) X m ah (manyM n)
  else if (layM S l y (putTo (viewOf S l y).1 (alignM (viewOf S l y).1 p) ah) (timesM [(X, m)] (manyM n))).2 = 0 then
    (⟨(layM S l y (putTo (viewOf S l y).1 (alignM (viewOf S l y).1 p) ah) (timesM [(X, m)] (manyM n))).1.1, [], [], false, false,
      (if ((timesM [(X, m)] (manyM n)).getD ([], [])).1.length = 0 then (alignM (viewOf S l y).1 p : Nat) else
        (alignM (layM S l y (putTo (viewOf S l y).1 (alignM (viewOf S l y).1 p) ah) (timesM [(X, m)] (manyM n))).1.2 ((putTo (viewOf S l y).1 (alignM (viewOf S l y).1 p) ah : Nat) + ((timesM [(X, m)] (manyM n)).getD ([], [])).1.length - 1 : Int) : Nat) : Nat)⟩, 0)
  else (out0, (layM S l y (putTo (viewOf S l y).1 (alignM (viewOf S l y).1 p) ah) (timesM [(X, m)] (manyM n))).2)
end Go.Proofs.YtgpmfkedcoiopaaGreatDoor

/-
  The document's putLines: layer 14.
-/
namespace Go.Proofs.YtgpmfkedcoiopaaGreatDoor
open Go.RowKit
set_option maxRecDepth 100000

/-- what is kept where two texts and an answer lie in boxes -/
structure PutK (w wr : World) (A : Option Addr) (c : Nat) (S : List UInt8) (l : List RunP) (A2 : Option Addr) (c2 : Nat) (X : List UInt8) (m : List RunP) : Prop where
  t5 : Blk wr w.heap.size 32 #[.string ⟨S.toArray⟩, .slice A l.length c]
  x5 : Blk wr (w.heap.size + 1) 32 #[.string ⟨X.toArray⟩, .slice A2 m.length c2]
  res : Blk wr (w.heap.size + 1 + 1) 47 #[.int .i64 0, .string ⟨#[]⟩, .slice none 0 0, .string ⟨#[]⟩, .slice none 0 0, .string ⟨#[]⟩, .slice none 0 0, .bool false, .bool false, .int .i64 0]
  bel : Below w.heap.size w wr
  tS : Txu wr A S l
  tX : Txu wr A2 X m
section
variable {w wr w' : World} {A A2 : Option Addr} {c c2 : Nat} {S X : List UInt8} {l m : List RunP}
theorem PutK.step (h : PutK w wr A c S l A2 c2 X m) (hb : Below wr.heap.size wr w') : PutK w w' A c S l A2 c2 X m :=
  ⟨h.t5.below hb h.t5.lt, h.x5.below hb h.x5.lt, h.res.below hb h.res.lt, h.bel.trans (hb.mono h.bel.size), grow_txu h.tS _ hb, grow_txu h.tX _ hb⟩
end
/-- texts in a row -/
structure LstK (wr : World) (A7 : Option Addr) (ts : List TextP) : Prop where
  tx : ∀ r ∈ ts, Txu wr r.A r.S r.l
  row : Row wr wr.heap.size A7 (flatX ts)
theorem LstK.step {wr w' : World} {A7 : Option Addr} {ts : List TextP} (h : LstK wr A7 ts) (hb : Below wr.heap.size wr w') : LstK w' A7 ts := ⟨fun r hr => grow_txu (h.tx r hr) _ hb, row_step h.row hb⟩
theorem LstK.two {wr : World} {S X : List UInt8} {A A2 : Option Addr} {c c2 : Nat} {l m : List RunP} (h : Txu wr A S l) (hX : Txu wr A2 X m) :
    LstK (wr.alloc (.cells #[.string ⟨S.toArray⟩, .slice A l.length c, .string ⟨X.toArray⟩, .slice A2 m.length c2] 32)) (some ⟨wr.heap.size, 0, none⟩) [⟨S, A, c, l⟩, ⟨X, A2, c2, m⟩] := by
  have hb : Below wr.heap.size wr (wr.alloc (.cells #[.string ⟨S.toArray⟩, .slice A l.length c, .string ⟨X.toArray⟩, .slice A2 m.length c2] 32)) := (Below.refl _ _).alloc (Nat.le_refl _) _
  refine ⟨fun r hr => ?_, ?_⟩
  · simp only [List.mem_cons, List.not_mem_nil, or_false] at hr
    rcases hr with rfl | rfl
    · exact grow_txu h _ hb
    · exact grow_txu hX _ hb
  · have := row_newL wr 32 [.string ⟨S.toArray⟩, .slice A l.length c, .string ⟨X.toArray⟩, .slice A2 m.length c2]
    simpa [flatX] using this
theorem LstK.one {wr : World} {S : List UInt8} {A : Option Addr} {c : Nat} {l : List RunP} (h : Txu wr A S l) :
    LstK (wr.alloc (.cells #[.string ⟨S.toArray⟩, .slice A l.length c] 32)) (some ⟨wr.heap.size, 0, none⟩) [⟨S, A, c, l⟩] := by
  have hb : Below wr.heap.size wr (wr.alloc (.cells #[.string ⟨S.toArray⟩, .slice A l.length c] 32)) := (Below.refl _ _).alloc (Nat.le_refl _) _
  refine ⟨fun r hr => ?_, ?_⟩
  · rw [List.mem_singleton] at hr
    subst hr
    exact grow_txu h _ hb
  · have := row_newL wr 32 [.string ⟨S.toArray⟩, .slice A l.length c]
    simpa [flatX] using this
theorem bounds_leP (V : List UInt8) (n : Int) : (boundsL V n).1.1 ≤ V.length ∧ (boundsL V n).1.2 ≤ V.length := by
  by_cases h : 0 ≤ n ∧ n < (countL V : Int)
  · obtain ⟨k, rfl⟩ : ∃ k : Nat, n = k := ⟨n.toNat, by omega⟩
    have hk : k < countL V := by omega
    rw [boundsL_nat hk]
    exact ⟨beg_le hk, end_le hk⟩
  · rw [boundsL_out h]
    exact ⟨Nat.zero_le _, Nat.zero_le _⟩
end Go.Proofs.YtgpmfkedcoiopaaGreatDoor

/-
  The document's Put: layer 14.
-/
namespace Go.Proofs.YtgpmfkedcoiopaaGreatDoor
open Go.RowKit
set_option maxRecDepth 100000

/-- what is kept where a text, an entry and an answer lie in boxes -/
structure PutE (w wr : World) (A : Option Addr) (c : Nat) (S : List UInt8) (l : List RunP) (A2 : Option Addr) (c2 : Nat) (X : List UInt8) (m : List RunP) (b : Bool) : Prop where
  t5 : Blk wr w.heap.size 32 #[.string ⟨S.toArray⟩, .slice A l.length c]
  e5 : Blk wr (w.heap.size + 1) 36 #[.string ⟨X.toArray⟩, .slice A2 m.length c2, .bool b]
  res : Blk wr (w.heap.size + 1 + 1) 47 #[.int .i64 0, .string ⟨#[]⟩, .slice none 0 0, .string ⟨#[]⟩, .slice none 0 0, .string ⟨#[]⟩, .slice none 0 0, .bool false, .bool false, .int .i64 0]
  bel : Below w.heap.size w wr
  tS : Txu wr A S l
  tX : Txu wr A2 X m
theorem PutE.step {w wr w' : World} {A A2 : Option Addr} {c c2 : Nat} {S X : List UInt8} {l m : List RunP} {b : Bool} (h : PutE w wr A c S l A2 c2 X m b) (hb : Below wr.heap.size wr w') : PutE w w' A c S l A2 c2 X m b :=
  ⟨h.t5.below hb h.t5.lt, h.e5.below hb h.e5.lt, h.res.below hb h.res.lt, h.bel.trans (hb.mono h.bel.size), grow_txu h.tS _ hb, grow_txu h.tX _ hb⟩
end Go.Proofs.YtgpmfkedcoiopaaGreatDoor
