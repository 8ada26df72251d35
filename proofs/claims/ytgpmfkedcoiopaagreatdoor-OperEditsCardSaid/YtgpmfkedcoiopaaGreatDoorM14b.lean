/-
  Merged: OpTake, OpTogg, OpTexs, OpShif, OpJoin, OpJoiw, OpDoMa, OpDoer.
-/
import Derived.Test.YtgpmfkedcoiopaaGreatDoorM14a
import Derived.Test.YtgpmfkedcoiopaaGreatDoorPushT
import Derived.Test.YtgpmfkedcoiopaaGreatDoorM06r
import Derived.Test.YtgpmfkedcoiopaaGreatDoorM12r
/-
  The document's taken: d, y and c: layer 14.
-/
namespace Go.Proofs.YtgpmfkedcoiopaaGreatDoor
open Go.RowKit
set_option maxRecDepth 100000

/-- what is kept in taken -/
structure TakeK (w wr : World) (A A3 : Option Addr) (c : Nat) (S XS : List UInt8) (l xl : List RunP) (f t : Int) (b : Bool) : Prop where
  t5 : Blk wr w.heap.size 32 #[.string ⟨S.toArray⟩, .slice A l.length c]
  rg : Blk wr (w.heap.size + 1) 27 #[.int .i64 f, .int .i64 t, .bool b]
  res : Blk wr (w.heap.size + 1 + 1) 47 #[.int .i64 0, .string ⟨#[]⟩, .slice none 0 0, .string ⟨#[]⟩, .slice none 0 0, .string ⟨#[]⟩, .slice none 0 0, .bool false, .bool false, .int .i64 0]
  bel : Below w.heap.size w wr
  tS : Txu wr A S l
  tX : Txu wr A3 XS xl
section
variable {w wr w' : World} {A A3 : Option Addr} {c : Nat} {S XS : List UInt8} {l xl : List RunP} {f t : Int} {b : Bool}
theorem TakeK.step (h : TakeK w wr A A3 c S XS l xl f t b) (hb : Below wr.heap.size wr w') : TakeK w w' A A3 c S XS l xl f t b :=
  ⟨h.t5.below hb h.t5.lt, h.rg.below hb h.rg.lt, h.res.below hb h.res.lt, h.bel.trans (hb.mono h.bel.size), grow_txu h.tS _ hb, grow_txu h.tX _ hb⟩
theorem TakeK.many (h : TakeK w wr A A3 c S XS l xl f t b) {g T : Nat} {cs : Array Value} (hg : Blk wr g T cs) (hn : NoLab cs) (hlow : w.heap.size + 1 + 1 < g) (us : List (Nat × Value)) : TakeK w (setMany wr g us) A A3 c S XS l xl f t b :=
  ⟨setMany_far h.t5 (by omega) us, setMany_far h.rg (by omega) us, setMany_far h.res (by omega) us, setMany_below h.bel (by omega) us, setMany_txu h.tS hg hn us, setMany_txu h.tX hg hn us⟩
end
theorem row_step {w w' : World} {A : Option Addr} {xs : List Value} (h : Row w w.heap.size A xs) (hb : Below w.heap.size w w') : Row w' w'.heap.size A xs := (h.below hb).more hb.size
theorem row_many {w : World} {A : Option Addr} {l : List RunP} {g T : Nat} {cs : Array Value} (h : Row w w.heap.size A (flatR l)) (hg : Blk w g T cs) (hn : NoLab cs) (us : List (Nat × Value)) : Row (setMany w g us) (setMany w g us).heap.size A (flatR l) := (setMany_rowN (rowN_noLab h (Nat.le_refl _) hg hn) us).row
theorem txu_nil {w : World} : Txu w none [] [] := ⟨Nat.zero_le _, fun r hr => by simp at hr, Nat.zero_le _, .inl rfl⟩
theorem view_len (S : List UInt8) (l : List RunP) (y : Nat) : (viewOf S l y).1.length ≤ 4096 := by
  unfold viewOf
  split
  · next h => show (viewTo S (bytesOf l) y).length ≤ 4096; rw [viewTo_len (goodT_size h).2.2]; exact (goodT_size h).1
  · exact Nat.zero_le _
theorem turned_view (S : List UInt8) (l : List RunP) (y : Nat) (f e : Int) (X : List UInt8) (m : List RunP) (b : Bool) : (turnedM S l y f e X m b).1.2.length ≤ 4096 := by
  unfold turnedM
  split
  · exact Nat.zero_le _
  · split
    · exact view_len _ _ _
    · exact Nat.zero_le _
theorem out_nine {w : World} {g T : Nat} {v0 v1 v2 v3 v4 v5 v6 v7 v8 v9 : Value} (h : Blk w g T #[v0, v1, v2, v3, v4, v5, v6, v7, v8, v9]) (u : Value) : Blk (setMany w g [(9, u)]) g T #[v0, v1, v2, v3, v4, v5, v6, v7, v8, u] := by
  have := setMany_blk h [(9, u)]
  simpa using this
end Go.Proofs.YtgpmfkedcoiopaaGreatDoor

/-
  The document's other and toggled: ~: layer 14.
-/
namespace Go.Proofs.YtgpmfkedcoiopaaGreatDoor
open Go.RowKit
set_option maxRecDepth 100000

/-- the other letter of its kind -/
def otherB (b : UInt8) : UInt8 := if 97 ≤ b.toNat ∧ b.toNat ≤ 122 then UInt8.ofNat (b.toNat - 32) else if 65 ≤ b.toNat ∧ b.toNat ≤ 90 then UInt8.ofNat (b.toNat + 32) else b
def togB (c v : UInt8) : UInt8 := if v = c then otherB c else c
def togL (S V : List UInt8) (F E : Nat) : List UInt8 := (List.range (E - F)).map fun j => togB (S.getD (F + j) 0) (V.getD (F + j) 0)
theorem togL_len (S V : List UInt8) (F E : Nat) : (togL S V F E).length = E - F := by unfold togL; rw [List.length_map, List.length_range]
theorem togL_succ (S V : List UInt8) (F E k : Nat) (h : k < E - F) : (togL S V F E).take (k + 1) = (togL S V F E).take k ++ [togB (S.getD (F + k) 0) (V.getD (F + k) 0)] := by
  rw [List.take_succ_eq_append_getElem (by rw [togL_len]; exact h)]
  congr 2
  unfold togL
  simp
def toggledM (S : List UInt8) (l : List RunP) (V : List UInt8) (y : Nat) (f t : Int) (b : Bool) : OutP × Nat :=
  let p := bytesM V f t b
  let tm := turnedM S l y p.1 p.2 (togL S V p.1.toNat p.2.toNat) (cutOf S l p.1 p.2).1.2 true
  if tm.2 = 0 then (⟨tm.1.1, [], [], false, false, p.1⟩, 0) else (out0, tm.2)
end Go.Proofs.YtgpmfkedcoiopaaGreatDoor

/-
  Texts in a row that grows; the lines that > and < make: layer 14.
-/
namespace Go.Proofs.YtgpmfkedcoiopaaGreatDoor
open Go.RowKit
set_option maxRecDepth 100000

theorem rowO_push {w w' : World} {P P' : Nat → Prop} {A : Option Addr} {xs : List Value} (h : RowO w P A xs) (hc : Tch P w w') (hk : ∀ k, P' k → P k ∨ w.heap.size ≤ k) : RowO w' P' A xs := by
  rcases h with h | ⟨ad, e, hb, hn, hcell⟩
  · exact .inl h
  · refine .inr ⟨ad, e, Nat.lt_of_lt_of_le hb hc.size, fun hp => ?_, fun j u hj => ?_⟩
    · rcases hk _ hp with h | h
      · exact hn h
      · omega
    · rw [← hcell j u hj]
      exact World.cell?_of_block (by rw [add_block]; exact hc.block _ hb hn)
/-- texts in a row of one's own, their runs outside it -/
structure TxsK (wb wr : World) (A : Option Addr) (c : Nat) (ts : List TextP) : Prop where
  own : wr.ownsRow wb.heap.size 32 2 (.slice A ts.length c) ts.length (flatX ts)
  tx : ∀ r ∈ ts, TxO wr (fun k => (Value.slice A ts.length c).ownBlock = some k) r.A r.S r.l
  bel : Below wb.heap.size wb wr
section
variable {wb wr w' : World} {A : Option Addr} {c : Nat} {ts : List TextP}
theorem TxsK.start (wb : World) : TxsK wb wb none 0 [] := ⟨World.ownsRow_nil _ _ _ _, fun r hr => by simp at hr, Below.refl _ _⟩
theorem TxsK.step (h : TxsK wb wr A c ts) (hb : Below wr.heap.size wr w') : TxsK wb w' A c ts :=
  ⟨own_keep h.own hb (Nat.le_refl _), fun r hr => (h.tx r hr).fresh hb, h.bel.trans (hb.mono h.bel.size)⟩
theorem TxsK.push (h : TxsK wb wr A c ts) (r : TextP) (hr : TxO wr (fun k => (Value.slice A ts.length c).ownBlock = some k) r.A r.S r.l) {v' : Value}
    (own : w'.ownsRow wb.heap.size 32 2 v' (ts.length + 1) (flatX ts ++ [.string ⟨r.S.toArray⟩, .slice r.A r.l.length r.c])) (ht : Tch (fun k => (Value.slice A ts.length c).ownBlock = some k) wr w') (hk : ∀ k, v'.ownBlock = some k → (Value.slice A ts.length c).ownBlock = some k ∨ wr.heap.size ≤ k) :
    ∃ A' c' ts2, ts ++ [r] = ts2 ∧ v' = .slice A' ts2.length c' ∧ TxsK wb w' A' c' ts2 := by
  obtain ⟨A', c', rfl⟩ := own_form own
  have hl : (ts ++ [r]).length = ts.length + 1 := by simp
  refine ⟨A', c', ts ++ [r], rfl, by rw [hl], ?_, fun x hx => ?_, ?_⟩
  · rw [hl, flatX_snocO]; exact own
  · rw [hl]
    have key : ∀ x : TextP, TxO wr (fun k => (Value.slice A ts.length c).ownBlock = some k) x.A x.S x.l → TxO w' (fun k => (Value.slice A' (ts.length + 1) c').ownBlock = some k) x.A x.S x.l := fun x hx => ⟨hx.hS, hx.hf, hx.hl, rowO_push hx.row ht hk⟩
    rcases List.mem_append.1 hx with hx | hx
    · exact key x (h.tx x hx)
    · rw [List.mem_singleton] at hx
      subst hx
      exact key _ hr
  · exact h.bel.trans (ht.below h.bel.size fun k hk => (h.own.lt k hk).1)
/-- a text that a call has made lies outside -/
theorem TxsK.made (h : TxsK wb wr A c ts) {w1 w2 : World} (hs : wr.heap.size ≤ w1.heap.size) {A3 : Option Addr} {c3 : Nat} {S : List UInt8} {l : List RunP} (hS : S.length ≤ maxLen) (hf : Fits l) (hl : l.length ≤ maxLen) (own : w2.ownsRow w1.heap.size 77 2 (.slice A3 l.length c3) l.length (flatR l)) :
    TxO w2 (fun k => (Value.slice A ts.length c).ownBlock = some k) A3 S l :=
  ⟨hS, hf, hl, RowO.of_rowG (rowG_own own) fun k hk hp => by have := (h.own.lt k hp).2; omega⟩
theorem TxsK.txu (h : TxsK wb wr A c ts) : ∀ r ∈ ts, Txu wr r.A r.S r.l := fun r hr => (h.tx r hr).txu
end
/-- the class of the sign that begins at a place -/
def classA (V : List UInt8) (x : Nat) : Nat := classL ((chars V).getD (whichM (chars V) (x : Nat)) (0, 0)).1
/-- what line n gives: a tab of one's own, or none, and the line -/
def shPiece (S : List UInt8) (l : List RunP) (V : List UInt8) (y : Nat) (op : Int) (b n : Int) : List TP :=
  let fr := (boundsL V n).1.1
  let wt := (boundsL V n).1.2
  (if op = 62 ∧ fr < wt then [(makeOf [9] y).1] else []) ++ [(cutOf S l ((if op = 60 ∧ fr < wt ∧ classA V fr = 0 then fr + 1 else fr : Nat) : Int) ((if n < b then wt + 1 else wt : Nat) : Int)).1]
def shList (S : List UInt8) (l : List RunP) (V : List UInt8) (y : Nat) (op : Int) (a b : Int) : Nat → List TP
  | 0 => []
  | k + 1 => shList S l V y op a b k ++ shPiece S l V y op b (a + k)
def shiftedM (S : List UInt8) (l : List RunP) (V : List UInt8) (y : Nat) (op f t : Int) (b : Bool) : OutP × Nat :=
  let p := linesP V f t b
  let x := pileM (shList S l V y op p.1 p.2 (p.2 - p.1 + 1).toNat)
  let tm := turnedM S l y (boundsL V p.1).1.1 (boundsL V p.2).1.2 (x.getD ([], [])).1 (x.getD ([], [])).2 x.isSome
  if tm.2 = 0 then (⟨tm.1.1, [], [], false, false, (firstL tm.1.2 p.1 : Nat)⟩, 0) else (out0, tm.2)
end Go.Proofs.YtgpmfkedcoiopaaGreatDoor

/-
  The document's shifted: > and <: layer 14.
-/
namespace Go.Proofs.YtgpmfkedcoiopaaGreatDoor
open Go.RowKit
set_option maxRecDepth 100000

end Go.Proofs.YtgpmfkedcoiopaaGreatDoor

/-
  The document's joined, J: the plain part: layer 14.
-/
namespace Go.Proofs.YtgpmfkedcoiopaaGreatDoor
open Go.RowKit
set_option maxRecDepth 100000

/-- a row of one text that the program has just made -/
theorem TxsK.one {wb w1 : World} (r : TextP) (hb : Below wb.heap.size wb w1) (h : Txu w1 r.A r.S r.l) :
    TxsK wb (w1.alloc (.cells #[.string ⟨r.S.toArray⟩, .slice r.A r.l.length r.c] 32)) (some ⟨w1.heap.size, 0, none⟩) 1 [r] := by
  have h1 : Below w1.heap.size w1 (w1.alloc (.cells #[.string ⟨r.S.toArray⟩, .slice r.A r.l.length r.c] 32)) := (Below.refl _ _).alloc (Nat.le_refl _) _
  refine ⟨?_, fun x hx => ?_, hb.trans (h1.mono hb.size)⟩
  · exact ⟨rfl, .inr ⟨w1.heap.size, 1, #[.string ⟨r.S.toArray⟩, .slice r.A r.l.length r.c], rfl, hb.size, heap_alloc_new w1 _, Nat.le_refl _, by unfold maxLen; omega, rfl, rfl⟩⟩
  · rw [List.mem_singleton] at hx
    subst hx
    exact ⟨h.hS, h.hf, h.hl, RowO.of_row (h.row.below h1) h1.size fun k hk hp => by injection hp with hp; subst hp; exact Nat.lt_irrefl _ hk⟩
/-- where the blanks that begin at x end, before t -/
def skipB (V : List UInt8) (t : Nat) : Nat → Nat → Nat
  | 0, x => x
  | k + 1, x => if x < t ∧ (V.getD x 0 = 32 ∨ V.getD x 0 = 9) then skipB V t k (x + 1) else x
theorem skipB_le (V : List UInt8) (t : Nat) : ∀ k x, x ≤ t → x ≤ skipB V t k x ∧ skipB V t k x ≤ t
  | 0, x, h => ⟨Nat.le_refl _, h⟩
  | k + 1, x, h => by
    unfold skipB
    split
    · next hc =>
      have := skipB_le V t k (x + 1) hc.1
      exact ⟨by omega, this.2⟩
    · exact ⟨Nat.le_refl _, h⟩
/-- the blanks from x on, before t -/
def blankB (V : List UInt8) (t x : Nat) : Nat := skipB V t (t - x) x
theorem blankB_le {V : List UInt8} {t x : Nat} (h : x ≤ t) : x ≤ blankB V t x ∧ blankB V t x ≤ t := skipB_le V t _ x h
/-- what line n gives to J: a space of one's own, or none, and the line without its blanks -/
def joPiece (S : List UInt8) (l : List RunP) (V : List UInt8) (y : Nat) (n : Int) : List TP :=
  let b := (boundsL V n).1
  let fr := blankB V b.2 b.1
  (if fr < b.2 then [(makeOf [32] y).1] else []) ++ [(cutOf S l (fr : Nat) (b.2 : Nat)).1]
def joList (S : List UInt8) (l : List RunP) (V : List UInt8) (y : Nat) (a : Int) : Nat → List TP
  | 0 => [(cutOf S l ((boundsL V a).1.1 : Nat) ((boundsL V a).1.2 : Nat)).1]
  | k + 1 => joList S l V y a k ++ joPiece S l V y (a + 1 + k)
def joAt (S : List UInt8) (l : List RunP) (V : List UInt8) (y : Nat) (a : Int) : Nat → Nat
  | 0 => 0
  | k + 1 => (boundsL V a).1.1 + ((pileM (joList S l V y a k)).getD ([], [])).1.length
def joEnd (V : List UInt8) (a : Int) : Nat → Nat
  | 0 => (boundsL V a).1.2
  | k + 1 => (boundsL V (a + 1 + k)).1.2
/-- J -/
def joinedM (S : List UInt8) (l : List RunP) (V : List UInt8) (y : Nat) (f t : Int) (b : Bool) : OutP × Nat :=
  let p := linesP V f t b
  let e := max p.2 (p.1 + 1)
  if (countL V : Int) ≤ e then (out0, 6) else
  let k := (e - p.1).toNat
  let x := pileM (joList S l V y p.1 k)
  let tm := turnedM S l y (boundsL V p.1).1.1 (joEnd V p.1 k) (x.getD ([], [])).1 (x.getD ([], [])).2 x.isSome
  if tm.2 = 0 then (⟨tm.1.1, [], [], false, false, (joAt S l V y p.1 k : Nat)⟩, 0) else (out0, tm.2)
end Go.Proofs.YtgpmfkedcoiopaaGreatDoor

/-
  The document's joined, J: its walk: layer 14.
-/
namespace Go.Proofs.YtgpmfkedcoiopaaGreatDoor
open Go.RowKit
set_option maxRecDepth 100000
end Go.Proofs.YtgpmfkedcoiopaaGreatDoor

/-
  The document's Do: its plain part: layer 14.
-/
namespace Go.Proofs.YtgpmfkedcoiopaaGreatDoor
open Go.RowKit
set_option maxRecDepth 100000

theorem ofL_up (V : List UInt8) {p q : Int} (h : p ≤ q) : ofL V p ≤ ofL V q := by
  unfold ofL
  exact endsTo_mono V (by omega)
/-- a right range, as numbers -/
theorem right_facts {V : List UInt8} {f t : Int} {b : Bool} (h : rightM V f t b = true) (hV : V.length ≤ 4096) :
    0 ≤ f ∧ f ≤ t ∧ t ≤ 1000000 ∧
    (∃ F E : Nat, bytesM V f t b = ((F : Int), (E : Int)) ∧ F ≤ E ∧ E ≤ V.length) ∧
    (∃ a e : Nat, linesP V f t b = ((a : Int), (e : Int)) ∧ a ≤ e ∧ e < countL V) := by
  have hcl := countL_le V
  unfold rightM at h
  cases b with
  | true =>
    rw [if_pos rfl] at h
    have h := of_decide_eq_true h
    obtain ⟨i, rfl⟩ : ∃ i : Nat, f = i := ⟨f.toNat, by omega⟩
    obtain ⟨j, rfl⟩ : ∃ j : Nat, t = j := ⟨t.toNat, by omega⟩
    have hj : j < countL V := by omega
    have hi : i < countL V := by omega
    refine ⟨by omega, by omega, by omega, ⟨begL V i, endL V j, ?_, ?_, end_le hj⟩, i, j, rfl, by omega, hj⟩
    · unfold bytesM
      rw [if_pos rfl, boundsL_nat hi, boundsL_nat hj]
    · exact Nat.le_trans (beg_mono (by omega) hj) (beg_end hj)
  | false =>
    rw [if_neg (by decide)] at h
    have h := of_decide_eq_true h
    refine ⟨by omega, by omega, by omega, ⟨f.toNat, t.toNat, ?_, by omega, by omega⟩, ofL V f, ofL V (max f (t - 1)), rfl, ofL_up V (by omega), ofL_le V _⟩
    unfold bytesM
    rw [if_neg (by decide)]
    exact Prod.ext (by show f = _; omega) (by show t = _; omega)
/-- Do -/
def doM (S : List UInt8) (l : List RunP) (y : Nat) (op f t : Int) (b : Bool) : OutP × Nat :=
  let V := (viewOf S l y).1
  if (viewOf S l y).2 ≠ 0 ∨ rightM V f t b = false then (out0, 2)
  else if op = 100 ∨ op = 121 ∨ op = 99 then takenM S l V y op f t b
  else if op = 62 ∨ op = 60 then shiftedM S l V y op f t b
  else if op = 126 then toggledM S l V y f t b
  else if op = 74 then joinedM S l V y f t b
  else (out0, 2)
theorem view_same {S : List UInt8} {l : List RunP} {y : Nat} (h : (viewOf S l y).2 = 0) : S.length = (viewOf S l y).1.length := by
  unfold viewOf at *
  split at h
  · next hg => rw [if_pos hg]; exact (viewTo_len (goodT_size hg).2.2).symm
  · exact absurd h (by decide)
end Go.Proofs.YtgpmfkedcoiopaaGreatDoor

/-
  The document's Do: layer 14.
-/
namespace Go.Proofs.YtgpmfkedcoiopaaGreatDoor
open Go.RowKit
set_option maxRecDepth 100000
end Go.Proofs.YtgpmfkedcoiopaaGreatDoor
