/-
  A range over a string, step by step, in whatever world: the iterator is a block that holds the text and a place.
-/
import Derived.Test.YtnkhlallnblfmaaUtfSigns
namespace Go.Proofs.Ytnkhlallnblfmaa
open Go.RowKit

def Iter (w : World) (g : Nat) (S : List UInt8) (pos : Nat) : Prop := w.heap[g]? = some (.stringIter ⟨S.toArray⟩ pos)
theorem Iter.lt {w : World} {g : Nat} {S : List UInt8} {pos : Nat} (h : Iter w g S pos) : g < w.heap.size := by
  rcases Nat.lt_or_ge g w.heap.size with hlt | hge
  · exact hlt
  · unfold Iter at h; rw [Array.getElem?_eq_none hge] at h; cases h
theorem Iter.below {w w' : World} {g B : Nat} {S : List UInt8} {pos : Nat} (h : Iter w g S pos) (hb : Below B w w') (hg : g < B) : Iter w' g S pos := (hb.block g hg).trans h
theorem Iter.grown {w w' : World} {g : Nat} {row : Option Nat} {S : List UInt8} {pos : Nat} (h : Iter w g S pos) (hb : w.grownBy w' row) (hne : row ≠ some g) : Iter w' g S pos :=
  (hb.block g h.lt (fun e => hne e.symm)).trans h
theorem Iter.far {w w' : World} {g : Nat} {S : List UInt8} {pos : Nat} (h : Iter w g S pos) (hb : w'.heap[g]? = w.heap[g]?) : Iter w' g S pos := hb.trans h
/-- a row of cells is no iterator -/
theorem Iter.not_row {w : World} {g : Nat} {S : List UInt8} {pos : Nat} (h : Iter w g S pos) {base size n : Nat} {e : TypeId} {v : Value} {xs : List Value} (hr : w.ownsRow base e size v n xs) : v.ownBlock ≠ some g := by
  rcases hr.2 with ⟨rfl, _⟩ | ⟨b, cap, cur, rfl, _, hgb, _⟩
  · simp [Value.ownBlock]
  · intro e'
    obtain rfl : b = g := by simpa [Value.ownBlock] using e'
    have := (show w.heap[b]? = _ from h).symm.trans hgb
    simp at this

section
variable {P : Program}
theorem at_next {ops : Array Oper} {rest : List Oper} {a : Act} {Q : Exit → Act → World → Prop} {w : World} {d : Option Nat} {ty : TypeId} {pos : String} {after : Array Edge} {g : Option (Nat × Bool)} (x : Operand) (b : Bool)
    (h : wpList P ops Q (⟨d, .next x b, ty, pos, after, g⟩ :: rest) a w) : wpList P ops Q (⟨d, .next x b, ty, pos, after, g⟩ :: rest) a w := h
theorem at_range {ops : Array Oper} {rest : List Oper} {a : Act} {Q : Exit → Act → World → Prop} {w : World} {d : Option Nat} {ty : TypeId} {pos : String} {after : Array Edge} {g : Option (Nat × Bool)} (T : TypeId) (x : Operand)
    (h : wpList P ops Q (⟨d, .range T x, ty, pos, after, g⟩ :: rest) a w) : wpList P ops Q (⟨d, .range T x, ty, pos, after, g⟩ :: rest) a w := h

theorem wpList_rangeStr {ops : Array Oper} {rest : List Oper} {o : Oper} {a : Act} {Q : Exit → Act → World → Prop} {w : World} (hgd : o.guard = none) (T : TypeId) (x : Operand) (ho : o.op = .range T x)
    (hT : P.underlying T = some .string) (S : List UInt8) (hx : a.eval x = .string ⟨S.toArray⟩)
    (h : ∀ w' g, w.heap.size ≤ g → Iter w' g S 0 → Below w.heap.size w w' → wpList P ops Q rest (a.put o.dst (.pointer (some ⟨g, 0, none⟩))) w') : wpList P ops Q (o :: rest) a w := by
  refine wpList_plain hgd fun K hK => ?_
  have hk := hK _ _ (h (w.iter ⟨S.toArray⟩ 0) w.heap.size (Nat.le_refl _) (World.iter_heap _ _ _) ((Below.refl _ _).alloc (Nat.le_refl _) _))
  unfold Oper.wp execOp
  simp only [ho, hx, run_range_string w T ⟨S.toArray⟩ hT, Sem.run_bind, Sem.run_pure, Result.andThen_ok]
  exact hk

theorem run_next_iter (w : World) (g : Nat) (S : List UInt8) (pos : Nat) (ty : TypeId) (hit : Iter w g S pos) (h : pos < S.length) :
    (Instr.next (.pointer (some ⟨g, 0, none⟩)) true ty).run P w =
      .ok (.tuple #[.bool true, .int .i64 pos, .int .i32 ((dec (S.drop pos)).1 : Nat)]) { w with heap := w.heap.setIfInBounds g (.stringIter ⟨S.toArray⟩ (pos + (dec (S.drop pos)).2)) } := by
  have hs : pos < ({ data := S.toArray } : ByteArray).size := h
  unfold Iter at hit
  rw [← decode_drop S pos]
  simp only [Instr.next, getObj, setObj, Sem.run_bind, Sem.run, hit, Result.andThen, hs, if_true]
  simp [goInt]
theorem run_next_iter_end (w : World) (g : Nat) (S : List UInt8) (pos : Nat) (ty : TypeId) (hit : Iter w g S pos) (h : ¬ pos < S.length) :
    (Instr.next (.pointer (some ⟨g, 0, none⟩)) true ty).run P w = .ok (.tuple #[.bool false]) w := by
  have hs : ¬ pos < ({ data := S.toArray } : ByteArray).size := h
  unfold Iter at hit
  simp [Instr.next, getObj, Sem.run, hit, hs]

theorem wpList_nextStr {ops : Array Oper} {rest : List Oper} {o : Oper} {a : Act} {Q : Exit → Act → World → Prop} {w : World} (hgd : o.guard = none) (x : Operand) (ho : o.op = .next x true)
    (g : Nat) (hx : a.eval x = .pointer (some ⟨g, 0, none⟩)) (S : List UInt8) (pos : Nat) (hit : Iter w g S pos) (hlt : pos < S.length)
    (h : ∀ w', Iter w' g S (pos + (dec (S.drop pos)).2) → w.grownBy w' (some g) → wpList P ops Q rest (a.put o.dst (.tuple #[.bool true, .int .i64 pos, .int .i32 ((dec (S.drop pos)).1 : Nat)])) w') : wpList P ops Q (o :: rest) a w := by
  refine wpList_plain hgd fun K hK => ?_
  have hk := hK _ _ (h { w with heap := w.heap.setIfInBounds g (.stringIter ⟨S.toArray⟩ (pos + (dec (S.drop pos)).2)) }
    (by unfold Iter; simp [hit.lt]) ⟨rfl, rfl, rfl, by simp, fun k _ hk => by
      have hne : g ≠ k := fun e => hk (by rw [e])
      simp [hne]⟩)
  unfold Oper.wp execOp
  simp only [ho, hx, run_next_iter w g S pos _ hit hlt, Sem.run_bind, Sem.run_pure, Result.andThen_ok]
  exact hk
theorem wpList_nextEnd {ops : Array Oper} {rest : List Oper} {o : Oper} {a : Act} {Q : Exit → Act → World → Prop} {w : World} (hgd : o.guard = none) (x : Operand) (ho : o.op = .next x true)
    (g : Nat) (hx : a.eval x = .pointer (some ⟨g, 0, none⟩)) (S : List UInt8) (pos : Nat) (hit : Iter w g S pos) (hlt : ¬ pos < S.length)
    (h : wpList P ops Q rest (a.put o.dst (.tuple #[.bool false])) w) : wpList P ops Q (o :: rest) a w := by
  refine wpList_plain hgd fun K hK => ?_
  have hk := hK _ _ h
  unfold Oper.wp execOp
  simp only [ho, hx, run_next_iter_end w g S pos _ hit hlt, Sem.run_bind, Sem.run_pure, Result.andThen_ok]
  exact hk
end
end Go.Proofs.Ytnkhlallnblfmaa
